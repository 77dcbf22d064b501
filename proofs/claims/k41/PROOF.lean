import PyProof.Rows.All
import Wide.All
import OpenK.AllK
import PySem.Challenge.RW_forerun_k41_one_hand_alone
open Array renaming length_toList→cr,getElem?_eq_getElem→cF,getElem?_toList→cQ,perm_iff_toList_perm→gA,getElem?_eq_none→ig,toList_inj→mY
open Array.Perm renaming mem_iff→oO,trans→pQ,refl→p8
open Bool renaming false_ne_true→bG,and_eq_true→ck,false_eq_true→cC,not_eq_true'→dt,eq_false_iff→iA,or_eq_false_iff→i4,eq_iff_iff→lq
open Classical renaming byContradiction→cS
open False renaming elim→c9
open ForInStep renaming yield→gb
open Iff renaming rfl→p9
open Int renaming emod_lt_of_pos→dC,toNat_natCast→dH,emod_nonneg→dO,le_refl→mT,zero_add→nV,toNat_of_nonneg→oF
open Int.ofNat renaming inj→rD
open List renaming getElem?_eq_getElem→bb,getElem?_cons_zero→bf,length_append→bn,length_map→bo,getElem?_cons_succ→bp,getElem?_eq_some_iff→bq,mem_cons_of_mem→br,mem_cons_self→bt,getElem?_map→bw,getD_eq_getElem?_getD→bC,replicate→bD,mem_cons→bE,mem_singleton→bI,mem_append→bJ,size_toArray→bK,map_cons→bM,append_nil→bO,mem_map→bP,length_cons→bR,mem_map_of_mem→bX,mem_append_right→b6,length→b8,cons_append→ca,set_cons_zero→cf,take_of_length_le→cp,lookup_cons→cq,nil_append→cz,set_cons_succ→cA,map_append→cB,mem_of_getElem?→cE,getElem?_eq_none→cG,length_take→cH,not_mem_nil→cI,map→cM,length_singleton→cN,nodup_cons→cO,length_drop→cT,lookup→cU,eq_nil_of_length_eq_zero→cZ,drop_eq_getElem_cons→da,drop_eq_nil_of_le→df,length_replicate→dh,take_add_one→dq,getElem?_of_mem→dz,mem_of_mem_drop→dA,mem_append_left→dP,mem_of_mem_take→dR,getElem?_append_right→dU,replicate_succ→dY,getElem?_append_left→dZ,nodup_nil→ef,foldl_cons→eA,range→eG,getElem_mem→eN,flatten_cons→eU,ext_getElem?→eV,mem_filter→eW,take_length→fi,pairwise_iff_getElem→fq,append_assoc→fC,pairwise_map→fJ,map_congr_left→fN,mem_filterMap→fT,find?_cons→fZ,take_append_drop→gc,map_map→gm,all_cons→gp,drop_zero→gG,getElem_inj→gJ,filter_sublist→gL,Nodup→gP,eraseIdx_cons_succ→gS,filter_cons_of_neg→gZ,filter_cons_of_pos→ia,getElem?_take→ib,eraseIdxIfInBounds_toArray→iy,getElem?_inj→iC,nodup_append→iD,length_filter_le→iJ,filterMap_append→iQ,all_eq_true→iV,any_cons→i8,sum_cons→i9,filterMap_cons→lj,getElem?_range→lF,filter_eq_self→lJ,getElem?_replicate→mF,filter_cons→mW,getElem?_set_self→m3,drop_of_length_le→nA,of_mem_zip→nH,length_nil→nI,map_nil→nJ,forIn_cons→nK,getElem?_set_ne→nY,take_zero→ot,reverse_append→oB,pairwise_cons→oR,map_take→oW,map_drop→oX,take_sublist→ph,reverse_cons→pB,toArray→pK,any_eq_true→pM,reverse_nil→pO,zipIdx_cons→pP,mem_reverse→pR,drop_length→pS,zipIdx_nil→p0,all_append→rf,sum_append→rg,foldl→rj
open List.Nodup renaming sublist→gY
open List.Pairwise renaming nil→fG,imp→mv
open List.Sublist renaming map→i3
open List.cons renaming injEq→bQ
open Nat renaming le_refl→bh,le_trans→bN,ne_of_lt→bU,zero_le→bW,lt_of_le_of_lt→bY,lt_of_lt_of_le→b7,reduceAdd→b9,reduceSub→cg,le_succ_of_le→cu,le_add_right→fh,ne_of_gt→fj,lt_or_ge→fo,min_eq_left→fH,lt_irrefl→fK,succ_le_succ→fQ,min_eq_right→iX,sub_zero→lV,eq_zero_or_pos→lX,lt_succ_self→mU,le_of_eq→nE,zero_add→nU,add_assoc→oU,add_right_comm→oV,le_of_lt→pF,lt_trans→pJ,le_succ→pX
open Ne renaming symm→fc
open Option renaming map_eq_some_iff→cy,isSome_iff_exists→eK,map_some→lz,isSome_map→mf,getD_none→mV,isNone_some→oS,getD_some→pN,or_none→rh
open Option.some renaming injEq→bu,inj→bV
open Or renaming inl→bZ,inr→mX
open Prod renaming ext→rB
open Prod.mk renaming inj→oC
open PyProof renaming noPylong_of_log2→mm
open PyProof.Rows renaming callWith_type1→fW,reads_newData→mM,subscriptTail_builtinR→m6,entry_proto_collect'→n9,lt_int→ou,listUpdate_at→oP
open PySem renaming wpAny_bind→ba,wpAny_pure→bg,sizeLine_eq→bT,wpAny_newObj_type→cV,wpAny_setField_rec→cX,wpAny_call_entry→c8,wpAny_callSpecial?_slot→dv,wpAny_field→dE,wpAny_mono→dG,wpAny_dictEntries→dJ,tupleKind_room_in1→dM,wpAny_typeNameOfWhole_itemiter→eD,wpAny_typeNameOfWhole_keyiter→eL,wpAny_holding→eO,wpAny_execs_nil→eX,mem_of_lookup→eY,codeAny_builtin→eZ,wpAny_notOrdered_dict→fm,wpAny_typeNameOf_itemiter→fu,wpAny_truthy_bool→fA,wpAny_passesOwn→fB,wpAny_typeNameOf_keyiter→fI,wpAny_seqItems→fS,wpAny_Call_Name_kw→fU,codeAny_mono→fY,wpAny_dictEpoch→gh,wpAny_loadPart'→gj,call_meets→gq,wpAny_Call_method→gu,plainId_quiet→gy,wpAny_attempt→gX,wpAny_isOneOf_itemiter→ii,plainObj_wpAny_Assign_Attribute→ir,wpAny_setField→iF,call_meetsIn→iK,codeAny_handlers_test→iO,wpAny_execs_cons→iU,wpAny_pyIter_zip→iY,wpAny_rule→lh,wpAny_handleBy_cons→lH,wpAny_updateSeq→lI,wpAny_pyIter_tuple→lR,wpAny_letOwnedTupleGo_zip→lY,wpAny_fieldsOf→l7,call→mh,wpAny_comprehension_free→mj,wpAny_Call_method0_late→mH,wpAny_letGo→mO,wpAny_isInstance→mZ,wpAny_pyNext_list_item→m4,codeAny_handlers_suite→m8,wpAny_pyNext_list_end→nD,wpAny_isOneOf_keyiter→nQ,size_of_entries→nT,wpAny_load→nW,typeIs_str→nX,wpAny_updateSeq_pair→nZ,wpAny_pyIter_keyiter→n0,wpAny_updateDictKeys→om,wpAny_newTuple→oo,isSubtype_stop→oq,evalArgs_none→oy,wpAny_handled→oM,wpAny_onRaise→oN,wpAny_newList→oQ,wpAny_call→oZ,Within→pE,wpAny_typeOf→pL
open PySem.Around renaming under_plainId→dy,under→pH
open PySem.Builtin.Dict renaming showsAll→gg,keyAndDefault→lO,updateFrom→mP,takeOut→oh
open PySem.Builtin.Dict_items renaming ownsTuple→dL,ownedTupleFields→gM,ownedTupleIsFree→gN,pairFromOwner→ic
open PySem.Builtin.Int renaming intBits→dD,intTooBig→nS
open PySem.Builtin.List renaming listExtendWith→dn,listTooLong→fE,listFitsIndex→lL,listSameRef→mx,listItems→nu
open PySem.Builtin.SmallTypes renaming ownedTupleIsFree→dF,nextOf→eo,ownedTupleHandOut→gH
open PySem.Builtin.Str renaming occurrences→gT,strSliceIndices→lB,glued→mq,tooLong→oz
open PySem.Calls renaming spliced_cons→cW,callWith_builtin→de,evalArgs_plain→dQ,spliced_nil→eS,Name_function_global→lK,call_function_entry→lZ,Constant_str→oI
open PySem.Code renaming isFrame→pI
open PySem.F renaming plainAttrs_list→bS,slot_list_append→cw,type_list_append→cx,plainAttrs_dict→dN,plain_extend_loop→eu,slot_dict_pop→eB,slot_dict_itemiterator_next→eM,slot_dict_keyiterator_next→eQ,plain_list_iadd→fO,entry_dict_pop→ie,args_dict_itemiterator_next_1→iB,slot_dict_get→iL,type_dict_pop→iM,args_dict_keyiterator_next_1→iN,entry_dict_itemiterator_next→iP,slot_list_pop→iR,type_list_pop→iS,entry_dict_keyiterator_next→iZ,slot_dict_setdefault→lf,slot_zip_next→lE,plain_proto_collect→lG,slot_tuple_iterator_next→lM,entry_extend_loop→l8,args_tuple_add_2→ma,slot_list_remove→mz,type_list_remove→mC,slot_list_insert→mD,type_list_insert→mE,entry_tuple_add→mG,args_dict_pop_2→mI,args_dict_pop_3→mJ,args_dict_get_3→mK,slot_dict_items→mQ,slot_tuple_add→m5,entry_dict_get→m7,slot_dict_items_iter→nh,plainAttrs_str→nB,slot_tuple_lt→nR
open PySem.Heap renaming get?_push_of_some→bd,get?_push_size→bB,lt_size→bH,SameBut→cP,get?_update_other→dW,get?_update_self→eC,size_push→eR,get?_push_cases→og,ExtBut→pZ
open PySem.Heap.SameBut renaming update→cY
open PySem.NameKind renaming free→dg,cell→mL
open PySem.Obj renaming mapSeq→dI,data_mapDictKeys→gB,data_mapFields→gW,isFreed_of_fields→nO,isFreed_of_dict→oE,cls_mapFields→pC
open PySem.Paired renaming length→bF
open PySem.PassesOwn renaming never→cK
open PySem.PyData renaming strOk→cR,depthAll→gU,depth→nN,canLay0→on,canLayAll0→pA
open PySem.SeqAt renaming noMixAll→iE,shaped→nM,noMix→oA
open PySem.SeqAt.EqAt renaming int_int→lS,str_str→lU,int_str→oG,str_int→oH
open PySem.Shared renaming TypeIs→rC
open PySem.Spec renaming sameAll→lW,same→pY
open PySem.Str renaming ofString→bc,empty→gD,length→iu,length_append→mo
open PySem.Txt renaming slice→gF
open PySem.Value renaming ref→bL,none→cL,int→fV,str→gQ,bool→ik,type→l9,float→pU
open PySem.W renaming Frag→bx,findIn→cm,emptyDict→dX,mg_none_of→eE,keepIn→eI,kitOne→fM,instObj→fP,hideAll_none→fR,hideAll→gC,kia_one→gE,nsIn→gI,hasDictIn→gK,plainGet→gO,codeIn→gR,plainOver→iq,exmOne→iG,makesIn→iH,fnOf→iI,funFrames_hide→iW,hideAll_get→i7,of_hideAll→lQ,mg_of→mR,callWith_K→nF,methodCall_KW→nG,kas_place→nP,plainGet_of→oJ,OpenLaw→oK,excIn→pq,isFn→pG,exmAny→pT,methodObj→pV,specialIn→pW,lookIn→rm,Looks→ro,mroIn→rq,WalkO→rA
open PySem.W.KatTups renaming cons→rE
open PySem.W.Looks renaming ld→pD
open Sum renaming inl→iT,inr→oY
open True renaming intro→eJ
open Bool renaming true→af,false→am
open Option renaming some→aa,none→ah
open PySem renaming Addr→ac,Value→ae,Shared→ag,Program→au,Heap→av,World→aw,Around→ax,Stmt→ay,Expr→aA,Scope→aB,Result→aC
set_option Elab.async false
set_option linter.all false
set_option maxRecDepth 100000
local macro_rules|`(tactic|lia)=>`(tactic|first|decide +kernel|(intro _ z;cases z;done)|(intro z;cases z;done))
theorem ak{c:Prop}{h:Decidable c}(n:¬c){α:Sort u}{t e:α}:ite c t e=e:=if_neg n
theorem ao{c:Prop}{h:Decidable c}(n:c){α:Sort u}{t e:α}:ite c t e=t:=if_pos n
theorem ap{α:Sort u}{p:α->Prop}{a:α}:(∃x,a=x/\p x)↔p a:=exists_eq_left'
theorem aq{α:Sort u}{p:α->Prop}{b:Prop}:(∃x,b/\p x)↔b/\∃x,p x:=exists_and_left
namespace L2
open PySem PySem.Spec PyProof.Rows
abbrev Key:=Sum Int Str
def Wr:Key->ae->Bool
 | .inl k,v=>Value.isInt k v
 | .inr x,v=>Value.isStrOf x v
def zhe(w:aw):Key->Int
 | .inl k=>hashInt k
 | .inr x=>hashStr w x
theorem yE:∀ {k:Key} {v:ae},Wr k v=af->(∃i t,k=iT i/\v=fV i t)\/(∃x t,k=oY x/\v=gQ x t)
 | .inl i,v,h=>by
  obtain⟨t,e⟩:=Value.isInt_shape (k:=i) (v:=v) h
  exact .inl ⟨i,t,rfl,e⟩
 | .inr x,v,h=>by
  obtain⟨t,e⟩:=Value.isStrOf_shape (x:=x) (v:=v) h
  exact .inr ⟨x,t,rfl,e⟩
theorem zbJ(i:Int)(t:Tok):Wr (.inl i) (.int i t)=af:=by simp[Wr,Value.isInt]
theorem zbK(x:Str)(t:Tok):Wr (.inr x) (.str x t)=af:=by simp[Wr,Value.isStrOf]
theorem zfP(a b:Int):decide ((iT a:Key)=iT b)=(a == b):=by
 by_cases e:a=b
 ·subst e;simp
 ·have h:¬ (iT a:Key)=iT b:=λq=>e (Sum.inl.inj q)
  rw[decide_eq_false h]
  exact(beq_eq_false_iff_ne.mpr e).symm
theorem zfQ(a b:Str):decide ((oY a:Key)=oY b)=decide (a=b):=by
 by_cases e:a=b
 ·subst e;simp
 ·have h:¬ (oY a:Key)=oY b:=λq=>e (Sum.inr.inj q)
  rw[decide_eq_false h,decide_eq_false e]
theorem zfR(a:Int)(b:Str):decide ((iT a:Key)=oY b)=am:=decide_eq_false (λq=>nomatch q)
theorem zfS(a:Str)(b:Int):decide ((oY a:Key)=iT b)=am:=decide_eq_false (λq=>nomatch q)
def yn(prog:au)(w:aw):PySem.KeyKind prog w Key where
 is:=Wr
 hash:=zhe w
 inj:=λv a b ha hb=>by
  rcases yE ha with ⟨i,t,rfl,rfl⟩ | ⟨x,t,rfl,rfl⟩
  ·rcases yE hb with ⟨j,u,rfl,e⟩ | ⟨y,u,rfl,e⟩
   ·injection e with e1 _;rw[e1]
   ·exact nomatch e
  ·rcases yE hb with ⟨j,u,rfl,e⟩ | ⟨y,u,rfl,e⟩
   ·exact nomatch e
   ·injection e with e1 _;rw[e1]
 byValue:=λk v h=>by
  rcases yE h with ⟨i,t,rfl,rfl⟩ | ⟨x,t,rfl,rfl⟩ <;> rfl
 pyHash:=λhv h=>by
  rcases yE hv with ⟨i,t,rfl,rfl⟩ | ⟨x,t,rfl,rfl⟩
  ·exact wpAny_pyHash_int h
  ·exact wpAny_pyHash_str h
 eqBool:=λhu hv h=>by
  rcases yE hu with ⟨i,t,rfl,rfl⟩ | ⟨x,t,rfl,rfl⟩
  ·rcases yE hv with ⟨j,u,rfl,rfl⟩ | ⟨y,u,rfl,rfl⟩
   ·rw[zfP] at h;exact wpAny_eqBool_int h
   ·rw[zfR] at h;exact oG i t y u _ _ _ _ h
  ·rcases yE hv with ⟨j,u,rfl,rfl⟩ | ⟨y,u,rfl,rfl⟩
   ·rw[zfS] at h;exact oH x t j u _ _ _ _ h
   ·rw[zfQ] at h;exact wpAny_eqBool_str h
 «strs»:=λk x t v h=>by
  rcases yE h with ⟨i,u,rfl,e⟩ | ⟨y,u,rfl,e⟩
  ·exact nomatch e
  ·injection e with e1 _
   subst e1
   cases v <;> rfl
theorem Kw(prog:au)(w:aw)(i:Int)(t:Tok):(yn prog w).is (.inl i) (.int i t)=af:=zbJ i t
theorem Kx(prog:au)(w:aw)(x:Str)(t:Tok):(yn prog w).is (.inr x) (.str x t)=af:=zbK x t
inductive V where
 | non | bl (b:Bool) | int (i:Int) | str (x:Str) | byt (b:Array UInt8) | flt (b:UInt64) | ref (a:ac) | ty (n:String)
 deriving DecidableEq
def RelV:V->ae->Prop
 | .non,u=>u=cL
 | .bl b,u=>u=ik b
 | .int i,u=>∃t,u=fV i t
 | .str x,u=>∃t,u=gQ x t
 | .byt b,u=>∃t,u=Value.bytes b t
 | .flt b,u=>∃t,u=pU b t
 | .ref a,u=>u=bL a
 | .ty n,u=>u=l9 n
abbrev Vals:List V->List ae->Prop:=Paired RelV
theorem Vals.length(r:Vals xs us):xs.length=us.length:=bF r
theorem Vals.get:∀ {xs:List V} {us:List ae} {i:Nat} {x:V},Vals xs us->xs[i]?=aa x->∃u,us[i]?=aa u/\RelV x u
 | _,_,_,_,.nil,e=>by simp at e
 | _,_,0,_,.cons r _,e=>by simp at e;subst e;exact⟨_,rfl,r⟩
 | _,_,i + 1,x,.cons _ t,e=>by
  obtain⟨u,h1,h2⟩:=Vals.get (i:=i) (x:=x) t (by simpa using e)
  exact⟨u,by simpa using h1,h2⟩
theorem Vals.append:∀ {xs ys:List V} {us ws:List ae},Vals xs us->Vals ys ws->Vals (xs ++ ys) (us ++ ws)
 | _,_,_,_,.nil,s=>s
 | _,_,_,_,.cons r t,s=>.cons r (Vals.append t s)
theorem Vals.take:∀ {xs:List V} {us:List ae} (n:Nat),Vals xs us->Vals (xs.take n) (us.take n)
 | _,_,0,_=>.nil
 | _,_,_ + 1,.nil=>.nil
 | _,_,n + 1,.cons r t=>.cons r (Vals.take n t)
theorem Vals.drop:∀ {xs:List V} {us:List ae} (n:Nat),Vals xs us->Vals (xs.drop n) (us.drop n)
 | _,_,0,r=>r
 | _,_,_ + 1,.nil=>.nil
 | _,_,n + 1,.cons _ t=>Vals.drop n t
def RelO:Option V->Option ae->Prop
 | some v,aa u=>RelV v u
 | none,ah=>True
 | _,_=>False
def KV{κ:Type}:List (κ × V)->List (κ × ae)->Prop:=Paired λ(p:κ × V) (q:κ × ae)=>p.1=q.1/\RelV p.2 q.2
def kV:Key->V
 | .inl i=>.int i
 | .inr x=>.str x
inductive HO where
  | lst (xs:List V)
  | tup (xs:List V)
  | dK (kvs:List (Key × V)) | dT (kvs:List (List Key × V))
  | set (S:Int->Bool) (n:Nat)
  | ins (C dx:ac) (fs:List (Str × V))
  | own (x:ac)
  | xd (fs:List (Str × V))
  | met (f x:ac)
  | rng (lo hi:Int)
  | frz (o:Obj) (u:HO)
  | tbl (ps:Array ae)
  | ext (φ:av->Prop)
abbrev Hp:=ac->Option HO
def upd(H:Hp)(a:ac)(o:HO):Hp:=λb=>if b=a then aa o else H b
theorem zg{H:Hp} :upd H a o a=aa o:=by unfold upd;rw[ao rfl]
theorem zk{H:Hp}(h:b≠a):upd H a o b=H b:=by unfold upd;rw[ak h]
theorem Ys{H:Hp} :upd (upd H a o) a u=upd H a u:=by
 funext b;unfold upd;split <;> rfl
theorem zT{H:Hp}(h:H a=aa o)(h':H b=aa u)(d:o≠u):a≠b:=by
 intro e;subst e;rw[h] at h';exact d (bV h')
theorem zC{H:Hp}(h:H a=aa o)(h':H b=ah):a≠b:=by
 intro e;subst e;rw[h] at h';cases h'
section
variable (P:au)(w:aw)
def ObjOk(H:Hp)(h:av)(a:ac):HO->Prop
 | .lst xs=>xs.length<=sizeLine/\∃(its:List ae) (n:Nat),Vals xs its/\h.get? a=aa { cls:=.type "list",data:=.seq its.toArray n }
 | .tup xs=>xs.length<=sizeLine/\∃its:List ae,Vals xs its/\IsTup h a its.toArray
 | .dK kvs=>kvs.length<=sizeLine/\(a == sysModules)=am/\∃vs,KV kvs vs/\h.DictOf (yn P w) a vs
 | .dT kvs=>kvs.length<=sizeLine/\(a == sysModules)=am/\∃xs:List (List Key × ac × ae),
   Paired (λ(p:List Key × V) (q:List Key × ac × ae)=>p.1=q.1/\H q.2.1=aa (.tup (p.1.map kV))/\RelV p.2 q.2.2) kvs xs /\
   ∃o es ep,h.get? a=aa o/\o.ExactDict/\o.data=.dict es ep/\es.toList=xs.map (entryOfKey (tupleKind (yn P w)))/\(xs.map (·.1)).Nodup
 | .set S n=>h.SetOf (intKind P w) a S n
 | .ins C dx fs=>H dx=aa (.own a)/\fs.length<=1000/\dx≠a/\h.get? a=aa (fP C dx) /\
   ∃mA,h.Ns1 dx mA/\(∀f,RelO (fs.lookup f) (mA f))/\pE mA (fs.map (·.1))
 | .own _=>∃o,h.get? a=aa o
 | .xd fs=>∃mA,h.Ns1 a mA/\∀f,RelO (fs.lookup f) (mA f)
 | .rng lo hi=>∃t u v,h.get? a=aa { cls:=.type "range",data:=.fields #[.int lo t,.int hi u,.int 1 v] }
 | .frz o u=>h.get? a=aa o/\ObjOk H h a u
 | .tbl ps=>h.get? a=aa { cls:=.none,data:=.fields ps }
 | .met f x=>h.get? a=aa (pV (.ref f) (.ref x))
 | .ext φ=>φ h/\(∃o,h.get? a=aa o)/\∀h1 h2:av,φ h1->(∀o,h1.get? a=aa o->h2.get? a=aa o)->φ h2
def HOk(H:Hp)(h:av):Prop:=∀a o,H a=aa o->ObjOk P w H h a o
end
section
variable {P:au}{w:aw}{H H':Hp}{h h':av}{a:ac}{o:HO}
theorem ObjOk.lt(x:ObjOk P w H h a o):a < h.objs.size:=by
 cases o with
 | lst xs=>obtain⟨_,_,_,_,e⟩:=x;exact bH e
 | tup xs=>obtain⟨_,_,_,p⟩:=x;exact p.lt
 | dK kvs=>obtain⟨_,_,_,_,o,_,_,e,_⟩:=x;exact bH e
 | dT kvs=>obtain⟨_,_,_,_,o,_,_,e,_⟩:=x;exact bH e
 | set S n=>obtain⟨o,_,_,_,e,_⟩:=x;exact bH e
 | ins C dx fs=>obtain⟨_,_,_,e,_⟩:=x;exact bH e
 | own y=>obtain⟨_,e⟩:=x;exact bH e
 | xd fs=>obtain⟨_,⟨_,_,_,e,_⟩,_⟩:=x;exact bH e
 | rng lo hi=>obtain⟨_,_,_,e⟩:=x;exact bH e
 | frz ob u=>obtain⟨e,_⟩:=x;exact bH e
 | tbl ps=>exact bH (show h.get? a=aa _ from x)
 | met f y=>exact bH (show h.get? a=aa _ from x)
 | ext φ=>obtain⟨_,⟨_,e⟩,_⟩:=x;exact bH e
theorem Paired.mapP{α β:Type}{F G:α->β->Prop}:∀ {l₁:List α} {l₂:List β},Paired F l₁ l₂->(∀a b,F a b->G a b)->Paired G l₁ l₂
 | _,_,.nil,_=>.nil
 | _,_,.cons r t,f=>.cons (f _ _ r) (Paired.mapP t f)
theorem ObjOk.stay(x:ObjOk P w H h a o)(k:∀b u,(b=a\/H b=aa (.own a))->h.get? b=aa u->h'.get? b=aa u)
  (ho:∀b,H b=aa (.own a)->H' b=aa (.own a)) (ht:∀b xs,H b=aa (.tup xs)->H' b=aa (.tup xs)):ObjOk P w H' h' a o:=by
 induction o with
 | lst xs=>obtain⟨z,its,n,r,e⟩:=x;exact⟨z,its,n,r,k _ _ (.inl rfl) e⟩
 | tup xs=>obtain⟨z,its,r,ob,e,c⟩:=x;exact⟨z,its,r,ob,k _ _ (.inl rfl) e,c⟩
 | dK kvs=>obtain⟨z,y,vs,r,ob,es,ep,e,c⟩:=x;exact⟨z,y,vs,r,ob,es,ep,k _ _ (.inl rfl) e,c⟩
 | dT kvs =>
  obtain⟨z,y,xs,r,ob,es,ep,e,c⟩:=x
  exact⟨z,y,xs,Paired.mapP r λp q z=>⟨z.1,ht _ _ z.2.1,z.2.2⟩,ob,es,ep,k _ _ (.inl rfl) e,c⟩
 | set S n=>obtain⟨ob,es,ep,t,e,c⟩:=x;exact⟨ob,es,ep,t,k _ _ (.inl rfl) e,c⟩
 | ins C dx fs =>
  obtain⟨d,z,ne,e,mA,⟨od,es,ep,e2,c⟩,r⟩:=x
  exact⟨ho _ d,z,ne,k _ _ (.inl rfl) e,mA,⟨od,es,ep,k _ _ (.inr d) e2,c⟩,r⟩
 | own y=>obtain⟨ob,e⟩:=x;exact⟨ob,k _ _ (.inl rfl) e⟩
 | xd fs=>obtain⟨mA,⟨od,es,ep,e,c⟩,r⟩:=x;exact⟨mA,⟨od,es,ep,k _ _ (.inl rfl) e,c⟩,r⟩
 | rng lo hi=>obtain⟨t,u,v,e⟩:=x;exact⟨t,u,v,k _ _ (.inl rfl) e⟩
 | frz ob u ih=>obtain⟨e,q⟩:=x;exact⟨k _ _ (.inl rfl) e,ih q⟩
 | tbl ps =>
  have e:h.get? a=aa { cls:=.none,data:=.fields ps }:=x
  show h'.get? a=aa { cls:=.none,data:=.fields ps }
  exact k a _ (.inl rfl) e
 | met f y =>
  have e:h.get? a=aa (pV (.ref f) (.ref y)):=x
  show h'.get? a=aa (pV (.ref f) (.ref y))
  exact k a _ (.inl rfl) e
 | ext φ=>obtain⟨p,⟨o,e⟩,st⟩:=x;exact⟨st _ _ p λo q=>k _ _ (.inl rfl) q,⟨o,k _ _ (.inl rfl) e⟩,st⟩
theorem HOk.lt(x:HOk P w H h)(e:H a=aa o):a < h.objs.size:=(x a o e).lt
theorem HOk.fresh(x:HOk P w H h)(e:h.objs.size<=a):H a=ah:=by
 cases q:H a with
 | none=>rfl
 | some u=>exact absurd (b7 (x.lt q) e) (fK _)
theorem HOk.kept(x:HOk P w H h)(k:∀b u,h.get? b=aa u->h'.get? b=aa u):HOk P w H h':=λa o e =>
 (x a o e).stay (λb u _ q=>k b u q) (λ_ q=>q) λ_ _ q=>q
theorem HOk.laid(x:HOk P w H h)(k:∀b u,h.get? b=aa u->h'.get? b=aa u)(hp:h.objs.size<=a)(new:ObjOk P w (upd H a o) h' a o):HOk P w (upd H a o) h':=λb u e=>by
 have hn:=x.fresh hp
 by_cases hb:b=a
 ·subst hb;rw[zg] at e;cases e;exact new
 ·rw[zk hb] at e
  exact(x b u e).stay (λc v _ q=>k c v q) (λc q=>by rw[zk (zC q hn)];exact q) λc xs q=>by rw[zk (zC q hn)];exact q
end
def Rd(H:Hp)(a:ac)(u:HO):Prop:=H a=aa u\/∃o,H a=aa (.frz o u)
theorem Rd.ok{H:Hp}(r:Rd H a u)(x:HOk P w H h):ObjOk P w H h a u:=by
 rcases r with r | ⟨o,r⟩
 ·exact x a u r
 ·obtain⟨_,q⟩:=x a _ r
  exact q
def Mut:Option HO->Prop
 | some (.lst _)=>True
 | some (.dK _)=>True
 | some (.dT _)=>True
 | some (.set _ _)=>True
 | some (.ins _ _ _)=>True
 | some (.ext _)=>True
 | _=>False
section
variable {P:au}{w:aw}{H:Hp}{h h':av}{x e:ac}{o':HO}
theorem HOk.write(ok:HOk P w H h)(mu:Mut (H x))(he:e=x\/H e=aa (.own x))(k:∀b u,b≠e->h.get? b=aa u->h'.get? b=aa u)(heo:∃u,h'.get? e=aa u)
  (new:ObjOk P w (upd H x o') h' x o'):HOk P w (upd H x o') h':=λb u q=>by
 have nown:∀c y,H c=aa (.own y)->c≠x:=λc y r z=>by subst z;rw[r] at mu;exact mu
 have ntup:∀c xs,H c=aa (.tup xs)->c≠x:=λc xs r z=>by subst z;rw[r] at mu;exact mu
 by_cases hb:b=x
 ·subst hb;rw[zg] at q;cases q;exact new
 ·rw[zk hb] at q
  by_cases hbe:b=e
  ·have q':H b=aa (.own x):=by
    rcases he with z | z
    ·exact absurd (hbe.trans z) hb
    ·rw[hbe];exact z
   rw[q] at q';cases q'
   obtain⟨v,hv⟩:=heo
   exact⟨v,by rw[hbe];exact hv⟩
  ·refine(ok b u q).stay (λc v hc r=>k c v ?_ r) (λc r=>by rw[zk (nown c b r)];exact r) λc xs r=>by rw[zk (ntup c xs r)];exact r
   rcases hc with rfl | hc
   ·exact hbe
   ·rintro rfl
    rcases he with z | z
    ·exact nown c b hc z
    ·rw[hc] at z;cases z;exact hb rfl
end
structure Un(fs ex:List ac)(H H':Hp)(h h':av):Prop where
 keep:∀b o,h.get? b=aa o->H b=ah->b ∉ fs->b ∉ ex->h'.get? b=aa o
 slot:∀b o,h.get? b=aa o->H b=ah->b∈fs->b ∉ ex->∃sl,h'.get? b=aa { o with slots:=sl }
 free:∀b o,h.get? b=aa o->H b=ah->b ∉ ex->H' b=ah
 there:∀b o,h.get? b=aa o->b ∉ ex->∃o',h'.get? b=aa o'
 tups:∀b xs,H b=aa (.tup xs)->H' b=aa (.tup xs)
 frzs:∀b o u,H b=aa (.frz o u)->H' b=aa (.frz o u)
 tbls:∀b ps,H b=aa (.tbl ps)->∃more,H' b=aa (.tbl (ps ++ more))
section
variable {fs fs' ex ex':List ac}{H H1 H2:Hp}{h h1 h2 h':av}{a x e:ac}{o:HO}
theorem Un.any(u:Un fs ex H H1 h h1)(q:h.get? b=aa ob)(n:H b=ah)(hx:b ∉ ex):∃sl,h1.get? b=aa { ob with slots:=sl }:=by
 by_cases hb:b∈fs
 ·exact u.slot b ob q n hb hx
 ·exact⟨ob.slots,u.keep b ob q n hb hx⟩
theorem Un.kept(k:∀b u,h.get? b=aa u->h'.get? b=aa u):Un fs ex H H h h' :=
 ⟨λb ob q _ _ _=>k b ob q,λb ob q _ _ _=>⟨ob.slots,k b ob q⟩,λ_ _ _ n _=>n,λb ob q _=>⟨ob,k b ob q⟩,λ_ _ q=>q,λ_ _ _ q=>q,λ_ ps q=>⟨#[],by rw[q];simp⟩⟩
theorem Un.refl:Un fs ex H H h h:=Un.kept λ_ _ q=>q
theorem Un.laid(k:∀b u,h.get? b=aa u->h'.get? b=aa u)(hp:h.objs.size<=a)(hn:H a=ah):Un fs ex H (upd H a o) h h' where
 keep:=λb u q _ _ _=>k b u q
 slot:=λb u q _ _ _=>⟨u.slots,k b u q⟩
 free:=λb u q n _=>by rw[zk (bU (b7 (bH q) hp))];exact n
 there:=λb u q _=>⟨u,k b u q⟩
 tups:=λb xs q=>by rw[zk (zC q hn)];exact q
 frzs:=λb u xs q=>by rw[zk (zC q hn)];exact q
 tbls:=λb ps q=>⟨#[],by rw[zk (zC q hn),q];simp⟩
theorem Un.write(mu:Mut (H x))(he:e=x\/H e=aa (.own x))(k:∀b u,b≠e->h.get? b=aa u->h'.get? b=aa u)(heo:∃u,h'.get? e=aa u):Un fs ex H (upd H x o) h h':=by
 have hx:∀b,H b=ah->b≠x:=λb n z=>by subst z;rw[n] at mu;exact mu
 have hb:∀b,H b=ah->b≠e:=λb n z=>by
  subst z
  rcases he with r | r
  ·exact hx b n r
  ·rw[n] at r;cases r
 have hm:∀b u,H b=aa u->¬ Mut (aa u)->b≠x:=λb u q nm z=>by subst z;rw[q] at mu;exact nm mu
 refine⟨λb u q n _ _=>k b u (hb b n) q,λb u q n _ _=>⟨u.slots,k b u (hb b n) q⟩,λb u q n _=>by rw[zk (hx b n)];exact n,λb u q _=>?_,
  λb xs q=>by rw[zk (hm b _ q λz=>z)];exact q,λb u xs q=>by rw[zk (hm b _ q λz=>z)];exact q,λb ps q=>⟨#[],by rw[zk (hm b _ q λz=>z),q];simp⟩⟩
 by_cases hbe:b=e
 ·subst hbe;exact heo
 ·exact⟨u,k b u hbe q⟩
end
def trk(h:av)(H:Hp):List ac:=(eG h.objs.size).filter λa=>(H a).isSome
def Ju(h:av)(H:Hp):av:=gC h (trk h H)
theorem zbL(h:av)(H:Hp):(Ju h H).objs.size=h.objs.size:=W.hideAll_size _ _
theorem zcv{H:Hp}(e:h.get? b=aa o)(n:H b=ah):(Ju h H).get? b=aa o:=
 i7 _ e λhm=>by
  have q:(H b).isSome=af:=(eW.mp hm).2
  rw[n] at q;simp at q
theorem zeq{H:Hp}(e:(Ju h H).get? b=aa o):h.get? b=aa o/\H b=ah:=by
 have e':h.get? b=aa o:=lQ (trk h H) e
 refine⟨e',?_⟩
 cases q:H b with
 | none=>rfl
 | some x =>
  have hm:b∈trk h H:=eW.mpr ⟨List.mem_range.mpr (bH e'),by simp[q]⟩
  have z:(Ju h H).get? b=ah:=fR (trk h H) hm
  rw[z] at e;cases e
def zer(g h:av)(L:ac):List (ac × Obj):=(eG h.objs.size).filterMap λa=>if a=L\/(g.get? a).isSome=af then ah else (h.get? a).map λo=>(a,o)
def rest(g h:av)(L d:ac):List (ac × Obj):=(zer g h L).filter λp=>decide (p.1≠d)
structure Mod(K:bx)(mg:Str->Option ae)(base:av):Prop where
 kin:K.In base
 glob:base.Ns mainGlobals mg
 blt:∃mb,base.Ns builtinsNs mb/\∀x:Str,x≠"__name__"->mb x=bootBuiltins x
 nolimit:base.NoLimit
set_option genSizeOf false in
set_option genInjectivity false in
structure Cx where
 prog:au
 w:aw
 K:bx
 mg:Str->Option ae
 base:av
 A:ax
 N:List Str
 s₀:ag
 H₀:Hp
 env:Env
 outer:List Env
 stack:List Env
 ex:List ac
 fn:Str->Bool
 calm:Bool
 pn:List (ac × Obj)
 xe:ae->ag->Prop
def frs(l:List Env):List ac:=l.filterMap (·.frame)
abbrev Cx.fs(X:Cx):List ac:=frs X.outer
def Vis(sc:aB)(x:Str):Prop:=sc.names.lookup x=aa .local\/sc.names.lookup x=aa .cell\/sc.names.lookup x=aa .free
def Loc(sc:aB)(x:Str):Prop:=sc.names.lookup x=aa .local\/sc.names.lookup x=aa .cell
def zhf(env:Env)(h:av)(m:Str->Option ae)(x:Str)(u:ae):Prop :=
 (env.kindOf x=aa .local/\m x=aa u)\/((env.kindOf x=aa .cell\/env.kindOf x=aa .free)/\∃c,env.cells.lookup x=aa c/\h.IsCell c (aa u))
structure Cx.Ok(X:Cx):Prop where
 mod:Mod X.K X.mg X.base
 kind:X.env.scope.kind=.function
 glob:X.env.globals=mainGlobals
 blt:X.env.builtins=builtinsNs
 above:X.s₀.heap.objs.size<=X.env.locals
 inj:∀x y c,X.env.cells.lookup x=aa c->X.env.cells.lookup y=aa c->x=y
 has:∀x,(X.env.kindOf x=aa .cell\/X.env.kindOf x=aa .free)->∃c,X.env.cells.lookup x=aa c
 cab:∀x c,X.fn x=af->X.env.cells.lookup x=aa c->X.s₀.heap.objs.size<=c
 hd:X.calm=af->X.A.handled=ah
 frames:X.A.frames=aa X.stack
 stk:X.stack=X.outer\/(X.stack=X.env :: X.outer/\X.env.frame=aa X.env.locals)
 exf:∀b∈X.ex,b≠X.env.locals/\∀x c,X.env.cells.lookup x=aa c->c≠b
 bs:∀b o,X.base.get? b=aa o->X.s₀.heap.get? b=aa o/\X.H₀ b=ah
 bsz:X.base.objs.size<=X.s₀.heap.objs.size
 noex:∀b o,X.base.get? b=aa o->b ∉ X.ex
 exfs:∀b∈X.ex,b ∉ X.fs
 funs:X.s₀.heap.FunFrames X.base X.outer
 frf:∀b∈X.fs,X.H₀ b=ah
structure Inv(X:Cx)(pins:List (ac × Obj))(σ:List (Option V))(H:Hp)(s:ag):Prop where
 ok:X.Ok
 os:s.os=X.s₀.os
 bare:AllBare s.gens
 base:Un X.fs X.ex X.H₀ H X.s₀.heap s.heap
 loc:∃m,s.heap.Ns X.env.locals m/\∀(i:Nat) (x:Str) (v:V),X.N[i]?=aa x->σ[i]?=aa (aa v)->Vis X.env.scope x->∃u,RelV v u/\zhf X.env s.heap m x u
 cell:∀x c,X.env.cells.lookup x=aa c->∃v,s.heap.IsCell c v
 free:H X.env.locals=ah
 freeC:∀x c,X.env.cells.lookup x=aa c->H c=ah
 pin:∀p∈X.pn ++ pins,s.heap.get? p.1=aa p.2/\H p.1=ah/\p.1≠X.env.locals/\p.1 ∉ X.fs/\∀v,p.2.data≠.cell v
 hok:HOk X.prog X.w H s.heap
 len:σ.length=X.N.length
section
variable {X:Cx}{pins:List (ac × Obj)}{σ:List (Option V)}{H H':Hp}{s:ag}{h':av}
theorem Cx.Ok.nofr(ok:X.Ok)(e:X.base.get? b=aa o):b ∉ X.fs:=λhb=>by
 have:=(ok.funs.mem hb).1
 rw[e] at this;cases this
theorem Inv.bs(I:Inv X pins σ H s):∀b o,X.base.get? b=aa o->s.heap.get? b=aa o/\H b=ah:=λb o e =>
 ⟨I.base.keep b o (I.ok.bs b o e).1 (I.ok.bs b o e).2 (I.ok.nofr e) (I.ok.noex b o e),I.base.free b o (I.ok.bs b o e).1 (I.ok.bs b o e).2 (I.ok.noex b o e)⟩
theorem Inv.bk(I:Inv X pins σ H s):∀b o,X.base.get? b=aa o->s.heap.get? b=aa o:=λb o e=>(I.bs b o e).1
theorem Inv.mod(I:Inv X pins σ H s):Mod X.K X.mg X.base:=I.ok.mod
theorem Inv.kIn(I:Inv X pins σ H s):X.K.In s.heap:=I.ok.mod.kin.keeps I.bk
theorem Inv.lt(I:Inv X pins σ H s):X.env.locals < s.heap.objs.size:=let ⟨_,hn,_⟩:=I.loc;hn.lt
theorem Inv.sz(I:Inv X pins σ H s):X.s₀.heap.objs.size<=s.heap.objs.size:=bN I.ok.above (pF I.lt)
theorem Inv.nofs(I:Inv X pins σ H s){a:ac}(h:s.heap.objs.size<=a):a ∉ X.fs:=λhb=>by
 obtain⟨_,o,ho,_⟩:=I.ok.funs.mem hb
 exact absurd (b7 (bH ho) (bN I.sz h)) (fK _)
theorem Inv.cne(I:Inv X pins σ H s):∀x c,X.env.cells.lookup x=aa c->c≠X.env.locals:=λx c e z=>by
 obtain⟨v,o,ho,hd⟩:=I.cell x c e
 obtain⟨m,⟨o',es,ep,ho',hd',_⟩,_⟩:=I.loc
 rw[z,ho'] at ho;cases ho;rw[hd'] at hd;cases hd
theorem Inv.funs(I:Inv X pins σ H s):s.heap.FunFrames X.base X.outer:=by
 have all:∀(l:List Env),(∀b∈frs l,b∈X.fs)->X.s₀.heap.FunFrames X.base l->s.heap.FunFrames X.base l:=by
  intro l
  induction l with
  | nil=>intro _ _;trivial
  | cons env r ih =>
   intro hs hl
   obtain⟨hk,⟨L,o,hf,hn,ho,hd⟩,hr⟩:=hl
   have hL:L∈X.fs:=hs L (by unfold frs;rw[lj,hf];exact bt)
   obtain⟨sl,e⟩:=I.base.slot L o ho (I.ok.frf L hL) hL λz=>I.ok.exfs L z hL
   exact⟨hk,⟨L,_,hf,hn,e,hd⟩,ih (λb hb=>hs b (by unfold frs;rw[lj,hf];exact br _ hb)) hr⟩
 exact all X.outer (λ_ hb=>hb) I.ok.funs
theorem Inv.stack(I:Inv X pins σ H s):s.heap.FunFrames X.base X.stack:=by
 rcases I.ok.stk with e | ⟨e,hf⟩
 ·rw[e];exact I.funs
 ·rw[e]
  obtain⟨m,hn,_⟩:=I.loc
  refine .cons (by rw[I.ok.kind];decide) hf hn ?_ I.funs
  exact Heap.get?_none_of_le (bN I.ok.bsz I.ok.above)
theorem Inv.stkSub(I:Inv X pins σ H s):∀b∈frs X.stack,b∈X.env.locals :: X.fs:=λb hb=>by
 rcases I.ok.stk with e | ⟨e,hf⟩
 ·rw[e] at hb;exact br _ hb
 ·rw[e] at hb
  unfold frs at hb
  rw[lj,hf] at hb
  exact hb
theorem Inv.stkFree(I:Inv X pins σ H s):∀b∈frs X.stack,H b=ah:=λb hb=>by
 rcases bE.mp (I.stkSub b hb) with e | hb
 ·rw[e];exact I.free
 ·obtain⟨_,o,ho,_⟩:=I.ok.funs.mem hb
  exact I.base.free b o ho (I.ok.frf b hb) λz=>I.ok.exfs b z hb
theorem Inv.step{t':Nat}{d':Drawn}{ch:List ac}(I:Inv X pins σ H s)
  (hch:∀b∈ch,(b∈X.ex\/X.s₀.heap.objs.size<=b)/\b≠X.env.locals/\(∀x c,X.env.cells.lookup x=aa c->c≠b)/\∀p∈X.pn ++ pins,p.1≠b)
  (keep:∀b o,b≠X.env.locals->b ∉ X.fs->b ∉ ch->s.heap.get? b=aa o->H b=ah->h'.get? b=aa o)
  (slot:∀b o,b≠X.env.locals->b∈X.fs->b ∉ ch->s.heap.get? b=aa o->H b=ah->∃sl,h'.get? b=aa { o with slots:=sl }) (free:∀b o,b ∉ ch->s.heap.get? b=aa o->H b=ah->H' b=ah)
  (there:∀b o,b ∉ ch->s.heap.get? b=aa o->∃o',h'.get? b=aa o')
  (tups:∀b xs,H b=aa (.tup xs)->H' b=aa (.tup xs)) (frzs:∀b o u,H b=aa (.frz o u)->H' b=aa (.frz o u)) (tbls:∀b ps,H b=aa (.tbl ps)->∃more,H' b=aa (.tbl (ps ++ more)))
  (ns:∀m,s.heap.Ns X.env.locals m->h'.Ns X.env.locals m) (hok:HOk X.prog X.w H' h') (hg:AllBare g') :
  Inv X pins σ H' { s with heap:=h',gens:=g',drawn:=d',toks:=t' }:=by
 have neL:∀b o,X.s₀.heap.get? b=aa o->b≠X.env.locals:=λb o e=>bU (b7 (bH e) I.ok.above)
 have neC:∀b o,X.s₀.heap.get? b=aa o->b ∉ X.ex->b ∉ ch:=λb o e hx hb=>by
  rcases(hch b hb).1 with z | z
  ·exact hx z
  ·exact absurd (b7 (bH e) z) (fK _)
 have cellK:∀x c,X.env.cells.lookup x=aa c->∀v,s.heap.IsCell c v->h'.IsCell c v:=λx c e v ⟨o,ho,hd⟩=>by
  have nch:c ∉ ch:=λz=>(hch c z).2.2.1 x c e rfl
  by_cases hc:c∈X.fs
  ·obtain⟨sl,q⟩:=slot c o (I.cne x c e) hc nch ho (I.freeC x c e)
   exact⟨_,q,hd⟩
  ·exact⟨o,keep c o (I.cne x c e) hc nch ho (I.freeC x c e),hd⟩
 refine⟨I.ok,I.os,hg,⟨λb o e n hb hx=>?_,λb o e n hb hx=>?_,λb o e n hx=>?_,λb o e hx=>?_,λb xs e=>tups b xs (I.base.tups b xs e),λb o xs e=>frzs b o xs (I.base.frzs b o xs e),λb ps e=>?_⟩,?_,λx c e=>?_,?_,λx c e=>?_,λp hp=>?_,hok,I.len⟩
 ·exact keep b o (neL b o e) hb (neC b o e hx) (I.base.keep b o e n hb hx) (I.base.free b o e n hx)
 ·obtain⟨sl,e1⟩:=I.base.slot b o e n hb hx
  obtain⟨sl',e2⟩:=slot b _ (neL b o e) hb (neC b o e hx) e1 (I.base.free b o e n hx)
  exact⟨sl',e2⟩
 ·obtain⟨o',e1⟩:=I.base.there b o e hx
  exact free b o' (neC b o e hx) e1 (I.base.free b o e n hx)
 ·obtain⟨o',e1⟩:=I.base.there b o e hx
  exact there b o' (neC b o e hx) e1
 ·obtain⟨m1,e1⟩:=I.base.tbls b ps e
  obtain⟨m2,e2⟩:=tbls b _ e1
  exact⟨m1 ++ m2,by rw[e2,Array.append_assoc]⟩
 ·obtain⟨m,hn,hl⟩:=I.loc
  refine⟨m,ns m hn,λi x v e1 e2 e3=>?_⟩
  obtain⟨u,r,l⟩:=hl i x v e1 e2 e3
  refine⟨u,r,?_⟩
  rcases l with l | ⟨k,c,e,z⟩
  ·exact .inl l
  ·exact .inr ⟨k,c,e,cellK x c e _ z⟩
 ·obtain⟨v,z⟩:=I.cell x c e
  exact⟨v,cellK x c e v z⟩
 ·obtain⟨m,⟨o,_,_,ho,_⟩,_⟩:=I.loc
  exact free _ o (λz=>(hch _ z).2.1 rfl) ho I.free
 ·obtain⟨v,o,ho,hd⟩:=I.cell x c e
  exact free c o (λz=>(hch c z).2.2.1 x c e rfl) ho (I.freeC x c e)
 ·obtain⟨e,n,ne,nf,d⟩:=I.pin p hp
  have nch:p.1 ∉ ch:=λz=>(hch p.1 z).2.2.2 p hp rfl
  exact⟨keep p.1 p.2 ne nf nch e n,free p.1 p.2 nch e n,ne,nf,d⟩
theorem Inv.un(I:Inv X pins σ H s)(u:Un X.fs [] H H' s.heap h')(hok:HOk X.prog X.w H' h'):Inv X pins σ H' { s with heap:=h',toks:=t' }:=by
 obtain⟨m,⟨o,es,ep,ho,r⟩,_⟩:=id I.loc
 obtain⟨sl,hL⟩:=u.any ho I.free (by simp)
 exact I.step (g':=s.gens) (d':=s.drawn) (ch:=[]) (by lia) (λb o _ hb _ e n=>u.keep b o e n hb (by simp)) (λb o _ hb _ e n=>u.slot b o e n hb (by simp)) (λb o _ e n=>u.free b o e n (by simp)) (λb o _ e=>u.there b o e (by simp)) u.tups u.frzs u.tbls (λm' hm=>by
  obtain⟨o',es',ep',ho',r'⟩:=hm
  rw[ho] at ho';cases ho'
  exact⟨_,es',ep',hL,r'⟩) hok I.bare
theorem Inv.call(I:Inv X pins σ H s)(u:Un (frs X.stack) ch H H' s.heap h')(hok:HOk X.prog X.w H' h')(hg:AllBare g')
  (hch:∀b∈ch,(b∈X.ex\/X.s₀.heap.objs.size<=b)/\b≠X.env.locals/\(∀x c,X.env.cells.lookup x=aa c->c≠b)/\∀p∈X.pn ++ pins,p.1≠b) :
  Inv X pins σ H' { s with heap:=h',gens:=g',drawn:=d',toks:=t' }:=by
 obtain⟨m,⟨o,es,ep,ho,r⟩,_⟩:=id I.loc
 obtain⟨sl,hL⟩:=u.any ho I.free λz=>(hch _ z).2.1 rfl
 exact I.step (ch:=ch) hch (λb o hL hb hc e n=>u.keep b o e n (λz=>(bE.mp (I.stkSub b z)).elim hL hb) hc) (λb o _ _ hc e n=>u.any e n hc) (λb o hc e n=>u.free b o e n hc) (λb o hc e=>u.there b o e hc) u.tups u.frzs u.tbls (λm' hm=>by
  obtain⟨o',es',ep',ho',r'⟩:=hm
  rw[ho] at ho';cases ho'
  exact⟨_,es',ep',hL,r'⟩) hok hg
theorem Inv.turned(I:Inv X pins σ H s)(k:∀b o,b≠it->s.heap.get? b=aa o->h'.get? b=aa o)(hn:H it=ah)(hL:it≠X.env.locals)
  (h1:it∈X.ex\/X.s₀.heap.objs.size<=it) (h2:∀x c,X.env.cells.lookup x=aa c->c≠it) (h3:∀p∈X.pn ++ pins,p.1≠it):Inv X pins σ H { s with heap:=h',toks:=t' }:=by
 have nit:∀b u,H b=aa u->b≠it:=λb u e z=>by rw[z,hn] at e;cases e
 refine I.step (g':=s.gens) (d':=s.drawn) (ch:=[it]) (λb hb=>?_) (λb o _ _ hc e _=>k b o (λz=>hc (by simp[z])) e) (λb o _ _ hc e _=>⟨o.slots,k b o (λz=>hc (by simp[z])) e⟩) (λ_ _ _ _ n=>n)
  (λb o hc e=>⟨o,k b o (λz=>hc (by simp[z])) e⟩) (λ_ _ e=>e) (λ_ _ _ e=>e) (λb ps e=>⟨#[],by rw[e];simp⟩) (λm hm=>?_) (λb u e=>?_) I.bare
 ·have e:b=it:=by simpa using hb
  subst e
  exact⟨h1,hL,h2,h3⟩
 ·obtain⟨o,es,ep,ho,r⟩:=hm
  exact⟨o,es,ep,k _ o (fc hL) ho,r⟩
 ·refine(I.hok b u e).stay (λc v hc q=>k c v ?_ q) (λ_ q=>q) λ_ _ q=>q
  rcases hc with z | z
  ·rw[z];exact nit b u e
  ·exact nit c _ z
theorem Inv.tok(I:Inv X pins σ H s)(t:Nat):Inv X pins σ H { s with toks:=t }:=I.un (h':=s.heap) (t':=t) Un.refl I.hok
theorem Inv.kept(I:Inv X pins σ H s)(k:∀b u,s.heap.get? b=aa u->h'.get? b=aa u):Inv X pins σ H { s with heap:=h',toks:=t' }:=I.un (Un.kept k) (I.hok.kept k)
theorem Inv.laid{a:ac}{o:HO}(I:Inv X pins σ H s)(k:∀b u,s.heap.get? b=aa u->h'.get? b=aa u)(hp:s.heap.objs.size<=a)(new:ObjOk X.prog X.w (upd H a o) h' a o) :
  Inv X pins σ (upd H a o) { s with heap:=h',toks:=t' }:=I.un (Un.laid k hp (I.hok.fresh hp)) (I.hok.laid k hp new)
theorem Inv.write(I:Inv X pins σ H s)(mu:Mut (H x))(he:e=x\/H e=aa (.own x))(k:∀b u,b≠e->s.heap.get? b=aa u->h'.get? b=aa u)(heo:∃u,h'.get? e=aa u)
  (new:ObjOk X.prog X.w (upd H x o) h' x o):Inv X pins σ (upd H x o) { s with heap:=h',toks:=t' }:=I.un (Un.write mu he k heo) (I.hok.write mu he k heo new)
theorem Inv.pins_of(I:Inv X pins σ H s)(h:∀p∈pins',s.heap.get? p.1=aa p.2/\H p.1=ah/\p.1≠X.env.locals/\p.1 ∉ X.fs/\∀v,p.2.data≠.cell v):Inv X pins' σ H s:=
 ⟨I.ok,I.os,I.bare,I.base,I.loc,I.cell,I.free,I.freeC,λp hp=>(bJ.mp hp).elim (λz=>I.pin p (dP _ z)) (h p),I.hok,I.len⟩
theorem Ky{N:List Str}(hN:N.Nodup){i j:Nat}(a:N[i]?=aa x)(b:N[j]?=aa x):i=j:=by
 obtain⟨h1,e1⟩:=bq.mp a
 obtain⟨h2,e2⟩:=bq.mp b
 exact(gJ hN).mp (e1.trans e2.symm)
theorem VV{E:ae->ag->Prop}{Q:Unit->ag->Prop}(I:Inv X pins σ H s)(hN:X.N.Nodup)(hi:X.N[i]?=aa x)(hx:Loc X.env.scope x)(r:RelV v u)
  (h:∀s',Inv X pins (σ.set i (aa v)) H s'->(∃a,cP a s.heap s'.heap/\(a=X.env.locals\/X.env.cells.lookup x=aa a))->Q () s') (hf:X.fn x=af\/X.env.scope.names.lookup x=aa .local:=by first | exact .inl rfl | exact .inr rfl | assumption):wpAny M A (storeName X.env x u) Q E s:=by
 obtain⟨m,hn,hl⟩:=id I.loc
 have hcls:(X.env.scope.kind == .class || (X.env.scope.kind == .module && X.env.locals != X.env.globals))=am:=by rw[I.ok.kind];rfl
 have hiσ:i < σ.length:=by rw[I.len];exact(bq.mp hi).1
 have cne:=I.cne
 have tracked:∀ {a:ac} {h':av},(∃o,s.heap.get? a=aa o/\H a=ah)->cP a s.heap h'->HOk X.prog X.w H h':=λ{a h'} ha hs b ob e=>by
  obtain⟨_,_,hfree⟩:=ha
  refine(I.hok b ob e).stay (λc w' hc q=>(hs.2 c ?_).trans q) (λ_ q=>q) λ_ _ q=>q
  rintro rfl
  rcases hc with rfl | hc
  ·rw[hfree] at e;cases e
  ·rw[hfree] at hc;cases hc
 rcases hx with hk | hk
 ·refine wpAny_storeName_local hk hn (λh' hn' hs=>?_) hcls
  obtain⟨oL,_,_,hoL,_⟩:=id hn
  refine h _ ⟨I.ok,I.os,I.bare,⟨λb o e n hb hx=>?_,λb o e n hb hx=>?_,I.base.free,λb o e hx=>?_,I.base.tups,I.base.frzs,I.base.tbls⟩,⟨_,hn',λj y v' e1 e2 e3=>?_⟩,λy c e=>?_,I.free,I.freeC,λp hp=>?_,tracked ⟨oL,hoL,I.free⟩ hs,by simpa using I.len⟩ ⟨_,hs,.inl rfl⟩
  ·exact(hs.2 b (bU (b7 (bH e) I.ok.above))).trans (I.base.keep b o e n hb hx)
  ·obtain⟨sl,e1⟩:=I.base.slot b o e n hb hx
   exact⟨sl,(hs.2 b (bU (b7 (bH e) I.ok.above))).trans e1⟩
  ·obtain⟨o',e1⟩:=I.base.there b o e hx
   exact⟨o',(hs.2 b (bU (b7 (bH e) I.ok.above))).trans e1⟩
  ·by_cases hj:j=i
   ·subst hj
    rw[hi] at e1;cases e1
    rw[m3 hiσ] at e2
    cases e2
    exact⟨u,r,.inl ⟨hk,by simp⟩⟩
   ·rw[nY (fc hj)] at e2
    obtain⟨u',r',q⟩:=hl j y v' e1 e2 e3
    refine⟨u',r',?_⟩
    rcases q with ⟨k,e⟩ | ⟨k,c,e,z⟩
    ·refine .inl ⟨k,?_⟩
     have:y≠x:=λe=>hj (Ky hN e1 (e ▸ hi))
     simp[this,e]
    ·exact .inr ⟨k,c,e,z.sameBut hs (cne y c e)⟩
  ·obtain⟨w',z⟩:=I.cell y c e
   exact⟨w',z.sameBut hs (cne y c e)⟩
  ·obtain⟨e,n,ne,nf,d⟩:=I.pin p hp
   exact⟨(hs.2 p.1 ne).trans e,n,ne,nf,d⟩
 ·have hfn:X.fn x=af:=by
   rcases hf with z | z
   ·exact z
   ·rw[z] at hk;cases hk
  obtain⟨c,hc⟩:=I.ok.has x (.inl hk)
  obtain⟨w',z⟩:=I.cell x c hc
  refine wpAny_storeName_cell I.ok.kind hk hc z (λh' hc' hs=>?_)
  obtain⟨oc,hoc,hocd⟩:=id z
  refine h { s with heap:=h' } ⟨I.ok,I.os,I.bare,⟨λb o e n hb hx=>?_,λb o e n hb hx=>?_,I.base.free,λb o e hx=>?_,I.base.tups,I.base.frzs,I.base.tbls⟩,⟨m,hn.sameBut hs (fc (cne x c hc)),λj y v' e1 e2 e3=>?_⟩,λy c' e=>?_,I.free,I.freeC,λp hp=>?_,tracked ⟨oc,hoc,I.freeC x c hc⟩ hs,by simpa using I.len⟩ ⟨c,hs,.inr hc⟩
  ·exact(hs.2 b (bU (b7 (bH e) (I.ok.cab x c hfn hc)))).trans (I.base.keep b o e n hb hx)
  ·obtain⟨sl,e1⟩:=I.base.slot b o e n hb hx
   exact⟨sl,(hs.2 b (bU (b7 (bH e) (I.ok.cab x c hfn hc)))).trans e1⟩
  ·obtain⟨o',e1⟩:=I.base.there b o e hx
   exact⟨o',(hs.2 b (bU (b7 (bH e) (I.ok.cab x c hfn hc)))).trans e1⟩
  ·by_cases hj:j=i
   ·subst hj
    rw[hi] at e1;cases e1
    rw[m3 hiσ] at e2
    cases e2
    exact⟨u,r,.inr ⟨.inl hk,c,hc,hc'⟩⟩
   ·rw[nY (fc hj)] at e2
    obtain⟨u',r',q⟩:=hl j y v' e1 e2 e3
    refine⟨u',r',?_⟩
    rcases q with q | ⟨k,c',e,z'⟩
    ·exact .inl q
    ·refine .inr ⟨k,c',e,z'.sameBut hs ?_⟩
     rintro rfl
     exact hj (Ky hN e1 (I.ok.inj _ _ _ e hc ▸ hi))
  ·by_cases hcc:c'=c
   ·subst hcc;exact⟨_,hc'⟩
   ·obtain⟨w2,z2⟩:=I.cell y c' e
    exact⟨w2,z2.sameBut hs hcc⟩
  ·obtain⟨e,n,ne,nf,d⟩:=I.pin p hp
   refine⟨(hs.2 p.1 ?_).trans e,n,ne,nf,d⟩
   intro q
   rw[q,hoc] at e
   have q':oc=p.2:=bV e
   exact d w' (by rw[<-q'];exact hocd)
theorem Ws{E:ae->ag->Prop}{Q:Unit->ag->Prop}(I:Inv X pins σ H s)(hN:X.N.Nodup)(hi:X.N[i]?=aa x)(hx:Loc X.env.scope x)(r:RelV v u)
  (h:∀s',Inv X pins (σ.set i (aa v)) H s'->Q () s') (hf:X.fn x=af\/X.env.scope.names.lookup x=aa .local:=by first | exact .inl rfl | exact .inr rfl | assumption):wpAny M A (storeName X.env x u) Q E s:=
 VV I hN hi hx r (λs' I' _=>h s' I') hf
theorem Inv.call'(I:Inv X pins σ H s)(ho:s'.os=s.os)(u:Un (frs X.stack) ch H H' s.heap s'.heap)(hok:HOk X.prog X.w H' s'.heap)(hg:AllBare s'.gens)
  (hch:∀b∈ch,(b∈X.ex\/X.s₀.heap.objs.size<=b)/\b≠X.env.locals/\(∀x c,X.env.cells.lookup x=aa c->c≠b)/\∀p∈X.pn ++ pins,p.1≠b):Inv X pins σ H' s':=by
 obtain⟨h',g',d',t',o'⟩:=s'
 have e:o'=s.os:=ho
 subst e
 exact I.call (g':=g') (t':=t') (d':=d') u hok hg hch
end
abbrev XK:=ae->Option ac->Hp->Prop
abbrev St:=List (Option V)
abbrev VK:=V->Hp->Prop
abbrev TE:=St->Hp->VK->Prop
abbrev TT:=St->Hp->(Bool->Hp->Prop)->Prop
abbrev TA:=St->Hp->(List V->Hp->Prop)->Prop
set_option genSizeOf false in
set_option genInjectivity false in
structure Wt where
 nx:St->Hp->Prop
 rt:VK
 bk:St->Hp->Prop:=λ_ _=>False
 ct:St->Hp->Prop:=λ_ _=>False
abbrev TS:=Wt->St->Hp->Prop
def EP(X:Cx)(pins:List (ac × Obj))(σ:St)(Q:VK)(u:ae)(s':ag):Prop:=∃v H',Inv X pins σ H' s'/\RelV v u/\Q v H'
def TP(X:Cx)(pins:List (ac × Obj))(σ:St)(Q:Bool->Hp->Prop)(b:Bool)(s':ag):Prop:=∃H',Inv X pins σ H' s'/\Q b H'
def AP(X:Cx)(pins:List (ac × Obj))(σ:St)(Q:List V->Hp->Prop)(us:List ae)(s':ag):Prop:=∃vs H',Inv X pins σ H' s'/\Vals vs us/\Q vs H'
def SP(X:Cx)(pins:List (ac × Obj))(D:Wt)(f:Flow)(s':ag):Prop :=
 match f with
 | .next=>∃σ' H',Inv X pins σ' H' s'/\D.nx σ' H'
 | .brk=>∃σ' H',Inv X pins σ' H' s'/\D.bk σ' H'
 | .cont=>∃σ' H',Inv X pins σ' H' s'/\D.ct σ' H'
 | .ret u=>∃v σ' H',Inv X pins σ' H' s'/\RelV v u/\D.rt v H'
def PE(X:Cx)(e:aA)(t:TE):Prop :=
 ∀(pins:List (ac × Obj)) (s:ag) (σ:St) (H:Hp) (Q:VK),Inv X pins σ H s->t σ H Q->wpAny (model X.prog X.w) X.A (eval e X.env) (EP X pins σ Q) X.xe s
def PT(X:Cx)(e:aA)(t:TT):Prop :=
 ∀(pins:List (ac × Obj)) (s:ag) (σ:St) (H:Hp) (Q:Bool->Hp->Prop),Inv X pins σ H s->t σ H Q->wpAny (model X.prog X.w) X.A (isTrue e X.env (eval e X.env)) (TP X pins σ Q) X.xe s
def PW(X:Cx)(e:aA)(t:TT):Prop :=
 ∀(whole:Sem ae) (pins:List (ac × Obj)) (s:ag) (σ:St) (H:Hp) (Q:Bool->Hp->Prop),Inv X pins σ H s->t σ H Q->wpAny (model X.prog X.w) X.A (isTrue e X.env whole) (TP X pins σ Q) X.xe s
theorem PW.pt(h:PW X e t):PT X e t:=h _
def PA(X:Cx)(es:List aA)(t:TA):Prop :=
 ∀(pos:Pos) (pins:List (ac × Obj)) (s:ag) (σ:St) (H:Hp) (Q:List V->Hp->Prop),Inv X pins σ H s->t σ H Q->wpAny (model X.prog X.w) X.A (spliced (backTo pos (starEach es X.env))) (AP X pins σ Q) X.xe s
def PS(X:Cx)(st:ay)(t:TS):Prop :=
 ∀(pins:List (ac × Obj)) (s:ag) (σ:St) (H:Hp) (D:Wt),Inv X pins σ H s->t D σ H->wpAny (model X.prog X.w) X.A (exec st X.env) (SP X pins D) X.xe s
def PSs(X:Cx)(st:List ay)(t:TS):Prop :=
 ∀(pins:List (ac × Obj)) (s:ag) (σ:St) (H:Hp) (D:Wt),Inv X pins σ H s->t D σ H->wpAny (model X.prog X.w) X.A (execs st X.env) (SP X pins D) X.xe s
theorem thn{α:Type}{t:Sem α}{Q Q':α->ag->Prop}{E:ae->ag->Prop}(h:wpAny M A t Q E s)(hQ:∀a s,Q a s->Q' a s):wpAny M A t Q' E s:=dG h hQ λ_ _ x=>x
section
variable {X:Cx}
def zb(i:Nat):TE:=λσ H Q=>∃v,σ[i]?=aa (aa v)/\Q v H
def tC(v:V):TE:=λ_ H Q=>Q v H
theorem zfT{x:Str}{pos:Pos}(hN:X.N[i]?=aa x)(hv:Vis X.env.scope x)(hd:(x == ("__debug__":Str))=am:=by lia)(hcd:(x == ("__classdict__":Str))=am:=by lia):PE X (.Name x pos) (zb i):=by
 intro pins s σ H Q I h
 obtain⟨v,e,h⟩:=h
 obtain⟨m,hn,hl⟩:=I.loc
 obtain⟨u,r,l⟩:=hl i x v hN e hv
 have fin:EP X pins σ Q u s:=⟨v,H,I,r,h⟩
 rcases l with ⟨hk,hm⟩ | ⟨hk,c,hc,hcell⟩
 ·exact wpAny_Name (wpAny_loadName_local I.ok.kind hk hn hm fin) hd
 ·rcases hk with hk | hk
  ·exact wpAny_Name (wpAny_loadName_cell I.ok.kind hk hc hcell fin) hd
  ·exact wpAny_Name (wpAny_loadName_free I.ok.kind hk hc hcell fin hcd) hd
theorem zf{i j pos}:PE X (.Constant (.int i) j pos) (tC (.int i)):=λ_ _ _ H _ I h=>wpAny_Constant_int ⟨.int i,H,I.tok _,⟨_,rfl⟩,h⟩
theorem Yt{b j pos}:PE X (.Constant (.bool b) j pos) (tC (.bl b)):=λ_ _ _ H _ I h=>Constant_bool ⟨.bl b,H,I,rfl,h⟩
theorem xg{j pos}:PE X (.Constant .none j pos) (tC .non):=λ_ _ _ H _ I h=>Constant_none ⟨.non,H,I,rfl,h⟩
theorem zE{x j pos}:PE X (.Constant (.str x) j pos) (tC (.str x)):=λ_ _ _ H _ I h=>oI ⟨.str x,H,I.tok _,⟨_,rfl⟩,h⟩
def Gl(X:Cx)(x:Str):Prop:=X.env.kindOf x=aa .globalImplicit
theorem vz{E:ae->ag->Prop}{s:ag}{σ:St}{H:Hp}{x:Str}{u:ae}{pos:Pos}{Q:ae->ag->Prop}(I:Inv X pins σ H s)(hg:Gl X x)(hm:X.mg x=aa u)(h:Q u s)
  (hd:(x == ("__debug__":Str))=am:=by lia):wpAny (model X.prog X.w) X.A (eval (.Name x pos) X.env) Q E s:=
 lK I.ok.kind hg (Calls.loadGlobal_global (by rw[I.ok.glob];exact I.mod.glob.keeps I.bk) hm h) hd
theorem Wu{E:ae->ag->Prop}{s:ag}{σ:St}{H:Hp}{x:Str}{u:ae}{pos:Pos}{Q:ae->ag->Prop}(I:Inv X pins σ H s)(hg:Gl X x)(hm:X.mg x=ah)(hv:bootBuiltins x=aa u)(h:Q u s)
  (hn:x≠"__name__":=by lia) (hd:(x == ("__debug__":Str))=am:=by lia):wpAny (model X.prog X.w) X.A (eval (.Name x pos) X.env) Q E s:=by
 obtain⟨mb,h1,h2⟩:=I.mod.blt
 exact lK I.ok.kind hg (Calls.loadGlobal_builtin (by rw[I.ok.glob];exact I.mod.glob.keeps I.bk) hm (by rw[I.ok.blt];exact h1.keeps I.bk) ((h2 x hn).trans hv) h) hd
theorem zes(hg:Gl X x)(hm:X.mg x=aa u)(r:RelV v u)(hd:(x == ("__debug__":Str))=am:=by lia):PE X (.Name x pos) (tC v):=
 λ_ _ _ H _ I h=>vz I hg hm ⟨v,H,I,r,h⟩ hd
theorem xw{x:Str}{pos:Pos}(hg:Gl X x)(hm:X.mg x=ah)(hv:bootBuiltins x=aa u)(r:RelV v u)(hn:x≠"__name__":=by lia)(hd:(x == ("__debug__":Str))=am:=by lia):PE X (.Name x pos) (tC v):=
 λ_ _ _ H _ I h=>Wu I hg hm hv ⟨v,H,I,r,h⟩ hn hd
variable {a b:aA}{ta tb:TE}{pos:Pos}
def tB(t:TE):TT:=λσ H Q=>t σ H λx H1=>∃c,x=.bl c/\Q c H1
theorem xn{e:aA}{t:TE}(h:PE X e t)(he:∀whole,isTrue e X.env whole=(do let v <-whole;standAt e.pos;holding [v] (truthy v)):=by intro _;rfl):PT X e (tB t):=by
 intro pins s σ H Q I hw
 refine isTrue_plain (thn (h pins s σ H _ I hw) λv s1 ⟨x,H1,I1,r1,q1⟩=>?_) (he _)
 obtain⟨d,rfl,q⟩:=q1
 cases r1
 exact fA ⟨H1,I1,q⟩
variable {tA tB':TT}{rest:List aA}
def Jv(t u:TT):TT:=λσ H Q=>t σ H λc H1=>if c=af then u σ H1 Q else Q am H1
def tOr(t u:TT):TT:=λσ H Q=>t σ H λc H1=>if c=af then Q af H1 else u σ H1 Q
def Y8(t:TT):TT:=λσ H Q=>t σ H λc H1=>Q (!c) H1
theorem Yu(ha:PT X a tA):PW X (.BoolOp .And [a] pos) tA:=by
 intro wh pins s σ H Q I h
 refine isTrue_and (thn (ha pins s σ H Q I h) λc s1 e=>?_)
 cases c with
 | true=>exact isTrue_and_nil e
 | false=>exact e
theorem ZY(ha:PT X a tA):PW X (.BoolOp .Or [a] pos) tA:=by
 intro wh pins s σ H Q I h
 refine isTrue_or (thn (ha pins s σ H Q I h) λc s1 e=>?_)
 cases c with
 | false=>exact isTrue_or_nil e
 | true=>exact e
theorem Wv(ha:PT X a tA)(hb:PW X (.BoolOp .And (b :: rest) pos) tB'):PW X (.BoolOp .And (a :: b :: rest) pos) (Jv tA tB'):=by
 intro wh pins s σ H Q I h
 refine isTrue_and (thn (ha pins s σ H _ I h) λc s1 ⟨H1,I1,q1⟩=>?_)
 cases c with
 | true=>exact hb wh pins s1 σ H1 Q I1 q1
 | false=>exact⟨H1,I1,q1⟩
theorem Ww(ha:PT X a tA)(hb:PW X (.BoolOp .Or (b :: rest) pos) tB'):PW X (.BoolOp .Or (a :: b :: rest) pos) (tOr tA tB'):=by
 intro wh pins s σ H Q I h
 refine isTrue_or (thn (ha pins s σ H _ I h) λc s1 ⟨H1,I1,q1⟩=>?_)
 cases c with
 | true=>exact⟨H1,I1,q1⟩
 | false=>exact hb wh pins s1 σ H1 Q I1 q1
theorem qt(ha:PT X a tA):PT X (.UnaryOp .Not a pos) (Y8 tA):=by
 intro pins s σ H Q I h
 exact isTrue_not (ha pins s σ H (λc H1=>Q (!c) H1) I h)
def Kz(ta tb:TE):TE:=λσ H Q=>ta σ H λx H1=>∃c,x=.bl c/\if c=af then tb σ H1 Q else Q (.bl am) H1
def zfU(ta tb:TE):TE:=λσ H Q=>ta σ H λx H1=>∃c,x=.bl c/\if c=af then Q (.bl af) H1 else tb σ H1 Q
def zfx(ta:TE):TE:=λσ H Q=>ta σ H λx H1=>∃c,x=.bl c/\Q (.bl (!c)) H1
theorem Jw{op}{t:TE}(h:PE X a t):PE X (.BoolOp op [a] pos) t:=λpins s σ H Q I hw=>BoolOp_one (h pins s σ H Q I hw)
theorem Jx(ha:PE X a ta)(hb:PE X (.BoolOp .And (b :: rest) pos) tb):PE X (.BoolOp .And (a :: b :: rest) pos) (Kz ta tb):=by
 intro pins s σ H Q I h
 refine BoolOp_and (thn (ha pins s σ H _ I h) λv s1 ⟨x,H1,I1,r1,q1⟩=>?_)
 obtain⟨c,rfl,q1⟩:=q1
 cases r1
 refine fA ?_
 cases c with
 | true=>exact hb pins s1 σ H1 Q I1 q1
 | false=>exact⟨.bl am,H1,I1,rfl,q1⟩
theorem zgK(ha:PE X a ta)(hb:PE X (.BoolOp .Or (b :: rest) pos) tb):PE X (.BoolOp .Or (a :: b :: rest) pos) (zfU ta tb):=by
 intro pins s σ H Q I h
 refine BoolOp_or (thn (ha pins s σ H _ I h) λv s1 ⟨x,H1,I1,r1,q1⟩=>?_)
 obtain⟨c,rfl,q1⟩:=q1
 cases r1
 refine fA ?_
 cases c with
 | false=>exact hb pins s1 σ H1 Q I1 q1
 | true=>exact⟨.bl af,H1,I1,rfl,q1⟩
theorem zfV(ha:PE X a ta):PE X (.UnaryOp .Not a pos) (zfx ta):=by
 intro pins s σ H Q I h
 refine UnaryOp_ (thn (ha pins s σ H _ I h) λv s1 ⟨x,H1,I1,r1,q1⟩=>?_)
 obtain⟨c,rfl,q1⟩:=q1
 cases r1
 exact not_of (fA ⟨.bl (!c),H1,I1,rfl,q1⟩)
def tIf(t:TT)(ta tb:TE):TE:=λσ H Q=>t σ H λc H1=>if c=af then ta σ H1 Q else tb σ H1 Q
theorem vN(hc:PT X c tA)(ha:PE X a ta)(hb:PE X b tb):PE X (.IfExp c a b pos) (tIf tA ta tb):=by
 intro pins s σ H Q I h
 refine wpAny_IfExp (thn (hc pins s σ H _ I h) λd s1 ⟨H1,I1,q1⟩=>?_)
 cases d with
 | true=>exact ha pins s1 σ H1 Q I1 q1
 | false=>exact hb pins s1 σ H1 Q I1 q1
end
def SqL(K:bx)(H:Hp)(a:ac)(xs:List V):Prop :=
 Rd H a (.lst xs) \/
  ∃(o:Obj) (its:Array ae) (n:Nat),K.lookup a=aa o/\o.cls=.type "list"/\o.dict=ah/\o.data=.seq its n/\its.size<=sizeLine/\Vals xs its.toList
def SqT(K:bx)(H:Hp)(a:ac)(xs:List V):Prop :=
 Rd H a (.tup xs) \/
  ∃(o:Obj) (its:Array ae) (n:Nat),K.lookup a=aa o/\o.cls=.type "tuple"/\o.data=.seq its n/\its.size<=sizeLine/\Vals xs its.toList
def zhg:ae->Option V
 | .none=>aa .non
 | .bool b=>aa (.bl b)
 | .int i _=>aa (.int i)
 | .str x _=>aa (.str x)
 | .bytes b _=>aa (.byt b)
 | .float b _=>aa (.flt b)
 | .ref a=>aa (.ref a)
 | .type n=>aa (.ty n)
 | _=>ah
theorem RelV.abs(r:RelV x u):zhg u=aa x:=by
 cases x with
 | non=>cases r;rfl
 | bl _=>cases r;rfl
 | int _=>obtain⟨t,rfl⟩:=r;rfl
 | str _=>obtain⟨t,rfl⟩:=r;rfl
 | byt _=>obtain⟨t,rfl⟩:=r;rfl
 | flt _=>obtain⟨t,rfl⟩:=r;rfl
 | ref _=>cases r;rfl
 | ty _=>cases r;rfl
theorem RelV.inj(r:RelV x u)(q:RelV y u):x=y:=bV (r.abs.symm.trans q.abs)
theorem Vals.inj:∀ {xs ys:List V} {us:List ae},Vals xs us->Vals ys us->xs=ys
 | _,_,_,.nil,.nil=>rfl
 | _,_,_,.cons r t,.cons r' t'=>by rw[r.inj r',Vals.inj t t']
section
variable {X:Cx}{pins:List (ac × Obj)}{σ:St}{H:Hp}{s:ag}{a:ac}{xs ys:List V}
theorem SqL.of{K:bx}(h:H a=aa (.lst xs)):SqL K H a xs:=.inl (.inl h)
theorem SqT.of{K:bx}(h:H a=aa (.tup xs)):SqT K H a xs:=.inl (.inl h)
theorem Inv.list(I:Inv X pins σ H s)(h:SqL X.K H a xs):∃its:List ae,Vals xs its/\PlainL s.heap a its.toArray/\xs.length<=sizeLine:=by
 rcases h with h | ⟨o,its,n,hk,hc,hd,hs,hz,r⟩
 ·obtain⟨z,its,n,r,e⟩:=h.ok I.hok
  exact⟨its,r,⟨_,n,e,rfl,rfl,rfl⟩,z⟩
 ·refine⟨its.toList,r,⟨o,n,I.kIn a o hk,hc,hd,by simpa using hs⟩,?_⟩
  have e:=r.length
  simp only[cr] at e
  lia
theorem Inv.tuple(I:Inv X pins σ H s)(h:SqT X.K H a xs):∃its:List ae,Vals xs its/\IsTup s.heap a its.toArray/\xs.length<=sizeLine:=by
 rcases h with h | ⟨o,its,n,hk,hc,hs,hz,r⟩
 ·obtain⟨z,its,r,p⟩:=h.ok I.hok
  exact⟨its,r,p,z⟩
 ·refine⟨its.toList,r,⟨o,I.kIn a o hk,hc,n,by simpa using hs⟩,?_⟩
  have e:=r.length
  simp only[cr] at e
  lia
theorem Inv.list_inj(I:Inv X pins σ H s)(h:SqL X.K H a xs)(h':SqL X.K H a ys):xs=ys:=by
 obtain⟨its,r,⟨o,n,e,_,_,d⟩,_⟩:=I.list h
 obtain⟨its',r',⟨o',n',e',_,_,d'⟩,_⟩:=I.list h'
 rw[e] at e';cases e'
 rw[d] at d'
 injection d' with d1 _
 have:its=its':=by simpa using congrArg Array.toList d1
 subst this
 exact r.inj r'
theorem Inv.tuple_inj(I:Inv X pins σ H s)(h:SqT X.K H a xs)(h':SqT X.K H a ys):xs=ys:=by
 obtain⟨its,r,⟨o,e,_,n,d⟩,_⟩:=I.tuple h
 obtain⟨its',r',⟨o',e',_,n',d'⟩,_⟩:=I.tuple h'
 rw[e] at e';cases e'
 rw[d] at d'
 injection d' with d1 _
 have:its=its':=by simpa using congrArg Array.toList d1
 subst this
 exact r.inj r'
end
abbrev Cx.wish(X:Cx)(E:ae->ag->Prop):Cx:={ X with xe:=E }
abbrev Cx.nox(X:Cx):Cx:=X.wish λ_ _=>False
theorem Cx.Ok.wish{X:Cx}(ok:X.Ok)(E:ae->ag->Prop):(X.wish E).Ok :=
 ⟨ok.mod,ok.kind,ok.glob,ok.blt,ok.above,ok.inj,ok.has,ok.cab,ok.hd,ok.frames,ok.stk,ok.exf,ok.bs,ok.bsz,ok.noex,ok.exfs,ok.funs,ok.frf⟩
theorem Cx.Ok.unwish{X:Cx}{E:ae->ag->Prop}(ok:(X.wish E).Ok):X.Ok :=
 ⟨ok.mod,ok.kind,ok.glob,ok.blt,ok.above,ok.inj,ok.has,ok.cab,ok.hd,ok.frames,ok.stk,ok.exf,ok.bs,ok.bsz,ok.noex,ok.exfs,ok.funs,ok.frf⟩
section
variable {X:Cx}{pins:List (ac × Obj)}{σ:St}{H:Hp}{s:ag}{E:ae->ag->Prop}
theorem Inv.wish(I:Inv X pins σ H s)(E:ae->ag->Prop):Inv (X.wish E) pins σ H s:=⟨I.ok.wish E,I.os,I.bare,I.base,I.loc,I.cell,I.free,I.freeC,I.pin,I.hok,I.len⟩
theorem Inv.unwish(I:Inv (X.wish E) pins σ H s):Inv X pins σ H s:=⟨I.ok.unwish,I.os,I.bare,I.base,I.loc,I.cell,I.free,I.freeC,I.pin,I.hok,I.len⟩
theorem SP.unwish(h:SP (X.wish E) pins D f s'):SP X pins D f s':=by
 cases f with
 | next=>obtain⟨σ',H',I,q⟩:=h;exact⟨σ',H',I.unwish,q⟩
 | brk=>obtain⟨σ',H',I,q⟩:=h;exact⟨σ',H',I.unwish,q⟩
 | cont=>obtain⟨σ',H',I,q⟩:=h;exact⟨σ',H',I.unwish,q⟩
 | ret u=>obtain⟨v,σ',H',I,r,q⟩:=h;exact⟨v,σ',H',I.unwish,r,q⟩
theorem PSs.nox{st:List ay}{t:TS}(h:PSs X.nox st t):PSs X st t:=λpins s σ H D I hw =>
 dG (h pins s σ H D (I.wish _) hw) (λ_ _ q=>q.unwish) λ_ _ z=>c9 z
end
section
variable {X:Cx}{st:ay}{rest:List ay}{t u:TS}{e:aA}{te:TE}{pos:Pos}
def zH:TS:=λD σ H=>D.nx σ H
def zo(t u:TS):TS:=λD σ H=>t { D with nx:=u D } σ H
theorem zA:PSs X [] zH:=λ_ _ σ H _ I h=>eX ⟨σ,H,I,h⟩
theorem zd(h1:PS X st t)(h2:PSs X rest u):PSs X (st :: rest) (zo t u):=by
 intro pins s σ H D I h
 refine iU (thn (h1 pins s σ H { D with nx:=u D } I h) λf s1 q=>?_)
 cases f with
 | next =>
  obtain⟨σ',H',I',q⟩:=q
  exact h2 pins s1 σ' H' D I' q
 | ret v=>exact q
 | brk=>exact q
 | cont=>exact q
theorem zh(h1:PS X st t):PSs X [st] t:=by
 intro pins s σ H D I h
 refine iU (thn (h1 pins s σ H D I h) λf s1 q=>?_)
 cases f with
 | next=>exact eX q
 | ret v=>exact q
 | brk=>exact q
 | cont=>exact q
def zcw:TS:=λD σ H=>D.bk σ H
theorem zcx:PS X (.Break pos) zcw:=λ_ _ σ H _ I h=>wpAny_Break ⟨σ,H,I,h⟩
theorem Inv.quiet{σ:St}{H:Hp}{s:ag}(I:Inv X pins σ H s):interactive X.env=am:=by simp[interactive,I.ok.kind]
def yb(te:TE):TS:=λD σ H=>te σ H λ_ H1=>D.nx σ H1
theorem zP(he:PE X e te)(hs:swapsWith e ah pos.line X.env=pure am:=by rfl):PS X (.Expr e pos) (yb te):=by
 intro pins s σ H D I h
 exact wpAny_Expr_any (thn (he pins s σ H _ I h) λv s1 ⟨x,H1,I1,r1,q1⟩=>⟨σ,H1,I1,q1⟩) I.quiet hs
def zG(te:TE):TS:=λD σ H=>te σ H D.rt
theorem zt(he:PE X e te):PS X (.Return (aa e) pos) (zG te):=by
 intro pins s σ H D I h
 exact wpAny_Return_some (thn (he pins s σ H _ I h) λv s1 ⟨x,H1,I1,r1,q1⟩=>⟨x,σ,H1,I1,r1,q1⟩)
def zcy:TS:=λD _ H=>D.rt .non H
theorem zet:PS X (.Return ah pos) zcy:=λ_ _ σ H _ I h=>wpAny_Return_none ⟨.non,σ,H,I,rfl,h⟩
def zQ(c:TT)(t u:TS):TS:=λD σ H=>c σ H λb H1=>if b=af then t D σ H1 else u D σ H1
theorem zM(hc:PT X c tc)(ha:PSs X a t)(hb:PSs X b u):PS X (.If c a b pos) (zQ tc t u):=by
 intro pins s σ H D I h
 refine wpAny_If (thn (hc pins s σ H _ I h) λd s1 ⟨H1,I1,q1⟩=>?_)
 cases d with
 | true=>exact ha pins s1 σ H1 D I1 q1
 | false=>exact hb pins s1 σ H1 D I1 q1
def Wx:TS:=λ_ _ _=>False
theorem KA:PS X st Wx:=λ_ _ _ _ _ _ h=>h.elim
end
abbrev TG:=V->St->Hp->(St->Hp->Prop)->Prop
abbrev TGs:=List V->St->Hp->(St->Hp->Prop)->Prop
def PG(X:Cx)(target:aA)(t:TG):Prop :=
 ∀(pins:List (ac × Obj)) (s:ag) (σ:St) (H:Hp) (v:V) (u:ae) (Q:St->Hp->Prop),Inv X pins σ H s->RelV v u->t v σ H Q ->
  wpAny (model X.prog X.w) X.A (assign target X.env u) (λ_ s'=>∃σ' H',Inv X pins σ' H' s'/\Q σ' H') X.xe s
def PGs(X:Cx)(ts:List aA)(t:TGs):Prop :=
 ∀(pins:List (ac × Obj)) (s:ag) (σ:St) (H:Hp) (vs:List V) (us:List ae) (Q:St->Hp->Prop),Inv X pins σ H s->Vals vs us->t vs σ H Q ->
  wpAny (model X.prog X.w) X.A (assignInOrder ((assignEach ts X.env).map (·.2)) us) (λ_ s'=>∃σ' H',Inv X pins σ' H' s'/\Q σ' H') X.xe s
section
variable {X:Cx}{pos:Pos}
def zp(i:Nat):TG:=λv σ H Q=>Q (σ.set i (aa v)) H
theorem ye(hN:X.N.Nodup)(hi:X.N[i]?=aa x)(hx:Loc X.env.scope x)(hf:X.fn x=af\/X.env.scope.names.lookup x=aa .local:=by first | exact .inl rfl | exact .inr rfl | assumption):PG X (.Name x pos) (zp i):=by
 intro pins s σ H v u Q I r h
 exact wpAny_assign_Name (Ws I hN hi hx r (λs' I'=>⟨_,H,I',h⟩) hf)
def zcz:TGs:=λvs σ H Q=>vs=[]/\Q σ H
def Yv(t:TG)(u:TGs):TGs:=λvs σ H Q=>∃v r,vs=v :: r/\t v σ H λσ' H'=>u r σ' H' Q
theorem Wi:PGs X [] zcz:=by
 intro pins s σ H vs us Q I r h
 obtain⟨e,h⟩:=h
 subst e
 cases r
 exact assignInOrder_nil ⟨σ,H,I,h⟩
theorem wU{e:aA}{es:List aA}{t:TG}{u:TGs}(h1:PG X e t)(h2:PGs X es u)
  (hs:(assignEach (e :: es) X.env).map (·.2)=assign e X.env :: (assignEach es X.env).map (·.2):=by rfl):PGs X (e :: es) (Yv t u):=by
 intro pins s σ H vs us Q I r h
 obtain⟨v,vr,e1,h⟩:=h
 subst e1
 cases r with
 | cons r rr =>
  rw[hs]
  refine assignInOrder_cons (thn (h1 pins s σ H _ _ _ I r h) λ_ s1 ⟨σ1,H1,I1,q1⟩=>?_)
  exact h2 pins s1 σ1 H1 _ _ Q I1 rr q1
def zcA(K:bx)(n:Nat)(t:TGs):TG:=λv σ H Q=>∃a xs,v=.ref a/\SqT K H a xs/\xs.length=n/\t xs σ H Q
theorem Jy{es:List aA}{k:Nat}{t:TGs}{n:Nat}(hc:X.calm=af)(h:PGs X es t)
  (hn:(assignEach es X.env).length=n:=by rfl) (hst:(assignEach es X.env).findIdx? (·.1)=ah:=by rfl):PG X (.Tuple es k pos) (zcA X.K n t):=by
 intro pins s σ H v u Q I r hw
 obtain⟨a,xs,e1,hq,hl,hw⟩:=hw
 subst e1
 cases r
 obtain⟨its,rv,ht,hz⟩:=I.tuple hq
 refine assign_Tuple_tuple (I.ok.hd hc) ht (by simp[hn,<-hl,rv.length]) hst λh' hx=>?_
 have I1:Inv X pins σ H { s with heap:=h' }:=I.kept (t':=s.toks) λb o e=>hx b o (bU (bH e)) e
 exact h pins _ σ H xs _ Q I1 (by simpa using rv) hw
def zK(te:TE)(g:TG):TS:=λD σ H=>te σ H λx H1=>g x σ H1 D.nx
theorem zw{te:TE}(hN:X.N.Nodup)(hi:X.N[i]?=aa x)(hx:Loc X.env.scope x)(he:PE X e te)(hs:swapsWith e (aa (.Name x pos')) pos.line X.env=pure am:=by rfl)(hf:X.fn x=af\/X.env.scope.names.lookup x=aa .local:=by first | exact .inl rfl | exact .inr rfl | assumption) :
  PS X (.Assign [.Name x pos'] e pos) (zK te (zp i)):=by
 intro pins s σ H D I h
 refine wpAny_Assign_Name (thn (he pins s σ H _ I h) λv s1 ⟨y,H1,I1,r1,q1⟩=>?_) hs
 exact Ws I1 hN hi hx r1 (λs2 I2=>⟨_,H1,I2,q1⟩) hf
end
section
variable {X:Cx}{pos:Pos}
def Jz(c:TT)(tb:TS):TS:=λD σ H=>∃W:Nat->St->Hp->Prop,(∃m,W m σ H)/\∀m σ H,W m σ H ->
 c σ H λb H1=>if b=af then ∃N:St->Hp->Prop,(∀σ' H',N σ' H'->∃m',m' < m/\W m' σ' H')/\tb { D with nx:=N,ct:=N,bk:=D.nx } σ H1 else D.nx σ H1
theorem KB{tb:TS}(hp:PassesOwn (model X.prog X.w) X.A X.env X.xe)(hc:PT X c tc)(hb:PSs X body tb):PS X (.While c body [] pos) (Jz tc tb):=by
 intro pins s σ H D I h
 obtain⟨W,⟨m0,w0⟩,turn⟩:=h
 refine wpAny_While (codeAny_whileLoop (λn s'=>∃σ' H',Inv X pins σ' H' s'/\W n σ' H') ?_ m0 ⟨σ,H,I,w0⟩)
 rintro n s1 ⟨σ1,H1,I1,w1⟩
 refine fB hp (thn (hc pins s1 σ1 H1 _ I1 (turn n σ1 H1 w1)) λb s2 ⟨H2,I2,q2⟩=>?_)
 cases b with
 | true =>
  obtain⟨N,hN,q2⟩:=q2
  rw[ao rfl]
  refine fB hp (thn (hb pins s2 σ1 H2 _ I2 q2) λf s3 q3=>?_)
  cases f with
  | next =>
   obtain⟨σ3,H3,I3,n3⟩:=q3
   obtain⟨m',hm,w3⟩:=hN σ3 H3 n3
   exact⟨m',hm,σ3,H3,I3,w3⟩
  | cont =>
   obtain⟨σ3,H3,I3,n3⟩:=q3
   obtain⟨m',hm,w3⟩:=hN σ3 H3 n3
   exact⟨m',hm,σ3,H3,I3,w3⟩
  | brk=>exact q3
  | ret v=>exact q3
 | false =>
  rw[ak bG]
  exact eX ⟨σ1,H2,I2,q2⟩
end
set_option genSizeOf false in
set_option genInjectivity false in
structure It where
 go:Nat->Hp->Prop
 yld:Nat->Hp->V->Hp->Prop
 stop:Nat->Hp->Prop
def ql(X:Cx)(pins:List (ac × Obj))(H:Hp)(b:ac):Prop :=
 H b=ah/\b≠X.env.locals/\b ∉ X.fs/\(b∈X.ex\/X.s₀.heap.objs.size<=b)/\(∀x c,X.env.cells.lookup x=aa c->c≠b)/\∀p∈X.pn ++ pins,p.1≠b
theorem Inv.fpOk{pins:List (ac × Obj)}{σ:St}{H H':Hp}{s:ag}{b:ac}(I:Inv X pins σ H s)(hb:s.heap.objs.size<=b)(hn:H' b=ah):ql X pins H' b:=by
 refine⟨hn,fj (b7 I.lt hb),I.nofs hb,.inr (bN I.sz hb),λx c e z=>?_,λp hp z=>?_⟩
 ·obtain⟨v,q⟩:=I.cell x c e
  exact absurd (b7 q.lt (by rw[z];exact hb)) (fK _)
 ·exact absurd (b7 (bH (I.pin p hp).1) (by rw[z];exact hb)) (fK _)
structure zaj(P:au)(w:aw)(K:bx)(tg:aA)(J:It)(fp:List ac)(it:ac)(tn:Nat->av->Prop):Prop where
 mem:it∈fp
 obj:∀i h,tn i h->∀b∈fp,∃o,h.get? b=aa o/\∀v,o.data≠.cell v
 keep:∀i h h',tn i h->(∀b∈fp,∀o,h.get? b=aa o->h'.get? b=aa o)->tn i h'
 item:∀(X:Cx),X.prog=P->X.w=w->X.K=K->X.calm=af->∀(i:Nat) (pins:List (ac × Obj)) (s:ag) (σ:St) (H:Hp) (E:ae->ag->Prop),Inv X pins σ H s->(∀b∈fp,ql X pins H b)->tn i s.heap->J.go i H ->
  wpAny (model P w) X.A (pyNext (.ref it)) (λr s1=>∃u,r=aa u /\
   wpAny (model P w) X.A (letOwnedTupleGo tg (.ref it) u) (λ_ s2=>∃x H',Inv X pins σ H' s2/\RelV x u/\J.yld i H x H'/\tn (i + 1) s2.heap/\∀b∈fp,H' b=ah) E s1) E s
 done:∀(X:Cx),X.prog=P->X.w=w->X.K=K->X.calm=af->∀(i:Nat) (pins:List (ac × Obj)) (s:ag) (σ:St) (H:Hp) (E:ae->ag->Prop),Inv X pins σ H s->(∀b∈fp,ql X pins H b)->tn i s.heap->J.stop i H ->
  wpAny (model P w) X.A (pyNext (.ref it)) (λr s1=>r=ah/\Inv X pins σ H s1) E s
 self:∀(A:ax) (i:Nat) (s:ag) (Q:ae->ag->Prop) (E:ae->ag->Prop),tn i s.heap->Q (.ref it) s->wpAny (model P w) A (pyIter (.ref it)) Q E s
abbrev TI:=St->Hp->(It->Hp->Prop)->Prop
def PIE(X:Cx)(pins:List (ac × Obj))(σ:St)(tg:aA)(R:It->Hp->Prop)(itv:ae)(s2:ag):Prop :=
 ∃(it:ac) (fp:List ac) (tn:Nat->av->Prop) (J:It) (H':Hp),itv=.ref it/\Inv X pins σ H' s2/\zaj X.prog X.w X.K tg J fp it tn/\tn 0 s2.heap/\(∀b∈fp,ql X pins H' b)/\R J H'
def PI(X:Cx)(tg iter:aA)(wi:TI):Prop :=
 ∀(pins:List (ac × Obj)) (s:ag) (σ:St) (H:Hp) (R:It->Hp->Prop),Inv X pins σ H s->wi σ H R ->
  wpAny (model X.prog X.w) X.A (eval iter X.env) (λv s1=>wpAny (model X.prog X.w) X.A (pyIter v) (PIE X pins σ tg R) X.xe s1) X.xe s
theorem zba{E:ae->ag->Prop}{Q:Unit->ag->Prop}(ho:s.heap.get? it=aa o)(hc:o.cls=.type n)(hd:o.data=.fields vs)
  (hn:["enumerate","zip","dict_itemiterator","dict_reverseitemiterator","odict_iterator","itertools.zip_longest","itertools.pairwise"].contains n=am) (hQ:Q () s):wpAny M A (letOwnedTupleGo tg (.ref it) u) Q E s:=by
 unfold letOwnedTupleGo
 cases tg <;> first
  | exact bg hQ
  | (cases u <;> first
      | exact bg hQ
      | (refine ba (nW ho ?_)
         rw[hc,hd]
         show wpAny M A (if (["enumerate","zip","dict_itemiterator","dict_reverseitemiterator","odict_iterator","itertools.zip_longest","itertools.pairwise"].contains n && vs[0]? == aa (rawInt _))=af then _ else _) Q E s
         rw[ak (by intro h;rw[hn,Bool.false_and] at h;cases h)]
         exact bg hQ))
def Itl(K:bx)(a:ac):It :=
 ⟨λi H=>∃xs x,SqL K H a xs/\xs[i]?=aa x,λi H x H'=>H'=H/\∀xs,SqL K H a xs->xs[i]?=aa x,λi H=>∃xs,SqL K H a xs/\xs.length<=i⟩
def Itt(K:bx)(a:ac):It :=
 ⟨λi H=>∃xs x,SqT K H a xs/\xs[i]?=aa x,λi H x H'=>H'=H/\∀xs,SqT K H a xs->xs[i]?=aa x,λi H=>∃xs,SqT K H a xs/\xs.length<=i⟩
def Itr(lo:Int)(n:Nat):It:=⟨λi _=>i < n,λi H x H'=>H'=H/\x=.int (lo + i),λi _=>n<=i⟩
theorem zbM{P:au}{w:aw}{K:bx}{tg:aA}(a it:ac):zaj P w K tg (Itl K a) [it] it (λi h=>h.IsListIter it a i) where
 mem:=by simp
 obj:=λi h st b hb=>by
  have e:b=it:=by simpa using hb
  subst e
  obtain⟨o,e,c,d⟩:=st
  exact⟨o,e,λv z=>by rw[d] at z;cases z⟩
 keep:=λi h h' st k=>st.at λo e=>k it (by simp) o e
 item:=by
  intro X hP hw hK hc i pins s σ H E I hf st hg
  subst hP hw hK
  obtain⟨xs,x,hq,hx⟩:=hg
  obtain⟨its,rv,p,hz⟩:=I.list hq
  obtain⟨u,hu,ru⟩:=rv.get hx
  obtain⟨f0,f1,f2,f3,f4,f5⟩:=hf it (by simp)
  refine m4 st p.isList (x:=u) (by simpa using hu) λh' st' sb=>?_
  have I1:Inv X pins σ H { s with heap:=h' }:=I.turned (t':=s.toks) (λb o hb e=>(sb.2 b hb).trans e) f0 f1 f3 f4 f5
  obtain⟨o,e,c,d⟩:=id st'
  exact⟨u,rfl,zba (s:={ s with heap:=h' }) e c d (by lia) ⟨x,H,I1,ru,⟨rfl,λys hy=>by rw[I.list_inj hy hq];exact hx⟩,st',λb hb=>(hf b hb).1⟩⟩
 done:=by
  intro X hP hw hK hc i pins s σ H E I hf st hg
  subst hP hw hK
  obtain⟨xs,hq,hx⟩:=hg
  obtain⟨its,rv,p,hz⟩:=I.list hq
  obtain⟨f0,f1,f2,f3,f4,f5⟩:=hf it (by simp)
  have hl:=rv.length
  exact nD (I.ok.hd hc) st p.isList (by simp;lia) λh' eb=>⟨rfl,I.turned (t':=s.toks) (λb o hb e=>eb b o hb e) f0 f1 f3 f4 f5⟩
 self:=λ_ _ _ _ _ st h=>wpAny_pyIter_listiter st h
theorem zak{P:au}{w:aw}{K:bx}{tg:aA}(a it:ac):zaj P w K tg (Itt K a) [it] it (λi h=>h.IsTupleIter it a i) where
 mem:=by simp
 obj:=λi h st b hb=>by
  have e:b=it:=by simpa using hb
  subst e
  obtain⟨o,e,c,d⟩:=st
  exact⟨o,e,λv z=>by rw[d] at z;cases z⟩
 keep:=λi h h' st k=>st.at λo e=>k it (by simp) o e
 item:=by
  intro X hP hw hK hc i pins s σ H E I hf st hg
  subst hP hw hK
  obtain⟨xs,x,hq,hx⟩:=hg
  obtain⟨its,rv,p,hz⟩:=I.tuple hq
  obtain⟨u,hu,ru⟩:=rv.get hx
  obtain⟨f0,f1,f2,f3,f4,f5⟩:=hf it (by simp)
  refine wpAny_pyNext_tuple_item st (show s.heap.IsTuple a its.toArray from p) (x:=u) (by simpa using hu) λh' st' sb=>?_
  have I1:Inv X pins σ H { s with heap:=h' }:=I.turned (t':=s.toks) (λb o hb e=>(sb.2 b hb).trans e) f0 f1 f3 f4 f5
  obtain⟨o,e,c,d⟩:=id st'
  exact⟨u,rfl,zba (s:={ s with heap:=h' }) e c d (by lia) ⟨x,H,I1,ru,⟨rfl,λys hy=>by rw[I.tuple_inj hy hq];exact hx⟩,st',λb hb=>(hf b hb).1⟩⟩
 done:=by
  intro X hP hw hK hc i pins s σ H E I hf st hg
  subst hP hw hK
  obtain⟨xs,hq,hx⟩:=hg
  obtain⟨its,rv,p,hz⟩:=I.tuple hq
  obtain⟨f0,f1,f2,f3,f4,f5⟩:=hf it (by simp)
  have hl:=rv.length
  exact wpAny_pyNext_tuple_end (I.ok.hd hc) st (show s.heap.IsTuple a its.toArray from p) (by simp;lia) λh' eb=>⟨rfl,I.turned (t':=s.toks) (λb o hb e=>eb b o hb e) f0 f1 f3 f4 f5⟩
 self:=λ_ _ _ _ _ st h=>wpAny_pyIter_tupleiter st h
theorem zal{P:au}{w:aw}{K:bx}{tg:aA}(it:ac)(lo:Int)(n:Nat):zaj P w K tg (Itr lo n) [it] it (λi h=>IsRangeIter h it (lo + (i:Nat) * 1) ((n:Int) - (i:Nat)) 1) where
 mem:=by simp
 obj:=λi h st b hb=>by
  have e:b=it:=by simpa using hb
  subst e
  exact⟨_,st,λv z=>by
   have z':Data.fields _=Data.cell v:=z
   cases z'⟩
 keep:=λi h h' st k=>k it (by simp) _ st
 item:=by
  intro X hP hw hK hc i pins s σ H E I hf st hg
  subst hP hw hK
  obtain⟨f0,f1,f2,f3,f4,f5⟩:=hf it (by simp)
  have W:=Walks.range (prog:=X.prog) (w:=X.w) (I.ok.hd hc) it lo 1 n
  refine W.item i s _ _ hg st λv h' tk hv st' kk=>?_
  obtain⟨t,rfl⟩:=hv
  have I1:Inv X pins σ H { s with heap:=h',toks:=tk }:=I.turned (λb o hb e=>kk b o (by simpa using hb) e) f0 f1 f3 f4 f5
  refine⟨_,rfl,zba (s:={ s with heap:=h',toks:=tk }) (n:="range_iterator") st' rfl rfl (by lia) ⟨.int (lo + i),H,I1,⟨t,?_⟩,⟨rfl,rfl⟩,st',λb hb=>(hf b hb).1⟩⟩
  rw[Int.mul_one]
 done:=by
  intro X hP hw hK hc i pins s σ H E I hf st hg
  subst hP hw hK
  obtain⟨f0,f1,f2,f3,f4,f5⟩:=hf it (by simp)
  exact wpAny_pyNext_range_end (I.ok.hd hc) st (by have:n<=i:=hg;lia) λh' eb=>⟨rfl,I.turned (t':=s.toks) (λb o hb e=>eb b o hb e) f0 f1 f3 f4 f5⟩
 self:=λ_ _ _ _ _ st h=>wpAny_pyIter_rangeiter st h
section
variable {X:Cx}{tg:aA}
def wV(K:bx)(tl:TE):TI:=λσ H R=>tl σ H λx H1=>∃a,x=.ref a/\(∃xs,SqL K H1 a xs)/\R (Itl K a) H1
def zfW(K:bx)(tl:TE):TI:=λσ H R=>tl σ H λx H1=>∃a,x=.ref a/\(∃xs,SqT K H1 a xs)/\R (Itt K a) H1
theorem xx{tl:TE}(hl:PE X l tl):PI X tg l (wV X.K tl):=by
 intro pins s σ H R I h
 refine thn (hl pins s σ H _ I h) λv s1 ⟨x,H1,I1,r1,q1⟩=>?_
 obtain⟨a,e,⟨xs,hq⟩,q⟩:=q1
 subst e
 cases r1
 obtain⟨its,rv,p,hz⟩:=I1.list hq
 refine wpAny_pyIter_list p.isList ?_
 refine⟨s1.heap.objs.size,[s1.heap.objs.size],_,_,H1,rfl,I1.kept (t':=s1.toks) λb o e=>bd _ e,zbM a _,⟨_,bB _ rfl,rfl,rfl⟩,λb hb=>?_,q⟩
 have e:b=s1.heap.objs.size:=by simpa using hb
 subst e
 exact I1.fpOk (bh _) (I1.hok.fresh (bh _))
theorem zfX{tl:TE}(hl:PE X l tl):PI X tg l (zfW X.K tl):=by
 intro pins s σ H R I h
 refine thn (hl pins s σ H _ I h) λv s1 ⟨x,H1,I1,r1,q1⟩=>?_
 obtain⟨a,e,⟨xs,hq⟩,q⟩:=q1
 subst e
 cases r1
 obtain⟨its,rv,p,hz⟩:=I1.tuple hq
 refine lR (show s1.heap.IsTuple a its.toArray from p) ?_
 refine⟨s1.heap.objs.size,[s1.heap.objs.size],_,_,H1,rfl,I1.kept (t':=s1.toks) λb o e=>bd _ e,zak a _,⟨_,bB _ rfl,rfl,rfl⟩,λb hb=>?_,q⟩
 have e:b=s1.heap.objs.size:=by simpa using hb
 subst e
 exact I1.fpOk (bh _) (I1.hok.fresh (bh _))
theorem zcB{σ:St}{H:Hp}{s:ag}{R:It->Hp->Prop}{E:ae->ag->Prop}{lo hi:Int}{t u v:Tok}{tk:Nat}(I:Inv X pins σ H s)(h1:-(2 ^ 62)<=lo)(h2:lo < 2 ^ 62)(h3:-(2 ^ 62)<=hi)(h4:hi < 2 ^ 62)
  (q:R (Itr lo (hi - lo).toNat) H):wpAny (model X.prog X.w) X.A (pyIter (.ref s.heap.objs.size)) (PIE X pins σ tg R) E { s with heap:=s.heap.push { cls:=.type "range",data:=.fields #[.int lo t,.int hi u,.int 1 v] },toks:=tk }:=by
 refine wpAny_pyIter_range (IsRange.new ..) (small_one h1 h2 h3 h4) ?_
 have I1:Inv X pins σ H { s with heap:=s.heap.push { cls:=.type "range",data:=.fields #[.int lo t,.int hi u,.int 1 v] },toks:=tk }:=I.kept λb o e=>bd _ e
 refine⟨(s.heap.push { cls:=.type "range",data:=.fields #[.int lo t,.int hi u,.int 1 v] }).objs.size,[(s.heap.push { cls:=.type "range",data:=.fields #[.int lo t,.int hi u,.int 1 v] }).objs.size],_,_,H,rfl,
  I1.kept (t':=tk) λb o e=>bd _ e,zal _ lo (hi - lo).toNat,?_,λb hb=>?_,q⟩
 ·have e1:lo + ((0:Nat):Int) * 1=lo:=by simp
  have e2:(((hi - lo).toNat:Nat):Int) - ((0:Nat):Int)=Builtin.Range.rangeSize lo hi 1:=by rw[rangeSize_one];split <;> lia
  show IsRangeIter _ _ (lo + ((0:Nat):Int) * 1) ((((hi - lo).toNat:Nat):Int) - ((0:Nat):Int)) 1
  rw[e1,e2]
  exact bB _ rfl
 ·have e:b=(s.heap.push { cls:=.type "range",data:=.fields #[.int lo t,.int hi u,.int 1 v] }).objs.size:=by simpa using hb
  subst e
  exact I1.fpOk (bh _) (I1.hok.fresh (bh _))
def Wy(ta:TA):TI:=λσ H R=>ta σ H λvs H1=>∃j:Int,vs=[.int j]/\-(2 ^ 62)<=j/\j < 2 ^ 62/\R (Itr 0 j.toNat) H1
theorem vH{ta:TA}(hg:Gl X "range")(hm:X.mg "range"=ah)(ha:PA X [a] ta)(hs:starEach [a] X.env=[(am,eval a X.env)]:=by rfl):PI X tg (.Call (.Name "range" p) [a] [] pos) (Wy ta):=by
 intro pins s σ H R I h
 refine Call_ (Wu I hg hm boot_range (fW (thn (ha pos pins s σ H _ I h) λus s1 ⟨vs,H1,I1,r1,q1⟩=>?_) hs rfl))
 obtain⟨j,e,q1,q2,q⟩:=q1
 subst e
 cases r1 with
 | cons r rr =>
  cases rr
  obtain⟨t,rfl⟩:=r
  exact call_range_1 (zcB I1 (by lia) (by lia) q1 q2 (by simpa using q))
def kj(wi:TI)(g:TG)(tb:TS):TS:=λD σ H=>wi σ H λJ H1=>∃W:Nat->Nat->St->Hp->Prop,(∃m,W 0 m σ H1)/\∀i m σ H,W i m σ H ->
 (J.stop i H/\D.nx σ H)\/(J.go i H/\∃N:St->Hp->Prop,(∀σ' H',N σ' H'->∃m',m' < m/\W (i + 1) m' σ' H')/\∀x H',J.yld i H x H'->g x σ H' λσ2 H2=>tb { D with nx:=N,ct:=N,bk:=D.nx } σ2 H2)
def Wz(fp:List ac)(h:av):List (ac × Obj):=fp.filterMap λb=>(h.get? b).map λo=>(b,o)
theorem kn(hb:b∈fp)(e:h.get? b=aa o):(b,o)∈Wz fp h:=fT.mpr ⟨b,hb,by rw[e];rfl⟩
theorem zbN(hp:p∈Wz fp h):p.1∈fp/\h.get? p.1=aa p.2:=by
 obtain⟨b,hb,e⟩:=List.mem_filterMap.mp hp
 cases q:h.get? b with
 | none=>rw[q] at e;cases e
 | some o =>
  rw[q] at e
  have e':(b,o)=p:=bV e
  subst e'
  exact⟨hb,q⟩
theorem Inv.pinned{σ:St}{H:Hp}{s:ag}{fp:List ac}(I:Inv X pins σ H s)(hf:∀b∈fp,ql X pins H b)(ho:∀b∈fp,∃o,s.heap.get? b=aa o/\∀v,o.data≠.cell v):Inv X (pins ++ Wz fp s.heap) σ H s:=
 I.pins_of λp hp=>(bJ.mp hp).elim (λz=>I.pin p (b6 _ z)) λz=>by
  obtain⟨hb,e⟩:=zbN z
  obtain⟨f0,f1,f2,_⟩:=hf p.1 hb
  obtain⟨o,e',d⟩:=ho p.1 hb
  rw[e] at e';cases e'
  exact⟨e,f0,f1,f2,d⟩
theorem Inv.unpinned{σ:St}{H:Hp}{s:ag}(I:Inv X (pins ++ pl) σ H s):Inv X pins σ H s:=I.pins_of λp hp=>I.pin p (b6 _ (dP _ hp))
theorem xE{wi:TI}{g:TG}{tb:TS}(hp:PassesOwn (model X.prog X.w) X.A X.env X.xe)(hc:X.calm=af)(hi:PI X tg iter wi)(hg:PG X tg g)(hb:PSs X body tb)
  (hs:∀x,foldedSetIterable iter X.env x=pure x:=by intro _;rfl):PS X (.For tg iter body [] pos) (kj wi g tb):=by
 intro pins s σ H D I h
 refine wpAny_For (thn (hi pins s σ H _ I h) λv s1 h1=>thn h1 λitv s2 h2=>?_) hs
 obtain⟨it,fp,tn,J,H2,e,I2,T,st2,f2,W,⟨m0,w0⟩,turn⟩:=h2
 subst e
 -- what stays af of the iterator's objects through the loop
 have stat:∀ {H':Hp},(∀b∈fp,H' b=ah)->∀b∈fp,ql X pins H' b:=λhn b hb=>⟨hn b hb,(f2 b hb).2⟩
 refine codeAny_forLoop_any (λn s'=>∃i σ' H',Inv X pins σ' H' s'/\tn i s'.heap/\(∀b∈fp,H' b=ah)/\W i n σ' H') ?_ m0 ⟨0,σ,H2,I2,st2,λb hb=>(f2 b hb).1,w0⟩
 rintro n s3 ⟨i,σ3,H3,I3,st3,fr3,w3⟩
 rcases turn i n σ3 H3 w3 with ⟨stop,qn⟩ | ⟨go,N,hN,step⟩
 ·refine fB hp (thn (T.done X rfl rfl rfl hc i pins s3 σ3 H3 X.xe I3 (stat fr3) st3 stop) λr s4 ⟨hr,I4⟩=>?_)
  subst hr
  exact eX ⟨σ3,H3,I4,qn⟩
 ·refine fB hp (thn (T.item X rfl rfl rfl hc i pins s3 σ3 H3 X.xe I3 (stat fr3) st3 go) λr s4 ⟨u,hr,h4⟩=>?_)
  subst hr
  refine fB hp (thn h4 λ_ s5 ⟨x,H5,I5,r5,y5,st5,fr5⟩=>?_)
  have I5':=I5.pinned (stat fr5) (T.obj _ _ st5)
  refine fB hp (thn (hg _ s5 σ3 H5 x u _ I5' r5 (step x H5 y5)) λ_ s6 ⟨σ6,H6,I6,q6⟩=>?_)
  refine fB hp (thn (hb _ s6 σ6 H6 _ I6 q6) λf s7 q7=>?_)
  have again:∀ {σ7:St} {H7:Hp},Inv X (pins ++ Wz fp s5.heap) σ7 H7 s7->N σ7 H7->∃m,m < n/\∃i σ' H',Inv X pins σ' H' s7/\tn i s7.heap/\(∀b∈fp,H' b=ah)/\W i m σ' H':=λ{σ7 H7} I7 n7=>by
   obtain⟨m',hm,w7⟩:=hN σ7 H7 n7
   refine⟨m',hm,i + 1,σ7,H7,I7.unpinned,T.keep _ _ _ st5 λb hb o e=>(I7.pin (b,o) (b6 _ (b6 _ (kn hb e)))).1,λb hb=>?_,w7⟩
   obtain⟨o,e,d⟩:=T.obj _ _ st5 b hb
   exact(I7.pin (b,o) (b6 _ (b6 _ (kn hb e)))).2.1
  cases f with
  | next=>obtain⟨σ7,H7,I7,n7⟩:=q7;exact again I7 n7
  | cont=>obtain⟨σ7,H7,I7,n7⟩:=q7;exact again I7 n7
  | brk=>obtain⟨σ7,H7,I7,q7⟩:=q7;exact⟨σ7,H7,I7.unpinned,q7⟩
  | ret v=>obtain⟨x7,σ7,H7,I7,r7,q7⟩:=q7;exact⟨x7,σ7,H7,I7.unpinned,r7,q7⟩
end
abbrev R2:=V->V->Hp->VK->Prop
def OpR(X:Cx)(f:ae->ae->Sem ae)(r:R2):Prop :=
 ∀(pins:List (ac × Obj)) (s:ag) (σ:St) (H:Hp) (x y:V) (v u:ae) (Q:VK),Inv X pins σ H s->RelV x v->RelV y u->r x y H Q ->
  wpAny (model X.prog X.w) X.A (f v u) (EP X pins σ Q) X.xe s
def UnR(X:Cx)(f:ae->Sem ae)(r:V->Hp->VK->Prop):Prop :=
 ∀(pins:List (ac × Obj)) (s:ag) (σ:St) (H:Hp) (x:V) (v:ae) (Q:VK),Inv X pins σ H s->RelV x v->r x H Q ->
  wpAny (model X.prog X.w) X.A (f v) (EP X pins σ Q) X.xe s
def jQ(X:Cx)(f:ae)(r:List V->Hp->VK->Prop):Prop :=
 ∀(pins:List (ac × Obj)) (s:ag) (σ:St) (H:Hp) (xs:List V) (us:List ae) (Q:VK),Inv X pins σ H s->Vals xs us->r xs H Q ->
  wpAny (model X.prog X.w) X.A (call f us) (EP X pins σ Q) X.xe s
def tOp(r:R2)(ta tb:TE):TE:=λσ H Q=>ta σ H λx H1=>tb σ H1 λy H2=>r x y H2 Q
def tUn(r:V->Hp->VK->Prop)(ta:TE):TE:=λσ H Q=>ta σ H λx H1=>r x H1 Q
def rI(C:Int->Int->Prop)(g:Int->Int->V):R2:=λx y H Q=>∃i j,x=.int i/\y=.int j/\C i j/\Q (g i j) H
def rI0(g:Int->Int->V):R2:=λx y H Q=>∃i j,x=.int i/\y=.int j/\Q (g i j) H
def rU(g:Int->V):V->Hp->VK->Prop:=λx H Q=>∃i,x=.int i/\Q (g i) H
section
variable {X:Cx}{a b c:aA}{ta tb tc:TE}{pos:Pos}
theorem zfY(ha:PE X a ta)(hb:PE X b tb){s:ag}{σ:St}{H:Hp}{R:V->V->Hp->Prop}(I:Inv X pins σ H s)
  (h:ta σ H λx H1=>tb σ H1 λy H2=>R x y H2) {Q:ae->ag->Prop} {f:ae->ae->Sem ae}
  (hf:∀v u s2 x y H2,Inv X pins σ H2 s2->RelV x v->RelV y u->R x y H2->wpAny (model X.prog X.w) X.A (f v u) Q X.xe s2) :
  wpAny (model X.prog X.w) X.A (eval a X.env) (λv s₁=>wpAny (model X.prog X.w) X.A (eval b X.env) (λu s₂=>wpAny (model X.prog X.w) X.A (f v u) Q X.xe s₂) X.xe s₁) X.xe s:=by
 refine thn (ha pins s σ H _ I h) λv s1 ⟨x,H1,I1,r1,q1⟩=>?_
 refine thn (hb pins s1 σ H1 _ I1 q1) λu s2 ⟨y,H2,I2,r2,q2⟩=>?_
 exact hf v u s2 x y H2 I2 r1 r2 q2
theorem zm{r:R2}(ho:OpR X (binaryOp op) r)(ha:PE X a ta)(hb:PE X b tb):PE X (.BinOp a op b pos) (tOp r ta tb):=by
 intro pins s σ H Q I h
 exact wpAny_BinOp (zfY ha hb I h λv u s2 x y H2 I2 rx ry q=>ho pins s2 σ H2 x y v u Q I2 rx ry q)
theorem zgL{r:V->Hp->VK->Prop}(ho:UnR X (unaryOp op) r)(ha:PE X a ta):PE X (.UnaryOp op a pos) (tUn r ta):=by
 intro pins s σ H Q I h
 exact UnaryOp_ (thn (ha pins s σ H _ I h) λv s1 ⟨x,H1,I1,r1,q1⟩=>ho pins s1 σ H1 x v Q I1 r1 q1)
theorem opI{f:ae->ae->Sem ae}{C:Int->Int->Prop}{g:Int->Int->Int}
  (rule:∀(i j:Int) (t u:Tok) (s:ag) (Q:ae->ag->Prop) (E:ae->ag->Prop),C i j->Q (.int (g i j) s.toks) { s with toks:=s.toks + 1 }->wpAny (model X.prog X.w) X.A (f (.int i t) (.int j u)) Q E s) :
  OpR X f (rI C λi j=>.int (g i j)):=by
 intro pins s σ H x y v u Q I rx ry h
 obtain⟨i,j,rfl,rfl,hc,q⟩:=h
 obtain⟨t,rfl⟩:=rx
 obtain⟨t',rfl⟩:=ry
 exact rule i j t t' s _ _ hc ⟨.int (g i j),H,I.tok _,⟨_,rfl⟩,q⟩
theorem zgM{f:ae->ae->Sem ae}{g:Int->Int->Int}
  (rule:∀(i j:Int) (t u:Tok) (s:ag) (Q:ae->ag->Prop) (E:ae->ag->Prop),Q (.int (g i j) s.toks) { s with toks:=s.toks + 1 }->wpAny (model X.prog X.w) X.A (f (.int i t) (.int j u)) Q E s) :
  OpR X f (rI0 λi j=>.int (g i j)):=by
 intro pins s σ H x y v u Q I rx ry h
 obtain⟨i,j,rfl,rfl,q⟩:=h
 obtain⟨t,rfl⟩:=rx
 obtain⟨t',rfl⟩:=ry
 exact rule i j t t' s _ _ ⟨.int (g i j),H,I.tok _,⟨_,rfl⟩,q⟩
theorem zfZ{f:ae->ae->Sem ae}{g:Int->Int->Bool}
  (rule:∀(i j:Int) (t u:Tok) (s:ag) (Q:ae->ag->Prop) (E:ae->ag->Prop),Q (.bool (g i j)) s->wpAny (model X.prog X.w) X.A (f (.int i t) (.int j u)) Q E s) :
  OpR X f (rI0 λi j=>.bl (g i j)):=by
 intro pins s σ H x y v u Q I rx ry h
 obtain⟨i,j,rfl,rfl,q⟩:=h
 obtain⟨t,rfl⟩:=rx
 obtain⟨t',rfl⟩:=ry
 exact rule i j t t' s _ _ ⟨.bl (g i j),H,I,rfl,q⟩
def JA(i j:Int):Prop:=0<=j/\j<=1000000/\i.natAbs < 2 ^ 64
theorem zY:OpR X (binaryOp .Add) (rI0 λi j=>.int (i + j)):=zgM λ_ _ _ _ _ _ _ q=>add_int q
theorem jC:OpR X (binaryOp .Sub) (rI0 λi j=>.int (i - j)):=zgM λ_ _ _ _ _ _ _ q=>sub_int q
theorem zV:OpR X (binaryOp .Mod) (rI (λ_ j=>0 < j) λi j=>.int (i % j)):=opI λi j _ _ _ _ _ hc q=>by
 have h1:(0:Int) < j:=hc
 exact mod_int' (by lia) (by rw[Int.fmod_eq_emod_of_nonneg i (by lia)];exact q)
theorem zeu:OpR X (binaryOp .Mod) (rI (λ_ j=>j≠0) λi j=>.int (i.fmod j)):=opI λ_ _ _ _ _ _ _ hc q=>mod_int' hc q
theorem ZZ:OpR X (binaryOp .Pow) (rI JA λi j=>.int (i ^ j.toNat)):=opI λ_ _ _ _ _ _ _ hc q=>pow_int_small hc.1 hc.2.1 hc.2.2 q
theorem unI{f:ae->Sem ae}{g:Int->Int}
  (rule:∀(i:Int) (t:Tok) (s:ag) (Q:ae->ag->Prop) (E:ae->ag->Prop),Q (.int (g i) s.toks) { s with toks:=s.toks + 1 }->wpAny (model X.prog X.w) X.A (f (.int i t)) Q E s) :
  UnR X f (rU λi=>.int (g i)):=by
 intro pins s σ H x v Q I rx h
 obtain⟨i,rfl,q⟩:=h
 obtain⟨t,rfl⟩:=rx
 exact rule i t s _ _ ⟨.int (g i),H,I.tok _,⟨_,rfl⟩,q⟩
theorem zf0:UnR X (unaryOp .USub) (rU λi=>.int (-i)):=unI λ_ _ _ _ _ q=>neg_int q
end
def JB:V->V->Bool
 | .non,.non=>af | .non,.int _=>af | .int _,.non=>af | .non,.bl _=>af | .bl _,.non=>af | .non,.str _=>af | .str _,.non=>af
 | .int _,.int _=>af | .bl _,.bl _=>af | .str _,.str _=>af | .byt _,.byt _=>af
 | .int _,.str _=>af | .str _,.int _=>af | .bl _,.str _=>af | .str _,.bl _=>af
 | _,_=>am
def rEq:R2:=λx y H Q=>JB x y=af/\Q (.bl (decide (x=y))) H
def rNe:R2:=λx y H Q=>JB x y=af/\Q (.bl (!decide (x=y))) H
theorem zbb{i j:Int}:decide (V.int i=V.int j)=(i == j):=by
 rw[lq]
 simp
theorem zcC :decide (V.bl i=V.bl j)=(i == j):=by
 rw[lq]
 simp
theorem zbc :decide (V.str i=V.str j)=(i == j):=by
 rw[lq]
 simp
theorem zbd :decide (V.byt i=V.byt j)=(i.toList == j.toList):=by
 rw[lq]
 cases i
 cases j
 simp
section
variable {X:Cx}{a b c:aA}{ta tb tc:TE}{pos:Pos}
theorem yg{σ:St}{H:Hp}{s:ag}{Q:VK}{k k':Bool}(I:Inv X pins σ H s)(q:Q (.bl k) H)(e:k=k'):EP X pins σ Q (.bool k') s:=by
 subst e
 exact⟨.bl k,H,I,rfl,q⟩
theorem yA:OpR X (compareOp .Eq) rEq:=by
 intro pins s σ H x y v u Q I rx ry h
 obtain⟨hs,q⟩:=h
 cases x with
 | non =>
  cases rx
  cases y with
  | non=>cases ry;exact PySem.EqNone.eq_none_none (yg I q (by simp))
  | bl j=>cases ry;exact PySem.EqNone.eq_none_bool (yg I q (by simp))
  | int j=>obtain⟨t',rfl⟩:=ry;exact PySem.EqNone.eq_none_int (yg I q (by simp))
  | str j=>obtain⟨t',rfl⟩:=ry;exact PySem.EqNone.eq_none_str (yg I q (by simp))
  | _=>exact absurd (show am=af from hs) bG
 | bl i =>
  cases rx
  cases y with
  | non=>cases ry;exact PySem.EqNone.eq_bool_none (yg I q (by simp))
  | bl j=>cases ry;exact eq_bool (yg I q zcC)
  | str j=>obtain⟨t',rfl⟩:=ry;exact PySem.EqMixed.eq_bool_str (yg I q (by simp))
  | _=>exact absurd (show am=af from hs) bG
 | int i =>
  obtain⟨t,rfl⟩:=rx
  cases y with
  | non=>cases ry;exact PySem.EqNone.eq_int_none (yg I q (by simp))
  | int j=>obtain⟨t',rfl⟩:=ry;exact eq_int (yg I q zbb)
  | str j=>obtain⟨t',rfl⟩:=ry;exact PySem.EqMixed.eq_int_str (yg I q (by simp))
  | _=>exact absurd (show am=af from hs) bG
 | str i =>
  obtain⟨t,rfl⟩:=rx
  cases y with
  | non=>cases ry;exact PySem.EqNone.eq_str_none (yg I q (by simp))
  | bl j=>cases ry;exact PySem.EqMixed.eq_str_bool (yg I q (by simp))
  | int j=>obtain⟨t',rfl⟩:=ry;exact PySem.EqMixed.eq_str_int (yg I q (by simp))
  | str j=>obtain⟨t',rfl⟩:=ry;exact eq_str (yg I q zbc)
  | _=>exact absurd (show am=af from hs) bG
 | byt i =>
  obtain⟨t,rfl⟩:=rx
  cases y with
  | byt j=>obtain⟨t',rfl⟩:=ry;exact W.eq_bytes (yg I q zbd)
  | _=>exact absurd (show am=af from hs) bG
 | _=>cases y <;> exact absurd (show am=af from hs) bG
theorem XE:OpR X (compareOp .NotEq) rNe:=by
 intro pins s σ H x y v u Q I rx ry h
 obtain⟨hs,q⟩:=h
 cases x with
 | non =>
  cases rx
  cases y with
  | non=>cases ry;exact PySem.EqNone.ne_none_none (yg I q (by simp))
  | bl j=>cases ry;exact PySem.EqNone.ne_none_bool (yg I q (by simp))
  | int j=>obtain⟨t',rfl⟩:=ry;exact PySem.EqNone.ne_none_int (yg I q (by simp))
  | str j=>obtain⟨t',rfl⟩:=ry;exact PySem.EqNone.ne_none_str (yg I q (by simp))
  | _=>exact absurd (show am=af from hs) bG
 | bl i =>
  cases rx
  cases y with
  | non=>cases ry;exact PySem.EqNone.ne_bool_none (yg I q (by simp))
  | bl j=>cases ry;exact ne_bool (yg I q (congrArg not zcC))
  | str j=>obtain⟨t',rfl⟩:=ry;exact PySem.EqMixed.ne_bool_str (yg I q (by simp))
  | _=>exact absurd (show am=af from hs) bG
 | int i =>
  obtain⟨t,rfl⟩:=rx
  cases y with
  | non=>cases ry;exact PySem.EqNone.ne_int_none (yg I q (by simp))
  | int j=>obtain⟨t',rfl⟩:=ry;exact ne_int (yg I q (congrArg not zbb))
  | str j=>obtain⟨t',rfl⟩:=ry;exact PySem.EqMixed.ne_int_str (yg I q (by simp))
  | _=>exact absurd (show am=af from hs) bG
 | str i =>
  obtain⟨t,rfl⟩:=rx
  cases y with
  | non=>cases ry;exact PySem.EqNone.ne_str_none (yg I q (by simp))
  | bl j=>cases ry;exact PySem.EqMixed.ne_str_bool (yg I q (by simp))
  | int j=>obtain⟨t',rfl⟩:=ry;exact PySem.EqMixed.ne_str_int (yg I q (by simp))
  | str j=>obtain⟨t',rfl⟩:=ry;exact ne_str (yg I q (congrArg not zbc))
  | _=>exact absurd (show am=af from hs) bG
 | byt i =>
  obtain⟨t,rfl⟩:=rx
  cases y with
  | byt j=>obtain⟨t',rfl⟩:=ry;exact W.ne_bytes (yg I q (congrArg not zbd))
  | _=>exact absurd (show am=af from hs) bG
 | _=>cases y <;> exact absurd (show am=af from hs) bG
theorem qe:OpR X (compareOp .Lt) (rI0 λi j=>.bl (decide (i < j))):=zfZ λ_ _ _ _ _ _ _ q=>lt_int q
theorem zfy:OpR X (compareOp .LtE) (rI0 λi j=>.bl (decide (i<=j))):=zfZ λ_ _ _ _ _ _ _ q=>le_int q
theorem zfz:OpR X (compareOp .GtE) (rI0 λi j=>.bl (decide (j<=i))):=zfZ λ_ _ _ _ _ _ _ q=>ge_int q
theorem JC:OpR X (compareOp .Is) (λx y H Q=>y=.non/\Q (.bl (decide (x=.non))) H):=by
 intro pins s σ H x y v u Q I rx ry h
 obtain⟨rfl,q⟩:=h
 cases ry
 refine is_none_gen (yg I q ?_)
 cases x <;> first
  | (cases rx;rfl)
  | (obtain⟨t,rfl⟩:=rx;rfl)
theorem Wj:OpR X (compareOp .IsNot) (λx y H Q=>y=.non/\Q (.bl (!decide (x=.non))) H):=by
 intro pins s σ H x y v u Q I rx ry h
 obtain⟨rfl,q⟩:=h
 cases ry
 refine isnot_none_gen (yg I q ?_)
 cases x <;> first
  | (cases rx;rfl)
  | (obtain⟨t,rfl⟩:=rx;rfl)
theorem zD(b:aA)(h:op≠.In:=by lia)(h2:op≠.NotIn:=by lia):behindInMarks op b=am:=by
 have e1:(op == CmpOp.In)=am:=by cases op <;> first | rfl | exact absurd rfl h
 have e2:(op == CmpOp.NotIn)=am:=by cases op <;> first | rfl | exact absurd rfl h2
 cases b <;> simp[behindInMarks,e1,e2]
theorem Wk{r:R2}(ho:OpR X (compareOp op) r)(ha:PE X a ta)(hb:PE X b tb)(hm:behindInMarks op b=am):PE X (.Compare a [op] [b] pos) (tOp r ta tb):=by
 intro pins s σ H Q I h
 exact wpAny_Compare1 (zfY ha hb I h λv u s2 x y H2 I2 rx ry q=>ho pins s2 σ H2 x y v u Q I2 rx ry q) hm
def zB(t:TE):TT:=λσ H Q=>t σ H λx H'=>∃k,x=.bl k/\Q k H'
theorem zu{r:R2}(ho:OpR X (compareOp op) r)(ha:PE X a ta)(hb:PE X b tb)(hm:behindInMarks op b=am):PT X (.Compare a [op] [b] pos) (zB (tOp r ta tb)):=by
 intro pins s σ H Q I h
 refine wpAny_isTrue_Compare1 (thn (ha pins s σ H _ I h) λv s1 ⟨x,H1,I1,r1,q1⟩=>thn (hb pins s1 σ H1 _ I1 q1) λu s2 ⟨y,H2,I2,r2,q2⟩ =>
  thn (ho pins s2 σ H2 x y v u _ I2 r1 r2 q2) λc s3 ⟨z,H3,I3,r3,k,e,q3⟩=>?_) hm
 subst e
 cases r3
 exact fA ⟨H3,I3,q3⟩
def zam(r r':R2)(ta tb tc:TE):TE:=λσ H Q=>ta σ H λx H1=>tb σ H1 λy H2=>r x y H2 λz H3=>∃k,z=.bl k /\
 (if k=af then tc σ H3 λw' H4=>r' y w' H4 Q else Q (.bl am) H3)
theorem zcD{r r':R2}(ho:OpR X (compareOp op) r)(ho':OpR X (compareOp op') r')(ha:PE X a ta)(hb:PE X b tb)(hc:PE X c tc)
  (hm:lastMarks [op,op'] [b,c]=am:=by with_unfolding_all rfl):PE X (.Compare a [op,op'] [b,c] pos) (zam r r' ta tb tc):=by
 intro pins s σ H Q I h
 refine Compare_chain (thn (ha pins s σ H _ I h) λv s1 ⟨x,H1,I1,r1,q1⟩=>chain_link (thn (hb pins s1 σ H1 _ I1 q1) λu s2 ⟨y,H2,I2,r2,q2⟩ =>
  thn (ho pins s2 σ H2 x y v u _ I2 r1 r2 q2) λd s3 ⟨z,H3,I3,r3,k,e,q3⟩=>?_)) hm
 subst e
 cases r3
 refine fA ?_
 cases k with
 | false=>exact ite_ff ⟨.bl am,H3,I3,rfl,q3⟩
 | true=>exact ite_tt (chain_last (thn (hc pins s3 σ H3 _ I3 q3) λw' s4 ⟨z',H4,I4,r4,q4⟩=>ho' pins s4 σ H4 y z' u w' Q I4 r2 r4 q4))
theorem JD:(sizeLine:Nat) < 2 ^ 63:=by rw[bT];decide
theorem wG:OpR X (binaryOp .Add) (λx y H Q=>∃i j,x=.str i/\y=.str j/\i.length + j.length<=sizeLine/\Q (.str (i ++ j)) H):=by
 intro pins s σ H x y v u Q I rx ry h
 obtain⟨i,j,rfl,rfl,hz,q⟩:=h
 obtain⟨t,rfl⟩:=rx
 obtain⟨t',rfl⟩:=ry
 exact add_str (λt' tk=>⟨.str (i ++ j),H,I.tok _,⟨_,rfl⟩,q⟩) hz
theorem qu(r:Vals [x] us):∃u,us=[u]/\RelV x u:=by
 cases r with
 | cons r1 r2=>cases r2;exact⟨_,rfl,r1⟩
theorem zcE(r:Vals [x,y] us):∃u w',us=[u,w']/\RelV x u/\RelV y w':=by
 cases r with
 | cons r1 r2 =>
  cases r2 with
  | cons r3 r4=>cases r4;exact⟨_,_,rfl,r1,r3⟩
theorem zbO(hc:X.calm=af):jQ X (.builtin "max") (λxs H Q=>∃i j,xs=[.int i,.int j]/\Q (.int (if j > i then j else i)) H):=by
 intro pins s σ H xs us Q I r h
 obtain⟨i,j,rfl,q⟩:=h
 obtain⟨u,w',rfl,⟨t,rfl⟩,⟨t',rfl⟩⟩:=zcE r
 refine max_two_ints (I.ok.hd hc) λh' tk k=>⟨_,H,I.kept k,?_,q⟩
 by_cases hj:j > i
 ·rw[ao hj,ao hj];exact⟨_,rfl⟩
 ·rw[ak hj,ak hj];exact⟨_,rfl⟩
def KC(K:bx)(x:V)(H:Hp)(n:Nat):Prop :=
 match x with
 | .str y=>y.length<=sizeLine/\n=y.length
 | .byt y=>y.size<=sizeLine/\n=y.size
 | .ref p=>(∃xs,SqL K H p xs/\n=xs.length)\/∃xs,SqT K H p xs/\n=xs.length
 | _=>False
theorem ya:jQ X (.builtin "len") (λxs H Q=>∃x n,xs=[x]/\KC X.K x H n/\Q (.int n) H):=by
 intro pins s σ H xs us Q I r h
 obtain⟨x,n,rfl,e,q⟩:=h
 obtain⟨u,rfl,rx⟩:=qu r
 have hl:=JD
 have hs:sizeLine=16777216:=bT
 cases x with
 | str y =>
  obtain⟨t,rfl⟩:=rx
  obtain⟨hy,e'⟩:y.length<=sizeLine/\n=y.length:=e
  subst e'
  exact len_str (by lia) ⟨.int _,H,I.tok _,⟨_,rfl⟩,q⟩
 | byt y =>
  obtain⟨t,rfl⟩:=rx
  obtain⟨hy,e'⟩:y.size<=sizeLine/\n=y.size:=e
  subst e'
  exact W.len_bytes (by lia) ⟨.int _,H,I.tok _,⟨_,rfl⟩,q⟩
 | ref p =>
  cases rx
  have e':(∃xs,SqL X.K H p xs/\n=xs.length)\/∃xs,SqT X.K H p xs/\n=xs.length:=e
  rcases e' with ⟨xs,hx,e'⟩ | ⟨xs,hx,e'⟩
  ·subst e'
   obtain⟨its,r',pl,hz⟩:=I.list hx
   have hlen:=r'.length
   exact Calls.call_len_list pl.isList (by simp only[bK];lia) ⟨.int xs.length,H,I.tok _,⟨_,by simp only[bK];rw[hlen]⟩,q⟩
  ·subst e'
   obtain⟨its,r',pl,hz⟩:=I.tuple hx
   have hlen:=r'.length
   exact len_tuple pl (by simp only[bK];lia) ⟨.int xs.length,H,I.tok _,⟨_,by simp only[bK];rw[hlen]⟩,q⟩
 | _=>exact(show False from e).elim
end
structure ObjM(h:av)(x dx C:ac)(mA:Str->Option ae):Prop where
 obj:h.get? x=aa (fP C dx)
 ns:h.Ns1 dx mA
 ne:dx≠x
theorem zbP{h:av}{mA:Str->Option ae}(n:h.Ns1 dx mA):∃od,h.get? dx=aa od/\∀name,rm name od=aa (mA name):=by
 obtain⟨o,es,ep,ho,hd,hk,_,hm⟩:=n
 refine⟨o,ho,λname=>?_⟩
 have e:=hm name
 unfold nsFind findBy at e
 rw[<-Array.find?_toList] at e
 unfold rm
 rw[hd]
 dsimp only
 split
 ·rename_i y q
  rw[q] at e
  exact congrArg aa e
 ·rename_i q
  rw[q] at e
  have a:es.toList.any (·.refKey)=am:=by
   rw[List.any_eq_false]
   intro y hy
   obtain⟨z,t,hkey⟩:=hk y (Array.mem_toList_iff.mp hy)
   simp[DictEntry.refKey,hkey]
  have a':¬ es.toList.any (·.refKey)=af:=by rw[a];exact bG
  rw[ak a']
  exact congrArg aa e
theorem ObjM.look{mA:Str->Option ae}(I:ObjM h x dx C mA):∃od,W.InstAt h x (fP C dx) C (aa od)/\∀name,rm name od=aa (mA name):=
 let ⟨od,ho,hl⟩:=zbP I.ns
 ⟨od,⟨I.obj,rfl,rfl,ho⟩,hl⟩
section
variable {prog:au}{w:aw}{A:ax}{E:ae->ag->Prop}{s:ag}{K:bx}{x dx C f:ac}{mA:Str->Option ae}{name:Str}{v:ae}
theorem zev{Q:ae->ag->Prop}(X:K.In s.heap)(I:ObjM s.heap x dx C mA)(hg:gO K C name=af)(hh:gK K C=af)
  (ha:cm K (.ref C) name=aa ah) (hv:mA name=aa v) (hv':W.handedIn v=af) (h:Q v { s with toks:=s.toks + 1 }) :
  wpAny (model prog w) A (getAttr (.ref x) name expr) Q E s:=by
 obtain⟨od,J,hl⟩:=I.look
 exact W.get_value X J (oJ hg).1 (W.findObj_own hh ha rfl (by rw[hl,hv])) hv' h
theorem zcF{pl:Sem Bool}{Q:ae × List ae->ag->Prop}(X:K.In s.heap)(I:ObjM s.heap x dx C mA)(hg:gO K C name=af)
  (hf:cm K (.ref C) name=aa (aa (.ref f))) (ht:pG K (.ref f)=af) (hv:mA name=ah) (h:Q (.ref f,[.ref x]) s) :
  wpAny (model prog w) A (getMethod (.ref x) name pl) Q E s:=by
 obtain⟨od,J,hl⟩:=I.look
 exact W.method_fn X J (oJ hg).1 (oJ hg).2 hf (beq_iff_eq.mp ht) (by show (rm name od).map (·.isSome)=aa am;rw[hl,hv];rfl) h
theorem zew{Q:Unit->ag->Prop}(X:K.In s.heap)(I:ObjM s.heap x dx C mA)
  (hs:cm K (.ref C) "__setattr__"=aa (aa (.builtin "object.__setattr__"))) (hp:iq K C=af) (ht:W.takerIn K C name=aa ah) (hh:gK K C=af)
  (hw:pE mA ns) (hsz:ns.length<=sizeLine)
  (h:∀h',ObjM h' x dx C (λy=>if y=name then aa v else mA y)->cP dx s.heap h'->Q () { s with heap:=h',toks:=s.toks + 2 }) :
  wpAny (model prog w) A (setAttr (.ref x) name v) Q E s:=by
 obtain⟨od,J,hl⟩:=I.look
 refine W.set_plain X J hs (W.osa_open (s:={ s with toks:=s.toks + 1 }) (r:=ah) X J hp ht λb=>?_)
 obtain⟨cd,hc,hd'⟩:=W.any_some hh
 have hx:s.heap.get? x=aa ⟨.ref C,aa dx,.plain,#[]⟩:=I.obj
 refine ba (bg (ba (ba (wpAny_loadPart hx (ba (W.Looks.here (s:={ s with toks:=s.toks + 1 }) (W.looks_clsIn X hc) ?_))))))
 rw[hd']
 refine bg (a:=aa dx) (ba (bg (ba ?_)))
 refine wpAny_nsSet1 (s:={ s with toks:=s.toks + 1 }) I.ns λh' hn2 hs2=>?_
 obtain⟨oD,esD,epD,hoD,hdD,hcD⟩:=hn2.count (PySem.Within.cons name v hw)
 refine ba (wpAny_lookBehind hoD (by rw[hdD];exact pastItsLine_dict (bN hcD (by rw[bR];lia))) ?_)
 exact bg (h _ ⟨(hs2.2 _ (fc I.ne)).trans I.obj,hn2,I.ne⟩ hs2)
theorem zcG{R:aC->ag->Prop}(X:K.In s.heap)(hm:iH K C=af)
  (hi:cm K (.ref C) "__init__"=aa (aa (.ref f))) (hf:W.typeIn K (.ref f)=aa (.type "function"))
  (h:codeAny (model prog w) (A.under (.builtin "type.__call__" ⟨.ref C :: vs,kw⟩)) (.call (.ref f) ⟨.ref (s.heap.objs.size + 1) :: vs,kw⟩) (W.InitBack (s.heap.objs.size + 1) R)
   { s with heap:=(s.heap.push dX).push (fP C s.heap.objs.size) }) :
  codeAny (model prog w) A (.call (.ref C) ⟨vs,kw⟩) R s:=by
 obtain⟨hh,g,d,t,os⟩:=s
 exact W.make_core (W.makes_of X hm) (W.looks_findIn X hi) (λself=>W.bind_fn X self hf) (.inl rfl) h
theorem zbQ{R:aC->ag->Prop}(X:K.In s.heap)(hm:iH K C=af)
  (hi:cm K (.ref C) "__init__"=aa (aa (.builtin "object.__init__")))
  (hb:∀self,ro (model prog w) s.heap (bindSpecial (.builtin "object.__init__") self) (.builtin "object.__init__",[self]))
  (h:codeAny (model prog w) (A.under (.builtin "type.__call__" ⟨[.ref C],[]⟩)) (.call (.builtin "object.__init__") ⟨[.ref (s.heap.objs.size + 1)],[]⟩) (W.InitBack (s.heap.objs.size + 1) R)
   { s with heap:=(s.heap.push dX).push (fP C s.heap.objs.size) }) :
  codeAny (model prog w) A (.call (.ref C) ⟨[],[]⟩) R s:=by
 obtain⟨hh,g,d,t,os⟩:=s
 exact W.make_core (W.makes_of X hm) (W.looks_findIn X hi) hb (.inr ⟨rfl,rfl⟩) h
end
def xY(f:Str)(v:V):List (Str × V)->List (Str × V)
 | []=>[(f,v)]
 | (g,x) :: r=>if g=f then (g,v) :: r else (g,x) :: xY f v r
theorem XG(f g:Str)(v:V):∀fs:List (Str × V),(xY f v fs).lookup g=if g=f then aa v else fs.lookup g
 | []=>by
  show cU g [(f,v)]=_
  by_cases h:g=f
  ·have hb:(g == f)=af:=beq_iff_eq.mpr h
   simp only[cU,hb,ao h]
  ·have hb:(g == f)=am:=beq_eq_false_iff_ne.mpr h
   simp only[cU,hb,ak h]
 | (k,x) :: r=>by
  have ih:=XG f g v r
  rw[show xY f v ((k,x) :: r)=(if k=f then (k,v) :: r else (k,x) :: xY f v r) from rfl]
  by_cases hk:k=f
  ·rw[ao hk]
   by_cases h:g=k
   ·have hb:(g == k)=af:=beq_iff_eq.mpr h
    simp only[cU,hb,ao (h.trans hk)]
   ·have hb:(g == k)=am:=beq_eq_false_iff_ne.mpr h
    simp only[cU,hb,ak (λe:g=f=>h (e.trans hk.symm))]
  ·rw[ak hk]
   by_cases h:g=k
   ·have hb:(g == k)=af:=beq_iff_eq.mpr h
    simp only[cU,hb,ak (λe:g=f=>hk (h.symm.trans e))]
   ·have hb:(g == k)=am:=beq_eq_false_iff_ne.mpr h
    simp only[cU,hb]
    exact ih
theorem Y9(f:Str)(v:V):∀fs:List (Str × V),f∈(xY f v fs).map (·.1)/\∀g,g∈fs.map (·.1)->g∈(xY f v fs).map (·.1)
 | []=>⟨by simp[xY],λg h=>by simp at h⟩
 | (k,x) :: r=>by
  obtain⟨i1,i2⟩:=Y9 f v r
  rw[show xY f v ((k,x) :: r)=(if k=f then (k,v) :: r else (k,x) :: xY f v r) from rfl]
  by_cases hk:k=f
  ·rw[ao hk]
   subst hk
   exact⟨by simp,λg h=>by simpa using h⟩
  ·rw[ak hk]
   refine⟨?_,λg h=>?_⟩
   ·rw[bM]
    exact br _ i1
   ·rw[bM] at h ⊢
    rcases bE.mp h with e | e
    ·exact bE.mpr (.inl e)
    ·exact br _ (i2 g e)
theorem XH(f:Str)(v:V):∀fs:List (Str × V),(xY f v fs).length<=fs.length + 1
 | []=>by simp[xY]
 | (k,x) :: r=>by
  have ih:=XH f v r
  rw[show xY f v ((k,x) :: r)=(if k=f then (k,v) :: r else (k,x) :: xY f v r) from rfl]
  by_cases hk:k=f
  ·rw[ao hk,bR,bR];lia
  ·rw[ak hk,bR,bR];lia
theorem RelO.some_of(r:RelO (aa v) o):∃u,o=aa u/\RelV v u:=by
 cases o with
 | none=>exact(show False from r).elim
 | some u=>exact⟨u,rfl,r⟩
theorem RelO.none_of(r:RelO ah o):o=ah:=by
 cases o with
 | none=>rfl
 | some u=>exact(show False from r).elim
theorem zbR(r:RelV v u):W.handedIn u=af:=by
 cases v with
 | non=>cases (show u=cL from r);rfl
 | bl b=>cases (show u=ik b from r);rfl
 | int i=>obtain⟨t,e⟩:=(show ∃t,u=fV i t from r);cases e;rfl
 | str x=>obtain⟨t,e⟩:=(show ∃t,u=gQ x t from r);cases e;rfl
 | byt b=>obtain⟨t,e⟩:=(show ∃t,u=Value.bytes b t from r);cases e;rfl
 | flt b=>obtain⟨t,e⟩:=(show ∃t,u=pU b t from r);cases e;rfl
 | ref a=>cases (show u=bL a from r);rfl
 | ty n=>cases (show u=l9 n from r);rfl
section
variable {P:au}{w:aw}{H H':Hp}{h h':av}{a C dx:ac}{fs fs':List (Str × V)}
theorem Wl(hok:HOk P w H h)(e:H a=aa (.ins C dx fs)):∃mA,ObjM h a dx C mA/\(∀f,RelO (fs.lookup f) (mA f))/\pE mA (fs.map (·.1))/\fs.length<=1000/\H dx=aa (.own a):=by
 obtain⟨d,z,ne,ob,mA,n,r,q⟩:=(show ObjOk P w H h a (.ins C dx fs) from hok a _ e)
 exact⟨mA,⟨ob,n,ne⟩,r,q,z,d⟩
end
structure Cls(K:bx)(C:ac):Prop where
 pg:gO K C gD=af
 hd:gK K C=af
 po:iq K C=af
 sa:cm K (.ref C) "__setattr__"=aa (aa (.builtin "object.__setattr__"))
theorem Cls.get{K:bx}(c:Cls K C)(f:Str):gO K C f=af:=c.pg
def NoAttr(K:bx)(C:ac)(f:Str):Prop:=cm K (.ref C) f=aa ah
theorem NoAttr.taker{K:bx}{C:ac}(n:NoAttr K C f):W.takerIn K C f=aa ah:=by
 unfold W.takerIn
 rw[show cm K (.ref C) f=aa ah from n]
 rfl
structure zan(K:bx)(C:ac)(m:Str)(f:ac):Prop where
 at_:cm K (.ref C) m=aa (aa (.ref f))
 fn:pG K (.ref f)=af
 kp:eI K (.ref f)=af
section
variable {X:Cx}{pins:List (ac × Obj)}{σ:St}{H:Hp}{s:ag}{a C dx:ac}{fs:List (Str × V)}{f:Str}{v:V}{A:ax}{E:ae->ag->Prop}
theorem zao{Q:ae->ag->Prop}(I:Inv X pins σ H s)(e:H a=aa (.ins C dx fs))(c:Cls X.K C)(n:NoAttr X.K C f)(l:fs.lookup f=aa v)
  (h:∀u s',Inv X pins σ H s'->RelV v u->Q u s'):wpAny (model X.prog X.w) A (getAttr (.ref a) f b) Q E s:=by
 obtain⟨mA,O,r,_,_,_⟩:=Wl I.hok e
 obtain⟨u,hu,ru⟩:=RelO.some_of (v:=v) (o:=mA f) (by rw[<-l];exact r f)
 exact zev I.kIn O (c.get f) c.hd n hu (zbR ru) (h u _ (I.tok _) ru)
theorem Z0{pl:Sem Bool}{Q:ae × List ae->ag->Prop}(I:Inv X pins σ H s)(e:H a=aa (.ins C dx fs))(c:Cls X.K C)(k:zan X.K C m g)(l:fs.lookup m=ah)
  (h:Q (.ref g,[.ref a]) s):wpAny (model X.prog X.w) A (getMethod (.ref a) m pl) Q E s:=by
 obtain⟨mA,O,r,_,_,_⟩:=Wl I.hok e
 have hn:mA m=ah:=RelO.none_of (by rw[<-l];exact r m)
 exact zcF I.kIn O (c.get m) k.at_ k.fn hn h
theorem WA{Q:Unit->ag->Prop}(I:Inv X pins σ H s)(e:H a=aa (.ins C dx fs))(c:Cls X.K C)(n:NoAttr X.K C f)(hl:fs.length < 1000)(ry:RelV y u)
  (h:∀s',Inv X pins σ (upd H a (.ins C dx (xY f y fs))) s'->Q () s'):wpAny (model X.prog X.w) A (setAttr (.ref a) f u) Q E s:=by
 obtain⟨mA,O,r,wi,_,ho⟩:=Wl I.hok e
 have hz:(fs.map (·.1)).length<=sizeLine:=by rw[bo,bT];lia
 refine zew I.kIn O c.sa c.po n.taker c.hd wi hz λh' O' sb=>h _ ?_
 have hd:∃o,h'.get? dx=aa o:=let ⟨o,_,_,e',_⟩:=O'.ns;⟨o,e'⟩
 refine I.write (x:=a) (e:=dx) (by rw[e];exact eJ) (.inr ho) (λb q hb z=>(sb.2 b hb).trans z) hd ?_
 refine⟨by rw[zk O.ne];exact ho,?_,O.ne,O'.obj,_,O'.ns,λg=>?_,λg hg=>?_⟩
 ·have:=XH f y fs;lia
 ·show RelO ((xY f y fs).lookup g) (if g=f then aa u else mA g)
  rw[XG]
  by_cases q:g=f
  ·rw[ao q,ao q];exact ry
  ·rw[ak q,ak q];exact r g
 ·by_cases q:g=f
  ·rw[q];exact(Y9 f y fs).1
  ·refine(Y9 f y fs).2 g (wi g λz=>hg ?_)
   show (if g=f then aa u else mA g)=ah
   rw[ak q];exact z
theorem Inv.made(I:Inv X pins σ H s):Inv X pins σ (upd (upd H s.heap.objs.size (.own (s.heap.objs.size + 1))) (s.heap.objs.size + 1) (.ins C s.heap.objs.size []))
  { s with heap:=(s.heap.push dX).push (fP C s.heap.objs.size) }:=by
 have e1:(s.heap.push dX).get? s.heap.objs.size=aa dX:=bB s.heap rfl
 have e2:((s.heap.push dX).push (fP C s.heap.objs.size)).get? (s.heap.objs.size + 1)=aa (fP C s.heap.objs.size):=by
  have:=bB (s.heap.push dX) (o:=fP C s.heap.objs.size) rfl
  rwa [eR] at this
 have e3:(s.heap.push dX).Ns s.heap.objs.size (λ_=>ah):=⟨dX,#[],_,e1,rfl,(λe he=>absurd he (by simp)),λ_=>rfl⟩
 have I1:=I.laid (a:=s.heap.objs.size) (o:=.own (s.heap.objs.size + 1)) (h':=s.heap.push dX) (t':=s.toks) (λb u q=>bd _ q) (bh _) ⟨_,e1⟩
 refine I1.laid (a:=s.heap.objs.size + 1) (o:=.ins C s.heap.objs.size []) (t':=s.toks) (λb u q=>bd _ q) (nE (eR _ _)) ?_
 have ne:s.heap.objs.size≠s.heap.objs.size + 1:=bU (mU _)
 refine⟨by rw[zk ne,zg],bW _,ne,e2,λ_=>ah,(Heap.Ns1.of_empty e3).at λo q=>bd _ q,λ_=>eJ,λy hy=>absurd rfl hy⟩
theorem zex{Q:ae->ag->Prop}(hb:attributeBase e f env (eval e env)=eval e env)
  (h:wpAny (model prog w) A (eval e env) (λo s₁=>wpAny (model prog w) A (getAttr o f af) Q E s₁) E s):wpAny (model prog w) A (eval (.Attribute e f pos) env) Q E s:=
 Attribute_any_ h (by rw[arm_eval_Attribute,hb])
end
def zN(K:bx)(ta:TE)(f:Str):TE:=λσ H Q=>ta σ H λx H1=>∃a C dx fs v,x=.ref a/\H1 a=aa (.ins C dx fs)/\Cls K C/\NoAttr K C f/\fs.lookup f=aa v/\Q v H1
def xK(K:bx)(ta tv:TE)(f:Str):TS:=λD σ H=>tv σ H λy H1=>ta σ H1 λx H2=>∃a C dx fs,x=.ref a/\H2 a=aa (.ins C dx fs)/\Cls K C/\NoAttr K C f/\fs.length < 1000 /\
 D.nx σ (upd H2 a (.ins C dx (xY f y fs)))
section
variable {X:Cx}{o e value:aA}{f:Str}{pos pos' tpos:Pos}{ta tv:TE}
theorem zv(he:PE X e ta)(hb:attributeBase e f X.env (eval e X.env)=eval e X.env):PE X (.Attribute e f pos) (zN X.K ta f):=by
 intro pins s σ H Q I h
 refine zex hb (thn (he pins s σ H _ I h) λu s1 ⟨x,H1,I1,rx,a,C,dx,fs,v,ex,ea,c,n,l,q⟩=>?_)
 subst ex
 obtain rfl:u=bL a:=rx
 exact zao I1 ea c n l λu' s2 I2 ru=>⟨v,H1,I2,ru,q⟩
theorem yq(ha:PE X o ta)(hv:PE X value tv)(hs:swapsWith value (aa (.Attribute o f pos')) pos.line X.env=pure am):PS X (.Assign [.Attribute o f pos'] value pos) (xK X.K ta tv f):=by
 intro pins s σ H D I h
 refine ir (thn (hv pins s σ H _ I h) λu s1 ⟨y,H1,I1,ry,q⟩=>thn (ha pins s1 σ H1 _ I1 q) λov s2 ⟨x,H2,I2,rx,a,C,dx,fs,ex,ea,c,n,l,q2⟩=>?_) hs
 subst ex
 obtain rfl:ov=bL a:=rx
 exact WA I2 ea c n l ry λs3 I3=>⟨σ,_,I3,q2⟩
end
section
variable {X:Cx}{pins:List (ac × Obj)}{σ:St}{H:Hp}{s:ag}{A:ax}{E:ae->ag->Prop}{Q:ae->ag->Prop}{c:ae}{b:Bool}
inductive Z1 (K:bx) (H:Hp):V->ae->Prop where
 | non:Z1 K H .non (.type "NoneType")
 | bl (x:Bool):Z1 K H (.bl x) (.type "bool")
 | int (i:Int):Z1 K H (.int i) (.type "int")
 | str (x:Str):Z1 K H (.str x) (.type "str")
 | flt (x:UInt64):Z1 K H (.flt x) (.type "float")
 | lst {a:ac} {xs:List V} (e:H a=aa (.lst xs)):Z1 K H (.ref a) (.type "list")
 | frz {a:ac} {o:Obj} {xs:List V} (e:H a=aa (.frz o (.lst xs))):Z1 K H (.ref a) (.type "list")
 | tup {a:ac} {xs:List V} (e:H a=aa (.tup xs)):Z1 K H (.ref a) (.type "tuple")
 | dK {a:ac} {kvs:List (Key × V)} (e:H a=aa (.dK kvs)):Z1 K H (.ref a) (.type "dict")
 | dT {a:ac} {kvs:List (List Key × V)} (e:H a=aa (.dT kvs)):Z1 K H (.ref a) (.type "dict")
 | ins {a C dx:ac} {fs:List (Str × V)} (e:H a=aa (.ins C dx fs)) (cl:Cls K C) (ha:cm K (.ref C) "__class__"=aa (aa (.builtin "object.__class__")))
   (hn:pW K (.builtin "object.__class__") "__get__"=aa (aa (.builtin "getset_descriptor.__get__"))) (htk:W.takesIn K (.builtin "object.__class__")=aa af)
   (hm:rq K C (.type "object")=aa af):Z1 K H (.ref a) (.ref C)
theorem zbS(I:Inv X pins σ H s)(rx:RelV x u)(ty:Z1 X.K H x t)(e:fM X.K t c=aa b)(h:∀tk,Q (.bool b) { s with toks:=tk }) :
  wpAny (model X.prog X.w) A (call (.builtin "isinstance") [u,c]) Q E s:=by
 cases ty with
 | non=>cases (show u=cL from rx);exact gE W.kitx_none I.kIn eJ e (by lia) h
 | bl y=>cases (show u=ik y from rx);exact gE W.kitx_bool I.kIn eJ e (by lia) h
 | int i=>obtain⟨t,q⟩:=(show ∃t,u=fV i t from rx);cases q;exact gE W.kitx_int I.kIn eJ e (by lia) h
 | str y=>obtain⟨t,q⟩:=(show ∃t,u=gQ y t from rx);cases q;exact gE W.kitx_str I.kIn eJ e (by lia) h
 | flt y=>obtain⟨t,q⟩:=(show ∃t,u=pU y t from rx);cases q;exact gE W.kitx_float I.kIn eJ e (by lia) h
 | @lst a xs ea =>
  cases (show u=bL a from rx)
  obtain⟨_,_,n,_,h1⟩:=(show ObjOk X.prog X.w H s.heap a (.lst xs) from I.hok a _ ea)
  exact gE W.kitx_list I.kIn ⟨_,h1,rfl⟩ e (by lia) h
 | @frz a ob xs ea =>
  cases (show u=bL a from rx)
  obtain⟨_,_,_,n,_,h1⟩:=(show ObjOk X.prog X.w H s.heap a (.frz ob (.lst xs)) from I.hok a _ ea)
  exact gE W.kitx_list I.kIn ⟨_,h1,rfl⟩ e (by lia) h
 | @tup a xs ea =>
  cases (show u=bL a from rx)
  obtain⟨_,_,_,p⟩:=(show ObjOk X.prog X.w H s.heap a (.tup xs) from I.hok a _ ea)
  obtain⟨o,h1,h2,_⟩:=p
  exact gE W.kitx_tuple I.kIn ⟨o,h1,h2⟩ e (by lia) h
 | @dK a kvs ea =>
  cases (show u=bL a from rx)
  obtain⟨_,_,vs,_,p⟩:=(show ObjOk X.prog X.w H s.heap a (.dK kvs) from I.hok a _ ea)
  obtain⟨o,es,ep,h1,h2,_⟩:=p
  exact gE W.kitx_dict I.kIn ⟨o,h1,h2.1⟩ e (by lia) h
 | @dT a kvs ea =>
  cases (show u=bL a from rx)
  obtain⟨_,_,xs,_,o,es,ep,h1,h2,_⟩:=(show ObjOk X.prog X.w H s.heap a (.dT kvs) from I.hok a _ ea)
  exact gE W.kitx_dict I.kIn ⟨o,h1,h2.1⟩ e (by lia) h
 | @ins a C dx fs ea cl ha hn htk hm =>
  cases (show u=bL a from rx)
  obtain⟨mA,O,_⟩:=Wl I.hok ea
  obtain⟨od,J,_⟩:=O.look
  exact gE (W.kitx_own (cl.get _) cl.hd ha hn htk hm) I.kIn J e (by lia) h
end
structure Room(k:Nat)(A:ax):Prop where
 hd:A.handled=ah
 dp:A.depth + 3 * k + 5 < recursionLimit
 un:A.units + 16 * k + 200 < cLine
theorem Room.mono(r:Room k A)(h:j<=k):Room j A:=⟨r.hd,by have:=r.dp;lia,by have:=r.un;lia⟩
theorem Room.deeper(r:Room (k + 1) A)(env:Env):Room k (A.deeper env):=
 ⟨r.hd,by have:=r.dp;show A.depth + 1 + 3 * k + 5 < _;lia,by have:=r.un;show A.units + 3 + 16 * k + 200 < _;lia⟩
theorem zap{A:ax}{C:ac}{us:List ae} :(A.under (.builtin "type.__call__" ⟨.ref C :: us,kw⟩)).depth=A.depth + 1:=by
 first | rfl | simp[pH,Code.weight,Code.isCreation,Code.isGuard,Code.isCaller,Code.frames,pI,guardIds]
theorem zaq{A:ax}{C:ac}{us:List ae} :(A.under (.builtin "type.__call__" ⟨.ref C :: us,kw⟩)).units=A.units + 1:=by
 first | rfl | simp[pH,Code.cUnits,Code.frames,pI]
theorem Room.make(r:Room (k + 1) A)(C:ac)(us:List ae)(kw:List (Str × ae)):Room k (A.under (.builtin "type.__call__" ⟨.ref C :: us,kw⟩)):=
 ⟨r.hd,by have:=r.dp;rw[zap];lia,by have:=r.un;rw[zaq];lia⟩
theorem Room.depth(r:Room k A):A.depth < recursionLimit:=by have:=r.dp;lia
theorem Room.units(r:Room k A):A.units + 64 < cLine:=by have:=r.un;lia
def zi:TA:=λ_ H Q=>Q [] H
def zc(ta:TE)(tr:TA):TA:=λσ H Q=>ta σ H λx H1=>tr σ H1 λxs H2=>Q (x :: xs) H2
section
variable {X:Cx}{e:aA}{es:List aA}{te:TE}{t:TA}{pos:Pos}
theorem ze:PA X [] zi:=λ_ _ _ _ H Q I h=>eS ⟨[],H,I,.nil,h⟩
theorem za(ha:PE X e te)(hr:PA X es t)(hs:starEach (e :: es) X.env=(am,eval e X.env) :: starEach es X.env:=by rfl):PA X (e :: es) (zc te t):=by
 intro pos pins s σ H Q I h
 rw[hs]
 show wpAny _ _ (spliced ((am,eval e X.env) :: backTo pos (starEach es X.env))) _ _ s
 refine cW (thn (ha pins s σ H _ I h) λu s1 ⟨x,H1,I1,r1,q1⟩=>?_)
 exact thn (hr pos pins s1 σ H1 _ I1 q1) λus s2 ⟨xs,H2,I2,r2,q2⟩=>⟨x :: xs,H2,I2,.cons r1 r2,q2⟩
def yt(t:TA):TE:=λσ H Q=>t σ H λxs H1=>xs.length<=sizeLine/\∀p,H1 p=ah->Q (.ref p) (upd H1 p (.tup xs))
def xo(t:TA):TE:=λσ H Q=>t σ H λxs H1=>xs.length<=sizeLine/\∀p,H1 p=ah->Q (.ref p) (upd H1 p (.lst xs))
theorem zS{x1}(h:PA X es t):PE X (.Tuple es x1 pos) (yt t):=by
 intro pins s σ H Q I hq
 refine wpAny_Tuple_spliced (thn (h pos pins s σ H _ I hq) λus s1 ⟨xs,H1,I1,r,z,q⟩=>⟨by rw[<-r.length];exact z,?_⟩)
 have hf:H1 s1.heap.objs.size=ah:=I1.hok.fresh (bh _)
 refine⟨.ref s1.heap.objs.size,upd H1 s1.heap.objs.size (.tup xs),I1.laid (t':=s1.toks) (λb u e=>bd _ e) (bh _) ?_,rfl,q _ hf⟩
 exact⟨z,us,r,⟨_,bB _ rfl,rfl,_,rfl⟩⟩
theorem yu(h:PA X es t):PE X (.List es pos) (xo t):=by
 intro pins s σ H Q I hq
 refine wpAny_List_spliced (thn (h pos pins s σ H _ I hq) λus s1 ⟨xs,H1,I1,r,z,q⟩=>⟨by rw[<-r.length];exact z,?_⟩)
 have hf:H1 s1.heap.objs.size=ah:=I1.hok.fresh (bh _)
 refine⟨.ref s1.heap.objs.size,upd H1 s1.heap.objs.size (.lst xs),I1.laid (t':=s1.toks) (λb u e=>bd _ e) (bh _) ?_,rfl,q _ hf⟩
 exact⟨z,us,0,r,bB _ rfl⟩
end
abbrev Sp:=List V->Hp->VK->XK->Prop
abbrev CXT:=List Env->Hp->ag->XK->ae->ag->Prop
structure Env0(P:au)(w:aw)(K:bx)(mg:Str->Option ae)(base:av)(A:ax)(outer:List Env)(s:ag)(H:Hp):Prop where
 frames:A.frames=aa outer
 mod:Mod K mg base
 bs:∀b o,base.get? b=aa o->s.heap.get? b=aa o/\H b=ah
 bsz:base.objs.size<=s.heap.objs.size
 funs:s.heap.FunFrames base outer
 frf:∀b∈frs outer,H b=ah
 hok:HOk P w H s.heap
 bare:AllBare s.gens
def CE(outer:List Env)(P:au)(w:aw)(H:Hp)(s:ag)(Q:VK)(u:ae)(s':ag):Prop :=
 ∃v H',s'.os=s.os/\AllBare s'.gens/\Un (frs outer) [] H H' s.heap s'.heap/\HOk P w H' s'.heap/\RelV v u/\Q v H'
def CR(CX:CXT)(outer:List Env)(P:au)(w:aw)(H:Hp)(s:ag)(Q:VK)(E:XK)(r:aC)(s':ag):Prop :=
 match r with
 | .ok (.ret u)=>CE outer P w H s Q u s'
 | .ok _=>False
 | .error e=>CX outer H s E e s'
structure FnOk(P:au)(w:aw)(K:bx)(mg:Str->Option ae)(base:av)(CX:CXT)(k:Nat)(f:ac)(fd:FuncData)(ps:List Str)(sp:Sp):Prop where
 len:∀vs H Q E,sp vs H Q E->vs.length=ps.length
 run:∀(A:ax) (outer:List Env) (s:ag) (H:Hp) (args:Args) (us:List ae) (vs:List V) (Q:VK) (E:XK),Room k A->Env0 P w K mg base A outer s H->BindsTo s fd args (ps.zip us)->Vals vs us->sp vs H Q E ->
  codeAny (model P w) A (.call (.ref f) args) (CR CX outer P w H s Q E) s
theorem FnOk.mono{w:aw}{K:bx}{mg:Str->Option ae}{base:av}{CX:CXT}{j k:Nat}{f:ac}{fd:FuncData}{ps:List Str}{sp:Sp}(F:FnOk P w K mg base CX j f fd ps sp)(h:j<=k) :
  FnOk P w K mg base CX k f fd ps sp:=⟨F.len,λA outer s H args us vs Q E hr=>F.run A outer s H args us vs Q E (hr.mono h)⟩
theorem Env0.make{w:aw}{K:bx}{mg:Str->Option ae}{base:av}{A:ax}{outer:List Env}{s:ag}{H:Hp}(e:Env0 P w K mg base A outer s H)(C:ac)(us:List ae)(kw:List (Str × ae)) :
  Env0 P w K mg base (A.under (.builtin "type.__call__" ⟨.ref C :: us,kw⟩)) outer s H:=⟨by first | exact e.frames | (simpa[pH,Code.envs,pI,pushEnvs] using e.frames),e.mod,e.bs,e.bsz,e.funs,e.frf,e.hok,e.bare⟩
section
variable {X:Cx}{pins:List (ac × Obj)}{σ:St}{H:Hp}{s s':ag}
theorem Inv.env0(I:Inv X pins σ H s):Env0 X.prog X.w X.K X.mg X.base X.A X.stack s H :=
 ⟨I.ok.frames,I.ok.mod,I.bs,bN I.ok.bsz I.sz,I.stack,I.stkFree,I.hok,I.bare⟩
theorem Inv.after{Q:VK}(I:Inv X pins σ H s)(h:CE X.stack X.prog X.w H s Q u s'):EP X pins σ Q u s':=by
 obtain⟨v,H',os,bare,un,hok,r,q⟩:=h
 obtain⟨hh,g,d,t,os'⟩:=s'
 obtain rfl:os'=s.os:=os
 exact⟨v,H',I.call (h':=hh) (g':=g) (d':=d) (t':=t) (ch:=[]) un hok bare (λb z=>absurd z (by simp)),r,q⟩
end
def zL(sp:Sp)(dvs:List V)(E:XK)(t:TA):TE:=λσ H Q=>t σ H λvs H1=>sp (vs ++ dvs) H1 Q E
def zO(C:ac)(m:Str)(sp:Sp)(dvs:List V)(E:XK)(ta:TE)(t:TA):TE:=λσ H Q=>ta σ H λx H1=>∃a dx fs,x=.ref a/\H1 a=aa (.ins C dx fs)/\fs.lookup m=ah /\
 t σ H1 λvs H2=>sp (x :: (vs ++ dvs)) H2 Q E
def XI(C:ac)(sp:Sp)(dvs:List V)(E:XK)(t:TA):TE:=λσ H Q=>t σ H λvs H1=>∀x dx,H1 x=ah->H1 dx=ah->dx≠x ->
 sp (.ref x :: (vs ++ dvs)) (upd (upd H1 dx (.own x)) x (.ins C dx [])) (λv H2=>v=.non/\Q (.ref x) H2) E
def Binds(K:bx)(fd:FuncData)(ps:List Str)(ds:List ae):Prop :=
 ∀(s:ag) (us:List ae),K.In s.heap->(us ++ ds).length=ps.length->BindsTo s fd ⟨us,[]⟩ (ps.zip (us ++ ds))
theorem Binds.all{K:bx}{fd:FuncData}(h:∀us:List ae,us.length=ps.length->bindArgs fd ⟨us,[]⟩=pure (ps.zip us)):Binds K fd ps []:=λs us _ hl=>by
 rw[bO] at hl ⊢
 exact .of_eq (h us hl)
def vO(CX:CXT)(X:Cx)(E:XK):Prop:=∀(pins:List (ac × Obj)) (σ:St) (H:Hp) (s:ag) (e:ae) (s':ag),Inv X pins σ H s->CX X.stack H s E e s'->X.xe e s'
section
variable {X:Cx}{CX:CXT}{k:Nat}{f C:ac}{fd:FuncData}{ps:List Str}{sp:Sp}{dvs:List V}{ds:List ae}{E:XK}{x m:Str}{p pos apos:Pos}{e o:aA}{es:List aA}{ta:TE}{t:TA}
theorem zar{σ:St}{H:Hp}{s:ag}{Q:VK}{us:List ae}{vs:List V}(F:FnOk X.prog X.w X.K X.mg X.base CX k f fd ps sp)(hr:Room k X.A)(hb:Binds X.K fd ps ds)(hd:Vals dvs ds)(hx:vO CX X E)
  (I:Inv X pins σ H s) (r:Vals vs us) (h:sp (vs ++ dvs) H Q E):wpAny (model X.prog X.w) X.A (call (.ref f) us) (EP X pins σ Q) X.xe s:=by
 have r2:Vals (vs ++ dvs) (us ++ ds):=r.append hd
 have hl:(us ++ ds).length=ps.length:=by rw[<-r2.length];exact F.len _ _ _ _ h
 refine oZ (fY (F.run X.A X.stack s H ⟨us,[]⟩ (us ++ ds) (vs ++ dvs) Q E hr I.env0 (hb s us I.kIn hl) r2 h) λr s' hq=>?_)
 cases r with
 | error e=>exact hx pins σ H s e s' I hq
 | ok fl =>
  cases fl with
  | ret u=>exact I.after hq
  | next=>exact c9 hq
  | brk=>exact c9 hq
  | cont=>exact c9 hq
theorem Yw(F:FnOk X.prog X.w X.K X.mg X.base CX k f fd ps sp)(hr:Room k X.A)(hg:Gl X x)(hm:X.mg x=aa (.ref f))(hk:eI X.K (.ref f)=af)(hb:Binds X.K fd ps ds)(hd:Vals dvs ds)(hx:vO CX X E)
  (ha:PA X (e :: es) t) (hdb:(x == ("__debug__":Str))=am:=by lia) (he:starEach (e :: es) X.env=(am,eval e X.env) :: starEach es X.env:=by rfl) (hpl:(backTo pos (starEach es X.env)).any (·.1)=am:=by rfl) :
  PE X (.Call (.Name x p) (e :: es) [] pos) (zL sp dvs E t):=by
 intro pins s σ H Q I h
 refine fU (vz I hg hm ?_ hdb)
 refine nF (h₀:=X.base) I.ok.mod.kin hk (thn (ha pos pins s σ H _ I h) λus s1 ⟨vs,H1,I1,r,q⟩=>⟨I1.kIn,?_⟩) he hpl
 exact zar F hr hb hd hx I1 r q
theorem zU{pl:Sem Bool}(he:PE X o ta)(c:Cls X.K C)(hm:zan X.K C m f)(F:FnOk X.prog X.w X.K X.mg X.base CX k f fd ps sp)(hr:Room k X.A)(hb:Binds X.K fd ps ds)(hd:Vals dvs ds)(hx:vO CX X E)(ha:PA X (e :: es) t)
  (hst:starEach (e :: es) X.env=(am,eval e X.env) :: starEach es X.env:=by rfl) (hpl:(backTo pos (starEach es X.env)).any (·.1)=am:=by rfl)
  (ht:eval (.Call (.Attribute o m apos) (e :: es) [] pos) X.env=(do
   let ov <-eval o X.env
   standAt apos.atName
   let (f,first) <-holding [ov] (getMethod ov m pl)
   callWith pos f first (backTo pos (starEach (e :: es) X.env)) (backToKw pos (keywordEach [] X.env))):=by rfl) :
  PE X (.Call (.Attribute o m apos) (e :: es) [] pos) (zO C m sp dvs E ta t):=by
 intro pins s σ H Q I h
 refine nG (pl:=pl) (thn (he pins s σ H _ I h) λu s1 ⟨x,H1,I1,rx,a,dx,fs,ex,ea,l,q⟩=>?_) ht
 subst ex
 obtain rfl:u=bL a:=rx
 refine Z0 I1 ea c hm l ?_
 refine nF (first:=[.ref a]) (h₀:=X.base) I.ok.mod.kin hm.kp (thn (ha pos pins s1 σ H1 _ I1 q) λus s2 ⟨vs,H2,I2,r,q2⟩=>⟨I2.kIn,?_⟩) hst hpl
 exact zar (us:=.ref a :: us) (vs:=.ref a :: vs) F hr hb hd hx I2 (.cons rfl r) q2
theorem yz{pl:Sem Bool}(he:PE X o ta)(c:Cls X.K C)(hm:zan X.K C m f)(F:FnOk X.prog X.w X.K X.mg X.base CX k f fd ps sp)(hr:Room k X.A)(hb:Binds X.K fd ps ds)(hd:Vals dvs ds)(hx:vO CX X E)
  (ht:eval (.Call (.Attribute o m apos) [] [] pos) X.env=(do
   let ov <-eval o X.env
   standAt apos.atName
   let (f,first) <-holding [ov] (getMethod ov m pl)
   callWith pos f first (backTo pos (starEach [] X.env)) (backToKw pos (keywordEach [] X.env))):=by rfl) :
  PE X (.Call (.Attribute o m apos) [] [] pos) (zO C m sp dvs E ta zi):=by
 intro pins s σ H Q I h
 refine nG (pl:=pl) (thn (he pins s σ H _ I h) λu s1 ⟨x,H1,I1,rx,a,dx,fs,ex,ea,l,q⟩=>?_) ht
 subst ex
 obtain rfl:u=bL a:=rx
 refine Z0 I1 ea c hm l ?_
 exact W.callWith_K0 (first:=[.ref a]) I1.kIn hm.kp (zar (us:=[.ref a]) (vs:=[.ref a]) F hr hb hd hx I1 (.cons rfl .nil) q)
structure Mk(K:bx)(C f:ac):Prop where
 makes:iH K C=af
 init:cm K (.ref C) "__init__"=aa (aa (.ref f))
 fn:pG K (.ref f)=af
 kp:eI K (.ref C)=af
theorem zcH{σ:St}{H:Hp}{s:ag}{Q:VK}{us:List ae}{vs:List V}(M:Mk X.K C f)(F:FnOk X.prog X.w X.K X.mg X.base CX k f fd ps sp)(hr:Room (k + 1) X.A)(hb:Binds X.K fd ps ds)(hd:Vals dvs ds)
  (hx:vO CX X E) (I:Inv X pins σ H s) (r:Vals vs us)
  (h:∀x dx,H x=ah->H dx=ah->dx≠x->sp (.ref x :: (vs ++ dvs)) (upd (upd H dx (.own x)) x (.ins C dx [])) (λv H2=>v=.non/\Q (.ref x) H2) E) :
  wpAny (model X.prog X.w) X.A (call (.ref C) us) (EP X pins σ Q) X.xe s:=by
 have hq:=h (s.heap.objs.size + 1) s.heap.objs.size (I.hok.fresh (pX _)) (I.hok.fresh (bh _)) (bU (mU _))
 have I2:=Inv.made (C:=C) I
 have r2:Vals (V.ref (s.heap.objs.size + 1) :: (vs ++ dvs)) (bL (s.heap.objs.size + 1) :: (us ++ ds)):=.cons rfl (r.append hd)
 have hl:(bL (s.heap.objs.size + 1) :: us ++ ds).length=ps.length:=by
  have e:=r2.length
  rw[F.len _ _ _ _ hq] at e
  exact e.symm
 refine oZ (zcG (f:=f) I.kIn M.makes M.init (beq_iff_eq.mp M.fn) (fY (F.run _ X.stack _ _ ⟨bL (s.heap.objs.size + 1) :: us,[]⟩ (bL (s.heap.objs.size + 1) :: (us ++ ds)) _ _ E (hr.make C us [])
  (I2.env0.make C us []) (hb _ (bL (s.heap.objs.size + 1) :: us) I2.kIn hl) r2 hq) λr s' hq'=>?_))
 cases r with
 | error e=>exact hx pins σ _ _ e s' I2 hq'
 | ok fl =>
  cases fl with
  | ret u =>
   obtain⟨v,H',I3,rv,ev,q3⟩:=I2.after hq'
   subst ev
   exact⟨rv,⟨V.ref (s.heap.objs.size + 1),H',I3,rfl,q3⟩⟩
  | next=>exact c9 hq'
  | brk=>exact c9 hq'
  | cont=>exact c9 hq'
theorem Zq(M:Mk X.K C f)(F:FnOk X.prog X.w X.K X.mg X.base CX k f fd ps sp)(hr:Room (k + 1) X.A)(hg:Gl X x)(hm:X.mg x=aa (.ref C))(hb:Binds X.K fd ps ds)(hd:Vals dvs ds)(hx:vO CX X E)
  (ha:PA X (e :: es) t) (hdb:(x == ("__debug__":Str))=am:=by lia) (he:starEach (e :: es) X.env=(am,eval e X.env) :: starEach es X.env:=by rfl) (hpl:(backTo pos (starEach es X.env)).any (·.1)=am:=by rfl) :
  PE X (.Call (.Name x p) (e :: es) [] pos) (XI C sp dvs E t):=by
 intro pins s σ H Q I h
 refine fU (vz I hg hm ?_ hdb)
 refine nF (h₀:=X.base) I.ok.mod.kin M.kp (thn (ha pos pins s σ H _ I h) λus s1 ⟨vs,H1,I1,r,q⟩=>⟨I1.kIn,?_⟩) he hpl
 exact zcH M F hr hb hd hx I1 r q
end
structure FnScope(N P:List Str)(sc:aB):Prop where
 kind:sc.kind=.function
 co:sc.isCoroutine=am
 gen:sc.isGenerator=am
 nd:N.Nodup
 pre:N.take P.length=P
 par:∀x∈P,sc.names.lookup x=aa .local\/sc.names.lookup x=aa .cell
 nofree:∀y∈sc.names,y.2≠.free
theorem VW{kindOf:Str->Option NameKind}{x:Str}:∀ {binds:List (Str × ae)} {m:Str->Option ae},(∀v,(x,v) ∉ binds)->bindL kindOf binds m x=m x
 | [],_,_=>rfl
 | (n,v) :: r,m,h=>by
  unfold bindL
  rw[VW λw hw=>h w (br _ hw)]
  split
  ·have:x≠n:=by rintro rfl;exact h v bt
   simp[this]
  ·rfl
theorem VX{kindOf:Str->Option NameKind}{x:Str}:∀ {binds:List (Str × ae)} {m:Str->Option ae},(∀v,(x,v) ∉ binds)->bindC kindOf binds m x=m x
 | [],_,_=>rfl
 | (n,v) :: r,m,h=>by
  unfold bindC
  rw[VX λw hw=>h w (br _ hw)]
  split
  ·rfl
  ·have:x≠n:=by rintro rfl;exact h v bt
   simp[this]
theorem VY{kindOf:Str->Option NameKind}{x:Str}{v:ae}:∀ {P:List Str} {vs:List ae} {i:Nat} {m:Str->Option ae},P.Nodup->P[i]?=aa x->vs[i]?=aa v->kindOf x=aa .local ->
  bindL kindOf (P.zip vs) m x=aa v
 | [],_,_,_,_,h,_,_=>by simp at h
 | _ :: _,[],_,_,_,_,h,_=>by simp at h
 | p :: P,w :: vs,0,m,nd,h1,h2,hk=>by
  simp at h1 h2;subst h1;subst h2
  show bindL kindOf ((p,w) :: P.zip vs) m p=_
  unfold bindL
  rw[VW λv hv=>(cO.mp nd).1 (nH hv).1,ao hk]
  simp
 | p :: P,w :: vs,i + 1,m,nd,h1,h2,hk=>by
  show bindL kindOf ((p,w) :: P.zip vs) m x=_
  unfold bindL
  exact VY (i:=i) (cO.mp nd).2 (by simpa using h1) (by simpa using h2) hk
theorem VZ{kindOf:Str->Option NameKind}{x:Str}{v:ae}:∀ {P:List Str} {vs:List ae} {i:Nat} {m:Str->Option ae},P.Nodup->P[i]?=aa x->vs[i]?=aa v->kindOf x≠aa .local ->
  bindC kindOf (P.zip vs) m x=aa v
 | [],_,_,_,_,h,_,_=>by simp at h
 | _ :: _,[],_,_,_,_,h,_=>by simp at h
 | p :: P,w :: vs,0,m,nd,h1,h2,hk=>by
  simp at h1 h2;subst h1;subst h2
  show bindC kindOf ((p,w) :: P.zip vs) m p=_
  unfold bindC
  rw[VX λv hv=>(cO.mp nd).1 (nH hv).1,ak hk]
  simp
 | p :: P,w :: vs,i + 1,m,nd,h1,h2,hk=>by
  show bindC kindOf ((p,w) :: P.zip vs) m x=_
  unfold bindC
  exact VZ (i:=i) (cO.mp nd).2 (by simpa using h1) (by simpa using h2) hk
def start(N:List Str)(vs:List V):St:=vs.map aa ++ bD (N.length - vs.length) ah
def qm(CX:CXT)(P:au)(w:aw)(K:bx)(mg:Str->Option ae)(base:av)(N:List Str)(qual:Str)(scope:aB)(f:ac)(cd:ae)(A:ax)(outer:List Env)(s:ag)(H:Hp)(E:XK):Cx where
 prog:=P
 w:=w
 K:=K
 mg:=mg
 base:=base
 A:=A.deeper (envOfC qual scope s.heap.objs.size f cd)
 N:=N
 s₀:=s
 H₀:=H
 env:=envOfC qual scope s.heap.objs.size f cd
 outer:=outer
 stack:=envOfC qual scope s.heap.objs.size f cd :: outer
 ex:=[]
 calm:=af
 fn:=λ_=>af
 pn:=[]
 xe:=λe s'=>wpAny (model P w) (A.deeper (envOfC qual scope s.heap.objs.size f cd)) (leaving (envOfC qual scope s.heap.objs.size f cd) e) (λ_ s''=>CX outer H s E e s'') (λe' s''=>CX outer H s E e' s'') s'
theorem KD{sc:aB}{n:Nat}(h:sc.names.lookup x=aa .cell):∃c,(cellsFrom n sc.names []).lookup x=aa c:=by
 have q:=W.cellsFrom_some sc.names n [] (.inl h)
 exact eK.mp q
theorem zbT{CX:CXT}{P:au}{w:aw}{K:bx}{mg:Str->Option ae}{base:av}{N ps:List Str}{qual:Str}{scope:aB}{f:ac}{cd:ae}{A:ax}{outer:List Env}{s s1:ag}{H:Hp}{E:XK}{us:List ae}{vs:List V}
  (S:FnScope N ps scope) (hd:A.handled=ah) (e0:Env0 P w K mg base A outer s H) (hl:vs.length=ps.length) (r:Vals vs us)
  (x:InCallC s s.heap.objs.size (bindL (envOfC qual scope s.heap.objs.size f cd).kindOf (ps.zip us) λ_=>ah) (cellsFrom (s.heap.objs.size + 1) scope.names []) (bindC (envOfC qual scope s.heap.objs.size f cd).kindOf (ps.zip us) λ_=>ah) s1) :
  Inv (qm CX P w K mg base N qual scope f cd A outer s H E) [] (start N vs) H s1:=by
 have hpl:ps.length<=N.length:=by have:=congrArg b8 S.pre;rw[cH] at this;lia
 obtain⟨h1,tk,rfl,hk⟩:=x.done
 have noA:∀b:ac,b ∉ (qm CX P w K mg base N qual scope f cd A outer s H E).ex:=λb z=>absurd (show b∈([]:List ac) from z) (by simp)
 refine⟨⟨e0.mod,S.kind,rfl,rfl,bh _,λy z c h1 h2=>?_,λy hy=>?_,λy c _ h=>?_,λ_=>hd,Around.frames_deeper e0.frames,.inr ⟨rfl,rfl⟩,λb z=>absurd z (noA b),e0.bs,e0.bsz,λb _ _=>noA b,λb z=>absurd z (noA b),e0.funs,e0.frf⟩,
  rfl,e0.bare,Un.kept hk,⟨_,x.toInCall.ns,λi y v h1 h2 h3=>?_⟩,λy c h=>⟨_,x.cell y c h⟩,e0.hok.fresh (bh _),λy c h=>?_,λp hp=>absurd (show p∈([]:List (ac × Obj)) from hp) (by simp),e0.hok.kept hk,?_⟩
 ·exact name_of_addr x.apart (eY h1) (eY h2)
 ·have hy:scope.names.lookup y=aa .cell\/scope.names.lookup y=aa .free:=hy
  rcases hy with hy | hy
  ·exact KD hy
  ·exact absurd rfl (S.nofree _ (eY hy))
 ·exact pF (x.above y c (eY h))
 ·have hi:i < vs.length:=by
   unfold start at h2
   by_cases hi:i < vs.length
   ·exact hi
   ·rw[dU (by simpa using hi)] at h2
    rw[mF] at h2
    split at h2 <;> cases h2
  have ha:vs[i]?=aa v:=by
   unfold start at h2
   rw[dZ (by simpa using hi),bw] at h2
   cases e:vs[i]? with
   | none=>rw[e] at h2;cases h2
   | some a=>rw[e] at h2;cases h2;rfl
  obtain⟨u,hu,rv⟩:=r.get ha
  have hp:ps[i]?=aa y:=by
   rw[<-S.pre,List.getElem?_take_of_lt (by lia)];exact h1
  have ndP:ps.Nodup:=by rw[<-S.pre];exact S.nd.sublist (ph _ _)
  refine⟨u,rv,?_⟩
  rcases S.par y (cE hp) with k | k
  ·exact .inl ⟨k,VY ndP hp hu k⟩
  ·obtain⟨c,e⟩:=KD (n:=s.heap.objs.size + 1) k
   refine .inr ⟨.inl k,c,e,?_⟩
   have q:=x.cell y c e
   rw[VZ ndP hp hu (by show scope.names.lookup y≠_;rw[k];decide)] at q
   exact q
 ·exact e0.hok.fresh (pF (x.above y c (eY h)))
 ·unfold start
  show _=N.length
  rw[bn,bo,dh]
  lia
theorem zfA{CX:CXT}{P:au}{w:aw}{K:bx}{mg:Str->Option ae}{base:av}{k:Nat}{f:ac}{name qual:Str}{params:Arguments}{body:List ay}{scope:aB}{dV kV doc pm cdv ct oc:ae}{an od:Option ac}
  {osl:Array (Option ae)} {N ps:List Str} {sp:Sp} (lk:K.lookup f=aa ⟨oc,od,.func (iI name qual params body scope dV kV doc pm an cdv ct),osl⟩) (hcd:gR K cdv qual=af) (S:FnScope N ps scope)
  (len:∀vs H Q E,sp vs H Q E->vs.length=ps.length)
  (hbody:∀(A:ax) (outer:List Env) (s:ag) (H:Hp) (vs:List V) (Q:VK) (E:XK),Room k (A.deeper (envOfC qual scope s.heap.objs.size f cdv))->sp vs H Q E ->
   ∃t,PSs (qm CX P w K mg base N qual scope f cdv A outer s H E) body t/\t { nx:=λ_ H'=>Q .non H',rt:=Q } (start N vs) H) :
  FnOk P w K mg base CX (k + 1) f (iI name qual params body scope dV kV doc pm an cdv ct) ps sp:=by
 refine⟨len,λA outer s H args us vs Q E hr e0 hb r hsp=>?_⟩
 have hl:=len _ _ _ _ hsp
 have KX:K.In s.heap:=e0.mod.kin.keeps λb o e=>(e0.bs b o e).1
 have lim:s.heap.NoLimit:=e0.mod.nolimit.keeps λb o e=>(e0.bs b o e).1
 have hkind:∀y∈ps.zip us,scope.names.lookup y.1=aa .local\/(scope.names.lookup y.1=aa .cell/\((cellsFrom (s.heap.objs.size + 1) scope.names []).lookup y.1).isSome=af):=λ⟨n,v⟩ hy=>by
  rcases S.par n (nH hy).1 with q | q
  ·exact .inl q
  ·exact .inr ⟨q,W.cellsFrom_some _ _ _ (.inl q)⟩
 refine codeAny_call_function hr.depth (KX _ _ lk) rfl S.co S.gen rfl (W.codeRec_of KX hcd) (hb _ _ _ _ ?_)
 refine wpAny_newFunctionEnv_cells S.kind hkind λenv he s1 x=>?_
 subst he
 refine⟨lim.keeps x.toInCall.keep,codeAny_func ?_⟩
 obtain⟨t,ht,hq⟩:=hbody A outer s H vs Q E (hr.deeper _) hsp
 have I:Inv (qm CX P w K mg base N qual scope f cdv A outer s H E) [] (start N vs) H s1:=zbT S hr.hd e0 hl r x
 refine dG (ht [] s1 (start N vs) H _ I hq) (λfl s' hs=>?_) λe s' hs=>hs
 have fin:∀ {σ':St} {H':Hp} {v:V} {u:ae},Inv (qm CX P w K mg base N qual scope f cdv A outer s H E) [] σ' H' s'->RelV v u->Q v H'->CE outer P w H s Q u s' :=
  λ{σ' H' v u} J rv q=>⟨v,H',J.os,J.bare,J.base,J.hok,rv,q⟩
 cases fl with
 | ret u =>
  obtain⟨v,σ',H',J,rv,q⟩:=hs
  exact fin J rv q
 | next =>
  obtain⟨σ',H',J,q⟩:=hs
  exact fin (v:=V.non) (u:=cL) J rfl q
 | brk =>
  obtain⟨_,_,_,q⟩:=hs
  exact c9 q
 | cont =>
  obtain⟨_,_,_,q⟩:=hs
  exact c9 q
section
variable {X:Cx}{x:Str}{p pos:Pos}{e:aA}{es:List aA}{t:TA}{id T:String}{r:List V->Hp->VK->Prop}
def tCB(r:List V->Hp->VK->Prop)(t:TA):TE:=λσ H Q=>t σ H λvs H1=>r vs H1 Q
theorem zF(hc:jQ X (.builtin id) r)(hg:Gl X x)(hm:X.mg x=ah)(hv:bootBuiltins x=aa (.builtin id))(ha:PA X (e :: es) t)(hn:x≠"__name__":=by lia)(hdb:(x == ("__debug__":Str))=am:=by lia)
  (he:starEach (e :: es) X.env=(am,eval e X.env) :: starEach es X.env:=by rfl) (hpl:(backTo pos (starEach es X.env)).any (·.1)=am:=by rfl):PE X (.Call (.Name x p) (e :: es) [] pos) (tCB r t):=by
 intro pins s σ H Q I h
 refine fU (Wu I hg hm hv ?_ hn hdb)
 exact PyProof.Rows.callWith_builtin1 (thn (ha pos pins s σ H _ I h) λus s1 ⟨vs,H1,I1,r1,q1⟩=>hc pins s1 σ H1 vs us Q I1 r1 q1) he hpl
theorem yM(hc:jQ X (.type T) r)(hg:Gl X x)(hm:X.mg x=ah)(hv:bootBuiltins x=aa (.type T))(ha:PA X (e :: es) t)(hn:x≠"__name__":=by lia)(hdb:(x == ("__debug__":Str))=am:=by lia)
  (he:starEach (e :: es) X.env=(am,eval e X.env) :: starEach es X.env:=by rfl) (hpl:(backTo pos (starEach es X.env)).any (·.1)=am:=by rfl):PE X (.Call (.Name x p) (e :: es) [] pos) (tCB r t):=by
 intro pins s σ H Q I h
 refine fU (Wu I hg hm hv ?_ hn hdb)
 exact fW (thn (ha pos pins s σ H _ I h) λus s1 ⟨vs,H1,I1,r1,q1⟩=>hc pins s1 σ H1 vs us Q I1 r1 q1) he hpl
end
end L2
namespace HT
open PySem PyProof.Rows
def zgN:List Int->List Int->Bool
 | [],[]=>am
 | [],_ :: _=>af
 | _ :: _,[]=>am
 | x :: xs,y :: ys=>if x=y then zgN xs ys else decide (x < y)
theorem rcLt_int(A:ax)(s:ag)(a:Int)(t:Tok)(c:Int)(u:Tok)(prog:au)(w:aw)(E:ae->ag->Prop)(Q:ae->ag->Prop)(h:Q (.bool (decide (a < c))) s) :
  wpAny (model prog w) A (richCompare .Lt (.int a t) (.int c u)) Q E s :=
 (ou h:wpAny (model prog w) A (compareOp .Lt (.int a t) (.int c u)) Q E s)
section
variable {prog:au}{w:aw}{A:ax}{E:ae->ag->Prop}{s:ag}
theorem cat_tup{Q:ae->ag->Prop}(ht:IsTup s.heap t vs.toArray)(hb:IsTup s.heap b ws.toArray)(hv:vs≠[])
  (h1:ws=[]->Q (.ref t) s) (h2:ws≠[]->Q (.ref s.heap.objs.size) { s with heap:=s.heap.push { cls:=.type "tuple",data:=.seq (vs ++ ws).toArray } })
  (hsz:vs.length + ws.length<=sizeLine):wpAny (model prog w) A (binaryOp .Add (.ref t) (.ref b)) Q E s:=by
 obtain⟨⟨cls,dd,data,sl⟩,ho,hc,n,hd⟩:=id ht
 obtain⟨⟨cls2,dd2,data2,sl2⟩,ho2,hc2,n2,hd2⟩:=id hb
 simp only at hc hd hc2 hd2
 subst hc hd hc2 hd2
 have e:vs.toArray ++ ws.toArray=(vs ++ ws).toArray:=by simp
 by_cases hw:ws=[]
 ·exact concat_meets ⟨_,ho,rfl⟩ ⟨_,ho2,rfl⟩ noFill_tuple_add seq_tuple_add m5 mG (ma _ _)
   (tuple_addW1 t b vs.toArray ws.toArray n n2 dd dd2 sl sl2 (by simpa using hv) (by simp[hw])) ⟨ho,ho2,h1 hw⟩
 ·refine concat_meets ⟨_,ho,rfl⟩ ⟨_,ho2,rfl⟩ noFill_tuple_add seq_tuple_add m5 mG (ma _ _)
   (tuple_addW2 t b vs.toArray ws.toArray n n2 dd dd2 sl sl2 (by simpa using hv) (by simpa using hw) (by rw[bK,bK];exact hsz)) ⟨ho,ho2,?_⟩
  rw[e]
  exact h2 hw
def sIx(n d:Nat):Option Int->Nat
 | none=>d
 | some v=>if v < 0 then (v + (n:Int)).toNat else min v.toNat n
theorem sIx_none(n d:Nat):sIx n d ah=d:=rfl
theorem sIx_nat(n d k:Nat):sIx n d (aa (k:Int))=min k n:=by
 show (if (k:Int) < 0 then ((k:Int) + (n:Int)).toNat else min (k:Int).toNat n)=min k n
 rw[ak (by lia),dH]
theorem sIx_le(n d:Nat)(hd:d<=n)(o:Option Int):sIx n d o<=n:=by
 cases o with
 | none=>exact hd
 | some v =>
  show (if v < 0 then (v + (n:Int)).toNat else min v.toNat n)<=n
  by_cases hv:v < 0
  ·rw[ao hv];lia
  ·rw[ak hv];exact Nat.min_le_right _ _
end
end HT
namespace L2
open PySem PySem.Spec PyProof.Rows
abbrev TO:=St->Hp->(Option Int->Hp->Prop)->Prop
def PO(X:Cx)(e:Option aA)(t:TO):Prop :=
 ∀(pins:List (ac × Obj)) (s:ag) (σ:St) (H:Hp) (Q:Option Int->Hp->Prop),Inv X pins σ H s->t σ H Q ->
  wpAny (model X.prog X.w) X.A (evalPart e X.env) (λu s'=>∃o H',Inv X pins σ H' s'/\IsPart u o/\Q o H') X.xe s
def Zr:TO:=λ_ H Q=>Q ah H
def ji(t:TE):TO:=λσ H Q=>t σ H λx H1=>∃i,x=.int i/\Q (aa i) H1
section
variable {X:Cx}{e:aA}{te:TE}{lo hi:Option aA}{tl th:TO}{pos p2:Pos}
theorem Yx:PO X ah Zr:=by
 intro pins s σ H Q I h
 rw[evalPart_none]
 exact bg ⟨ah,H,I,.none,h⟩
theorem xz(h:PE X e te):PO X (aa e) (ji te):=by
 intro pins s σ H Q I hw
 rw[evalPart_some]
 refine thn (h pins s σ H _ I hw) λu s1 ⟨x,H1,I1,r1,q1⟩=>?_
 obtain⟨i,rfl,q⟩:=q1
 obtain⟨t,rfl⟩:=r1
 exact⟨aa i,H1,I1,.int i t,q⟩
def SlR(X:Cx)(r:V->Option Int->Option Int->Hp->VK->Prop):Prop :=
 ∀(pins:List (ac × Obj)) (s:ag) (σ:St) (H:Hp) (x:V) (v vl vu:ae) (lo hi:Option Int) (sl:ac) (Q:VK),Inv X pins σ H s->RelV x v->s.heap.IsSliceOf sl vl vu .none->IsPart vl lo->IsPart vu hi->r x lo hi H Q ->
  ∃T id,typeLookup (.type T) "__getitem__"=pure (aa (.builtin id))/\s.TypeIs v T/\wpAny (model X.prog X.w) X.A (getItem v (.ref sl)) (EP X pins σ Q) X.xe s
def tSl(r:V->Option Int->Option Int->Hp->VK->Prop)(te:TE)(tl th:TO):TE:=λσ H Q=>te σ H λx H1=>tl σ H1 λl H2=>th σ H2 λu H3=>r x l u H3 Q
theorem x9{r:V->Option Int->Option Int->Hp->VK->Prop}(hr:SlR X r)(he:PE X e te)(hl:PO X lo tl)(hu:PO X hi th):PE X (.Subscript e (.Slice lo hi ah p2) pos) (tSl r te tl th):=by
 intro pins s σ H Q I h
 refine Subscript_ (thn (he pins s σ H _ I h) λv s1 ⟨x,H1,I1,r1,q1⟩=>?_)
 refine wpAny_Slice (thn (hl pins s1 σ H1 _ I1 q1) λvl s2 ⟨l,H2,I2,pl,q2⟩=>thn (hu pins s2 σ H2 _ I2 q2) λvu s3 ⟨u,H3,I3,pu,q3⟩=>?_)
 rw[evalPart_none]
 refine bg ?_
 have I4:Inv X pins σ H3 { s3 with heap:=s3.heap.push { cls:=.type "slice",data:=.fields #[vl,vu,.none] } }:=I3.kept (t':=s3.toks) λb ob q=>bd _ q
 obtain⟨T,id,hT,ht,hg⟩:=hr pins { s3 with heap:=s3.heap.push { cls:=.type "slice",data:=.fields #[vl,vu,.none] } } σ H3 x v vl vu l u s3.heap.objs.size Q I4 r1 (Heap.IsSliceOf.new ..) pl pu q3
 show wpAny (model X.prog X.w) X.A (subscriptTail e (.Slice lo hi ah p2) v (.ref s3.heap.objs.size)) (EP X pins σ Q) X.xe { s3 with heap:=s3.heap.push { cls:=.type "slice",data:=.fields #[vl,vu,.none] } }
 exact tail_any (ops:=[.ref s3.heap.objs.size,v]) ht hT hg (by with_unfolding_all rfl)
def Yy(xs:List V)(lo hi:Option Int):List V:=(xs.drop (HT.sIx xs.length 0 lo)).take (HT.sIx xs.length xs.length hi - HT.sIx xs.length 0 lo)
theorem KG(xs:List V)(lo hi:Option Int):(Yy xs lo hi).length<=xs.length:=by
 unfold Yy
 rw[cH,cT]
 lia
def zcI(K:bx):R2:=λx y H Q=>∃a b xs ys,x=.ref a/\y=.ref b/\SqT K H a xs/\SqT K H b ys/\xs≠[]/\xs.length + ys.length<=sizeLine /\
 (ys=[]->Q (.ref a) H)/\(ys≠[]->∀p,H p=ah->Q (.ref p) (upd H p (.tup (xs ++ ys))))
theorem Vals.nil_iff(r:Vals xs us):us=[]↔xs=[]:=by
 cases r with
 | nil=>simp
 | cons _ _=>simp
theorem zbe:OpR X (binaryOp .Add) (zcI X.K):=by
 intro pins s σ H x y v u Q I rx ry h
 obtain⟨a,b,xs,ys,rfl,rfl,ha,hb,hx,hz,q1,q2⟩:=h
 cases rx
 cases ry
 obtain⟨its,r1,p1,_⟩:=I.tuple ha
 obtain⟨its2,r2,p2,_⟩:=I.tuple hb
 refine HT.cat_tup p1 p2 (λz=>hx (r1.nil_iff.mp z)) (λz=>⟨.ref a,H,I,rfl,q1 (r2.nil_iff.mp z)⟩) (λz=>?_) (by rw[<-r1.length,<-r2.length];exact hz)
 refine⟨.ref s.heap.objs.size,_,I.laid (t':=s.toks) (o:=.tup (xs ++ ys)) (λb ob q=>bd _ q) (bh _) ?_,rfl,q2 (λw=>z (r2.nil_iff.mpr w)) _ (I.hok.fresh (bh _))⟩
 exact⟨by rw[bn];exact hz,_,r1.append r2,IsTup.new _ _⟩
end
def ixN(n:Nat)(i:Int):Option Nat:=if 0<=i then (if i < n then aa i.toNat else ah) else if -(n:Int)<=i then aa (i + n).toNat else ah
def atI{α:Type}(xs:List α)(i:Int):Option α:=(ixN xs.length i).bind λj=>xs[j]?
theorem zey{i:Int}(h:ixN n i=aa j):seqIndex? i n=aa j/\j < n/\-(n:Int)<=i/\i < n:=by
 unfold ixN at h
 by_cases h0:0<=i
 ·rw[ao h0] at h
  by_cases h1:i < n
  ·rw[ao h1] at h
   have e:i.toNat=j:=bV h
   exact⟨by rw[seqIndex_of h0 h1,e],by lia,by lia,h1⟩
  ·rw[ak h1] at h;cases h
 ·rw[ak h0] at h
  by_cases h1:-(n:Int)<=i
  ·rw[ao h1] at h
   have e:(i + n).toNat=j:=bV h
   exact⟨by rw[seqIndex_neg (by lia) h1,e],by lia,h1,by lia⟩
  ·rw[ak h1] at h;cases h
theorem JE{α:Type}{xs:List α}{i:Int}{v:α}(h:atI xs i=aa v):∃j,seqIndex? i xs.length=aa j/\xs[j]?=aa v/\j < xs.length/\-(xs.length:Int)<=i/\i < xs.length:=by
 unfold atI at h
 cases e:ixN xs.length i with
 | none=>rw[e] at h;cases h
 | some j =>
  rw[e] at h
  obtain⟨h1,h2,h3,h4⟩:=zey e
  exact⟨j,h1,h,h2,h3,h4⟩
theorem wc{α:Type}{xs:List α}{j:Nat}{v:α}(h:xs[j]?=aa v):atI xs (j:Int)=aa v:=by
 have hj:j < xs.length:=(bq.mp h).1
 have e:ixN xs.length (j:Int)=aa j:=by
  unfold ixN
  rw[ao (by lia),ao (by lia)];simp
 unfold atI;rw[e];exact h
def zez(b:aA):Prop:=∀o i,subscripted b am o i=operate [o,i] (getItem o i)
def IxR(X:Cx)(r:R2):Prop :=
 ∀(value slice:aA) (pins:List (ac × Obj)) (s:ag) (σ:St) (H:Hp) (x y:V) (v u:ae) (Q:VK),Inv X pins σ H s->RelV x v->RelV y u->r x y H Q ->
  subscripted slice am v u=operate [v,u] (getItem v u)->wpAny (model X.prog X.w) X.A (subscriptTail value slice v u) (EP X pins σ Q) X.xe s
def MtR(X:Cx)(id:String)(r:V->List V->Hp->VK->Prop):Prop :=
 ∀(pins:List (ac × Obj)) (s:ag) (σ:St) (H:Hp) (x:V) (xs:List V) (v:ae) (us:List ae) (Q:VK),Inv X pins σ H s->RelV x v->Vals xs us->r x xs H Q ->
  wpAny (model X.prog X.w) X.A (call (.builtin id) (v :: us)) (EP X pins σ Q) X.xe s
section
variable {X:Cx}{a b:aA}{ta tb:TE}{pos:Pos}
theorem zI{r:R2}(hr:IxR X r)(ha:PE X a ta)(hb:PE X b tb)(hs:zez b):PE X (.Subscript a b pos) (tOp r ta tb):=by
 intro pins s σ H Q I h
 exact Subscript_ (zfY ha hb I h λv u s2 x y H2 I2 rx ry q=>hr a b pins s2 σ H2 x y v u Q I2 rx ry q (hs _ _))
def yL(K:bx):R2:=λx y H Q=>∃p xs i v,x=.ref p/\y=.int i/\SqL K H p xs/\atI xs i=aa v/\Q v H
def yS(K:bx):R2:=λx y H Q=>∃p xs i v,x=.ref p/\y=.int i/\SqT K H p xs/\atI xs i=aa v/\Q v H
def zbU:R2:=λx y H Q=>∃z i c,x=.str z/\y=.int i/\z.length<=sizeLine/\atI z.cps.toList i=aa c/\Q (.str ⟨#[c]⟩) H
theorem zR:IxR X (yL X.K):=by
 intro value slice pins s σ H x y v u Q I rx ry h hs
 obtain⟨p,xs,i,z,rfl,rfl,hq,he,q⟩:=h
 cases rx
 obtain⟨t,rfl⟩:=ry
 obtain⟨its,r,pl,hz⟩:=I.list hq
 obtain⟨j,h1,h2,h3,h4,h5⟩:=JE he
 obtain⟨w,ew,rw'⟩:=r.get h2
 have hl:=r.length
 have hn:=JD
 have fin:EP X pins σ Q w s:=⟨z,H,I,rw',q⟩
 by_cases h0:0<=i
 ·have hj:i.toNat=j:=by
   rw[seqIndex_of h0 h5] at h1
   exact bV h1
  exact item_listR pl.isList h0 (by lia) (by rw[hj];simpa using ew) fin hs
 ·have hj:(i + (its.toArray.size:Int)).toNat=j:=by
   rw[seqIndex_neg (by lia) h4] at h1
   rw[bK,<-hl]
   exact bV h1
  exact m6 (x:=w) pl.isList.typeIs slot_list_getitem.lookup
   (wpAny_getItem_list_neg (Q:=λr s'=>r=w/\EP X pins σ Q r s') pl.isList (by lia) (by rw[bK] <;> lia) (by lia) (by rw[hj];simpa using ew) ⟨rfl,fin⟩) hs
theorem yc:IxR X (yS X.K):=by
 intro value slice pins s σ H x y v u Q I rx ry h hs
 obtain⟨p,xs,i,z,rfl,rfl,hq,he,q⟩:=h
 cases rx
 obtain⟨t,rfl⟩:=ry
 obtain⟨its,r,pl,hz⟩:=I.tuple hq
 obtain⟨j,h1,h2,h3,h4,h5⟩:=JE he
 obtain⟨w,ew,rw'⟩:=r.get h2
 have hl:=r.length
 have hn:=JD
 have fin:EP X pins σ Q w s:=⟨z,H,I,rw',q⟩
 exact m6 (x:=w) pl.typeIs slot_tuple_getitem.lookup
  (getItem_tuple (j:=j) (Q:=λr s'=>r=w/\EP X pins σ Q r s') pl (by lia) (by lia) (by rw[bK,<-hl];exact h1) (by simpa using ew) ⟨rfl,fin⟩) hs
theorem zas:IxR X zbU:=by
 intro value slice pins s σ H x y v u Q I rx ry h hs
 obtain⟨z,i,c,rfl,rfl,hz,he,q⟩:=h
 obtain⟨t,rfl⟩:=rx
 obtain⟨t',rfl⟩:=ry
 obtain⟨j,h1,h2,h3,h4,h5⟩:=JE he
 have hl:z.cps.toList.length=z.length:=by simp[iu]
 rw[hl] at h1 h4 h5
 have hn:=JD
 exact tail_any (nX s z t) slot_str_getitem.lookup (getItem_str (c:=c) (by
  have e1:decide (i < -(2 ^ 63:Int))=am:=decide_eq_false (by lia)
  have e2:decide (i >= 2 ^ 63)=am:=decide_eq_false (by lia)
  rw[e1,e2,Bool.or_false]) (by rw[h1];simpa using h2) ⟨.str ⟨#[c]⟩,H,I.tok _,⟨_,rfl⟩,q⟩) hs
theorem JF(lo hi:Option Int)(n:Nat):(sliceBounds lo hi ah n).1=((HT.sIx n 0 lo:Nat):Int)/\(sliceBounds lo hi ah n).2.1=((HT.sIx n n hi:Nat):Int)/\(sliceBounds lo hi ah n).2.2=1:=by
 refine⟨?_,?_,rfl⟩
 ·cases lo with
  | none=>simp[sliceBounds,HT.sIx]
  | some i =>
   simp only[sliceBounds,HT.sIx,mV,show (1:Int) > 0 by lia,if_true]
   by_cases h:i < 0
   ·simp only[h,if_true] <;> lia
   ·simp only[h,if_false] <;> lia
 ·cases hi with
  | none=>simp[sliceBounds,HT.sIx]
  | some i =>
   simp only[sliceBounds,HT.sIx,mV,show (1:Int) > 0 by lia,if_true]
   by_cases h:i < 0
   ·simp only[h,if_true] <;> lia
   ·simp only[h,if_false] <;> lia
theorem Vp(its:List ae)(lo hi:Option Int):slicePick its.toArray lo hi ah=((its.drop (HT.sIx its.length 0 lo)).take (HT.sIx its.length its.length hi - HT.sIx its.length 0 lo)).toArray:=by
 obtain⟨h1,h2,h3⟩:=JF lo hi its.toArray.size
 unfold slicePick
 rw[h1,h2,h3]
 simp only[sliceRange_one,pick_run,bK] <;> rfl
def KH(K:bx):V->Option Int->Option Int->Hp->VK->Prop:=λx lo hi H Q=>∃a xs,x=.ref a/\SqL K H a xs/\∀p,H p=ah->Q (.ref p) (upd H p (.lst (Yy xs lo hi)))
theorem ko:SlR X (KH X.K):=by
 intro pins s σ H x v vl vu lo hi sl Q I rx hs pl pu h
 obtain⟨a,xs,rfl,hx,q⟩:=h
 cases rx
 obtain⟨its,r,ht,hz⟩:=I.list hx
 have hlen:=r.length
 refine⟨"list",_,slot_list_getitem.lookup,ht.isList.typeIs,?_⟩
 refine wpAny_getItem_list_slice ht.isList hs pl pu .none (by simp) ?_ (by rw[bK] <;> lia)
 rw[Vp,<-hlen]
 refine⟨.ref s.heap.objs.size,_,I.laid (t':=s.toks) (o:=.lst (Yy xs lo hi)) (λb ob q=>bd _ q) (bh _) ?_,rfl,q _ (I.hok.fresh (bh _))⟩
 exact⟨bN (KG xs lo hi) hz,_,0,(r.drop (HT.sIx xs.length 0 lo)).take (HT.sIx xs.length xs.length hi - HT.sIx xs.length 0 lo),bB _ rfl⟩
def Yz:V->Bool
 | .non=>af
 | .bl _=>af
 | .int _=>af
 | .str _=>af
 | _=>am
def eqV:V->V->Bool
 | .non,.non=>af
 | .bl a,.bl b=>a == b
 | .bl a,.int b=>(if a then 1 else 0) == b
 | .int a,.bl b=>a == (if b then 1 else 0)
 | .int a,.int b=>a == b
 | .str a,.str b=>a == b
 | _,_=>am
theorem zf1(ry:RelV y u)(rx:RelV x v)(fy:Yz y=af)(fx:Yz x=af):SeqAt.EqAt A s u v (eqV y x):=by
 cases y with
 | non =>
  cases ry
  cases x with
  | non=>cases rx;exact SeqAt.EqAt.same _
  | bl b=>cases rx;exact SeqAt.EqAt.none_bool b
  | int b=>obtain⟨t,rfl⟩:=rx;exact SeqAt.EqAt.none_int b t
  | str b=>obtain⟨t,rfl⟩:=rx;exact SeqAt.EqAt.none_str b t
  | _=>exact absurd (show am=af from fx) bG
 | bl a =>
  cases ry
  cases x with
  | non=>cases rx;exact SeqAt.EqAt.bool_none a
  | bl b=>cases rx;exact SeqAt.EqAt.bool_bool a b
  | int b=>obtain⟨t,rfl⟩:=rx;exact SeqAt.EqAt.bool_int a b t
  | str b=>obtain⟨t,rfl⟩:=rx;exact SeqAt.EqAt.bool_str a b t
  | _=>exact absurd (show am=af from fx) bG
 | int a =>
  obtain⟨t',rfl⟩:=ry
  cases x with
  | non=>cases rx;exact SeqAt.EqAt.int_none a t'
  | bl b=>cases rx;exact SeqAt.EqAt.int_bool a t' b
  | int b=>obtain⟨t,rfl⟩:=rx;exact lS a t' b t
  | str b=>obtain⟨t,rfl⟩:=rx;exact oG a t' b t
  | _=>exact absurd (show am=af from fx) bG
 | str a =>
  obtain⟨t',rfl⟩:=ry
  cases x with
  | non=>cases rx;exact SeqAt.EqAt.str_none a t'
  | bl b=>cases rx;exact SeqAt.EqAt.str_bool a t' b
  | int b=>obtain⟨t,rfl⟩:=rx;exact oH a t' b t
  | str b=>obtain⟨t,rfl⟩:=rx;exact lU a t' b t
  | _=>exact absurd (show am=af from fx) bG
 | _=>exact absurd (show am=af from fy) bG
def eqU(x:V)(u:ae):Bool:=match u with
 | .none=>eqV .non x
 | .bool b=>eqV (.bl b) x
 | .int i _=>eqV (.int i) x
 | .str z _=>eqV (.str z) x
 | _=>am
theorem zcJ(r:RelV y u)(f:Yz y=af):eqU x u=eqV y x:=by
 cases y with
 | non=>cases r;rfl
 | bl b=>cases r;rfl
 | int i=>obtain⟨t,rfl⟩:=r;rfl
 | str z=>obtain⟨t,rfl⟩:=r;rfl
 | _=>exact absurd (show am=af from f) bG
theorem JG{x:V}:∀ {xs:List V} {us:List ae},Vals xs us->xs.all Yz=af->us.any (eqU x)=xs.any λy=>eqV y x
 | _,_,.nil,_=>rfl
 | y :: xs,u :: us,.cons r t,f=>by
  rw[gp,ck] at f
  rw[i8,i8,zcJ r f.1,JG t f.2]
theorem WB{A:ax}{s:ag}{x:V}{v:ae}(rx:RelV x v)(fx:Yz x=af):∀ {xs:List V} {us:List ae},Vals xs us->xs.all Yz=af->∀u∈us,SeqAt.EqAt A s u v (eqU x u)
 | _,_,.nil,_=>λu hu=>by cases hu
 | y :: xs,u :: us,.cons r t,f=>λu' hu=>by
  rw[gp,ck] at f
  rcases bE.mp hu with rfl | hu
  ·rw[zcJ r f.1];exact zf1 r rx f.1 fx
  ·exact WB rx fx t f.2 u' hu
def inV(x:V)(xs:List V):Bool:=xs.any λy=>eqV y x
def rIn(K:bx)(neg:Bool):R2:=λx y H Q=>∃p xs,y=.ref p/\(SqL K H p xs\/SqT K H p xs)/\Yz x=af/\xs.all Yz=af/\Q (.bl (if neg then !inV x xs else inV x xs)) H
theorem Xa:OpR X (compareOp .In) (rIn X.K am):=by
 intro pins s σ H x y v u Q I rx ry h
 obtain⟨p,xs,rfl,hq,fx,fs,q⟩:=h
 cases ry
 rcases hq with hq | hq
 ·obtain⟨its,r,pl,hz⟩:=I.list hq
  refine SeqAt.in_listAt (eqU x) pl.isList (λw hw=>WB rx fx r fs w (by simpa using hw)) ⟨.bl _,H,I,rfl,?_⟩
  rw[show its.toArray.any (eqU x)=its.any (eqU x) by simp,JG r fs]
  exact q
 ·obtain⟨its,r,pl,hz⟩:=I.tuple hq
  refine SeqAt.in_tupleAt (eqU x) pl (λw hw=>WB rx fx r fs w (by simpa using hw)) ⟨.bl _,H,I,rfl,?_⟩
  rw[show its.toArray.any (eqU x)=its.any (eqU x) by simp,JG r fs]
  exact q
theorem wd:jQ X (.type "list") (λxs H Q=>∃p ys,xs=[.ref p]/\(SqL X.K H p ys\/SqT X.K H p ys)/\∀l,H l=ah->Q (.ref l) (upd H l (.lst ys))):=by
 intro pins s σ H xs us Q I r h
 obtain⟨p,ys,rfl,hq,q⟩:=h
 obtain⟨u,rfl,rx⟩:=qu r
 cases rx
 have fin:∀(its:List ae),Vals ys its->ys.length<=sizeLine->∀(h':av) (c':Nat),(∀b o',s.heap.get? b=aa o'->h'.get? b=aa o') ->
   h'.get? s.heap.objs.size=aa { cls:=.type "list",dict:=ah,data:=.seq its.toArray c',slots:=#[] }->EP X pins σ Q (.ref s.heap.objs.size) { s with heap:=h' }:=λits r' hz h' c' kp e =>
  ⟨.ref s.heap.objs.size,_,I.laid (t':=s.toks) kp (bh _) (show ObjOk X.prog X.w _ h' _ (.lst ys) from ⟨hz,its,c',r',e⟩),rfl,q _ (I.hok.fresh (bh _))⟩
 rcases hq with hq | hq
 ·obtain⟨its,r',pl,hz⟩:=I.list hq
  have hlen:=r'.length
  obtain⟨o,ho,hc,n,hd⟩:=pl.isList
  exact call_list_seq p (.inl rfl) ho hc hd (λh' c' kp e=>fin its r' hz h' c' kp e) (by simp only[bK] <;> lia)
 ·obtain⟨its,r',pl,hz⟩:=I.tuple hq
  have hlen:=r'.length
  obtain⟨o,ho,hc,n,hd⟩:=pl
  exact call_list_seq p (.inr rfl) ho hc hd (λh' c' kp e=>fin its r' hz h' c' kp e) (by simp only[bK] <;> lia)
theorem Vq:jQ X (.type "tuple") (λxs H Q=>∃p ys,xs=[.ref p]/\((SqL X.K H p ys/\∀l,H l=ah->Q (.ref l) (upd H l (.tup ys)))\/(SqT X.K H p ys/\Q (.ref p) H))):=by
 intro pins s σ H xs us Q I r h
 obtain⟨p,ys,rfl,h⟩:=h
 obtain⟨u,rfl,rx⟩:=qu r
 cases rx
 rcases h with ⟨hq,q⟩ | ⟨hq,q⟩
 ·obtain⟨its,r',pl,hz⟩:=I.list hq
  have hlen:=r'.length
  refine call_tuple_list pl.isList (λh' kp=>?_) (by simp only[bK] <;> lia)
  have I1:Inv X pins σ H { s with heap:=h' }:=I.kept (t':=s.toks) kp
  have I2:Inv X pins σ (upd H h'.objs.size (.tup ys)) { s with heap:=h'.push { cls:=.type "tuple",data:=.seq its.toArray } } :=
   I1.laid (t':=s.toks) (λb o e=>bd _ e) (bh _) (show ObjOk X.prog X.w _ _ _ (.tup ys) from ⟨hz,its,r',IsTup.new _ _⟩)
  exact⟨.ref h'.objs.size,_,I2,rfl,q _ (I1.hok.fresh (bh _))⟩
 ·obtain⟨its,r',pl,hz⟩:=I.tuple hq
  exact call_tuple_same pl ⟨.ref p,H,I,rfl,q⟩
def tyV(K:bx)(T:String)(x:V)(H:Hp):Prop:=match x with
 | .str _=>T="str"
 | .int _=>T="int"
 | .ref p=>(T="list"/\∃xs,SqL K H p xs)\/(T="tuple"/\∃o,K.lookup p=aa o/\o.cls=.type "tuple"/\o.dict=ah) \/
   (T="dict"/\((∃kvs,H p=aa (.dK kvs))\/∃kvs,H p=aa (.dT kvs)))\/(T="set"/\∃S n,H p=aa (.set S n))
 | _=>False
theorem zcK{σ:St}{H:Hp}{s:ag}{T:String}{x:V}{v:ae}(I:Inv X pins σ H s)(r:RelV x v)(ty:tyV X.K T x H) :
  s.TypeIs v T/\∀a,v=.ref a->∃ob,s.heap.get? a=aa ob/\ob.dict=ah:=by
 cases x with
 | str z =>
  obtain⟨t,rfl⟩:=r
  cases (show T="str" from ty)
  exact⟨nX s z t,λ_ e=>nomatch e⟩
 | int i =>
  obtain⟨t,rfl⟩:=r
  cases (show T="int" from ty)
  exact⟨typeIs_int s i t,λ_ e=>nomatch e⟩
 | ref p =>
  cases r
  rcases ty with ⟨rfl,xs,hq⟩ | ⟨rfl,o,hk,hc,hd⟩ | ⟨rfl,hk⟩ | ⟨rfl,S,n,hk⟩
  ·obtain⟨its,_,pl,_⟩:=I.list hq
   refine⟨pl.isList.typeIs,λa e=>?_⟩
   cases e
   obtain⟨o,n,e,c,hd,_⟩:=pl
   exact⟨o,e,hd⟩
  ·refine⟨⟨o,I.kIn p o hk,hc⟩,λa e=>?_⟩
   cases e
   exact⟨o,I.kIn _ o hk,hd⟩
  ·have z:∃o,s.heap.get? p=aa o/\o.ExactDict:=by
    rcases hk with ⟨kvs,hk⟩ | ⟨kvs,hk⟩
    ·obtain⟨_,_,_,_,o,_,_,e,ex,_⟩:=I.hok p _ hk
     exact⟨o,e,ex⟩
    ·obtain⟨_,_,_,_,o,_,_,e,ex,_⟩:=I.hok p _ hk
     exact⟨o,e,ex⟩
   obtain⟨o,e,ex⟩:=z
   refine⟨⟨o,e,ex.1⟩,λa e2=>?_⟩
   cases e2
   exact⟨o,e,ex.2.1⟩
  ·obtain⟨o,_,_,_,e,ex,_⟩:=I.hok p _ hk
   refine⟨⟨o,e,ex.1⟩,λa e2=>?_⟩
   cases e2
   exact⟨o,e,ex.2.1⟩
 | _=>exact c9 ty
def zbV(K:bx)(T:String)(r:V->List V->Hp->VK->Prop)(to:TE):TE:=λσ H Q=>to σ H λx H1=>tyV K T x H1/\r x [] H1 Q
def tBM(K:bx)(T:String)(r:V->List V->Hp->VK->Prop)(to:TE)(t:TA):TE:=λσ H Q=>to σ H λx H1=>tyV K T x H1/\t σ H1 λxs H2=>r x xs H2 Q
variable {o e:aA}{es:List aA}{to:TE}{t:TA}{name:Str}{apos cpos:Pos}{T id:String}{r:V->List V->Hp->VK->Prop}
theorem zat(pa:PlainAttrs T)(slot:Slot T name id)(hty:typeOf (.builtin id)=pure (.type "method_descriptor"))(hm:MtR X id r)(ho:PE X o to)
  (hbase:attributeBase o name X.env (eval o X.env)=eval o X.env:=by rfl) (hline:(apos.endLine == cpos.line)=af:=by rfl):PE X (.Call (.Attribute o name apos) [] [] cpos) (zbV X.K T r to):=by
 intro pins s σ H Q I h
 refine mH hbase hline (thn (ho pins s σ H _ I h) λv s1 ⟨x,H1,I1,r1,ty,q1⟩=>?_)
 obtain⟨h1,h2⟩:=zcK I1 r1 ty
 exact⟨T,id,pa,slot,hty,h1,h2,de rfl (oy (hm pins s1 σ H1 x [] v [] Q I1 r1 .nil q1))⟩
theorem we(pa:PlainAttrs T)(slot:Slot T name id)(hty:typeOf (.builtin id)=pure (.type "method_descriptor"))(hm:MtR X id r)(ho:PE X o to)(ha:PA X (e :: es) t)
  (hbase:attributeBase o name X.env (eval o X.env)=eval o X.env:=by rfl)
  (hfew:((backTo cpos (starEach (e :: es) X.env)).all (λx=>!x.1) && (backToKw cpos (keywordEach [] X.env)).all (λx=>x.1.isSome)
   && decide ((e :: es).length + ([]:List Keyword).length + (if ([]:List Keyword).isEmpty then 0 else 1) < 30))=af:=by rfl)
  (hline:(apos.endLine == cpos.line)=af:=by rfl) (hs:starEach (e :: es) X.env=(am,eval e X.env) :: starEach es X.env:=by rfl) (hplain:(backTo cpos (starEach es X.env)).any (·.1)=am:=by rfl) :
  PE X (.Call (.Attribute o name apos) (e :: es) [] cpos) (tBM X.K T r to t):=by
 intro pins s σ H Q I h
 refine wpAny_Call_method_late hbase hfew hline rfl (thn (ho pins s σ H _ I h) λv s1 ⟨x,H1,I1,r1,ty,q1⟩=>?_)
 obtain⟨h1,h2⟩:=zcK I1 r1 ty
 refine⟨T,id,pa,slot,hty,h1,h2,?_⟩
 have hA:=ha cpos pins s1 σ H1 _ I1 q1
 rw[hs] at hA ⊢
 refine de (by show (am || (backTo cpos (starEach es X.env)).any (·.1))=am;rw[hplain] <;> rfl) (dQ ?_)
 exact thn hA λus s2 ⟨vs,H2,I2,r2,q2⟩=>hm pins s2 σ H2 x vs v us Q I2 r1 r2 q2
end
def MtM(X:Cx)(id:String)(r:V->List V->Hp->VK->Prop):Prop :=
 ∀(pins:List (ac × Obj)) (s:ag) (σ:St) (H:Hp) (x:V) (xs:List V) (v:ae) (us:List ae) (Q:VK),Inv X pins σ H s->RelV x v->Vals xs us->r x xs H Q ->
  wpAny (model X.prog X.w) X.A (call (.builtin id) (v :: us)) (EP X pins σ Q) X.xe s
theorem Vals.one:∀ {x:V} {us:List ae},Vals [x] us->∃u,us=[u]/\RelV x u
 | _,_,.cons r .nil=>⟨_,rfl,r⟩
theorem Vals.zero:∀ {us:List ae},Vals [] us->us=[]
 | _,.nil=>rfl
theorem Vals.dropLast(h:Vals xs us):Vals xs.dropLast us.dropLast:=by
 induction h with
 | nil=>exact .nil
 | cons r t ih =>
  cases t with
  | nil=>exact .nil
  | cons q t'=>exact .cons r ih
theorem Vals.eraseIdx:∀ {xs:List V} {us:List ae} (i:Nat),Vals xs us->Vals (xs.eraseIdx i) (us.eraseIdx i)
 | _,_,_,.nil=>.nil
 | _,_,0,.cons _ t=>t
 | _,_,i + 1,.cons r t=>.cons r (Vals.eraseIdx i t)
theorem Vals.rep{xs:List V}{us:List ae}(h:Vals xs us):∀k:Nat,Vals (bD k xs).flatten (bD k us).flatten
 | 0=>.nil
 | k + 1=>by
  rw[dY,dY,eU,eU]
  exact Vals.append h (Vals.rep h k)
theorem zau{α:Type}(l:List α):l.eraseIdx (l.length - 1)=l.dropLast:=by
 induction l with
 | nil=>rfl
 | cons a r ih =>
  cases r with
  | nil=>rfl
  | cons b r =>
   have e:(a :: b :: r).length - 1=((b :: r).length - 1) + 1:=by
    have h1:(a :: b :: r).length=r.length + 2:=rfl
    have h2:(b :: r).length=r.length + 1:=rfl
    lia
   rw[e,gS,ih]
   all_goals rfl
theorem V0{α:Type}:∀(l:List α) (i:Nat),(l.eraseIdx i).length<=l.length
 | [],_=>bh _
 | _ :: _,0=>pX _
 | _ :: r,i + 1=>fQ (V0 r i)
theorem V1(its:List ae):∀(k:Nat) (acc:List ae),
  rj (λx1 x2=>x1 ++ x2) acc.toArray (bD k its.toArray)=(acc ++ (bD k its).flatten).toArray
 | 0,acc=>by simp
 | k + 1,acc=>by
  have e:acc.toArray ++ its.toArray=(acc ++ its).toArray:=by simp
  have e2:(acc ++ its) ++ (bD k its).flatten=acc ++ (bD (k + 1) its).flatten:=by
   rw[dY,eU,fC]
  rw[<-e2,<-V1 its k (acc ++ its),<-e,dY,eA]
section
variable {X:Cx}{pins:List (ac × Obj)}{σ:St}{H:Hp}{s:ag}{l b:ac}{xs ys zs:List V}
theorem Inv.lset{its its':List ae}{n:Nat}{f:Array ae->Array ae}(I:Inv X pins σ H s)(hH:H l=aa (.lst xs))
  (e:s.heap.get? l=aa { cls:=.type "list",data:=.seq its.toArray n }) (hf:f its.toArray=its'.toArray) (hv:Vals ys its') (hz:ys.length<=sizeLine) :
  Inv X pins σ (upd H l (.lst ys)) { s with heap:=s.heap.update l (dI f),toks:=t' }:=by
 have q:=PySem.IsL.update e f
 rw[hf] at q
 refine I.write (x:=l) (e:=l) (by rw[hH];exact trivial) (.inl rfl) (λb' u hb hu=>(dW s.heap (dI f) (fc hb)).trans hu) ⟨_,q⟩ ?_
 exact⟨hz,its',_,hv,q⟩
theorem Inv.lnew(I:Inv X pins σ H s)(hv:Vals ys its)(hz:ys.length<=sizeLine) :
  Inv X pins σ (upd H s.heap.objs.size (.lst ys)) { s with heap:=s.heap.push { cls:=.type "list",data:=.seq its.toArray },toks:=t' }:=
 I.laid (λ_ _ q=>bd _ q) (bh _) ⟨hz,its,0,hv,bB _ rfl⟩
theorem Inv.fresh(I:Inv X pins σ H s):H s.heap.objs.size=ah:=I.hok.fresh (bh _)
theorem Inv.lstM(I:Inv X pins σ H s)(hH:H l=aa (.lst xs)):xs.length<=sizeLine/\∃(its:List ae) (n:Nat),Vals xs its/\xs.length=its.length/\s.heap.get? l=aa { cls:=.type "list",data:=.seq its.toArray n }:=by
 obtain⟨z,its,n,r,e⟩:=I.hok l _ hH
 exact⟨z,its,n,r,r.length,e⟩
theorem KI(h:n<=sizeLine):fE n=am:=by
 unfold fE
 exact decide_eq_false (by lia)
end
section
variable {X:Cx}
def Wm:V->List V->Hp->VK->Prop:=λx vs H Q=>∃l xs y,x=.ref l/\vs=[y]/\H l=aa (.lst xs)/\xs.length < sizeLine/\Q .non (upd H l (.lst (xs ++ [y])))
theorem yF:MtM X "list.append" Wm:=by
 intro pins s σ H x vs v us Q I rx rv h
 obtain⟨l,xs,y,rfl,rfl,hH,hz,q⟩:=h
 cases rx
 obtain⟨u,rfl,ru⟩:=rv.one
 obtain⟨z,its,n,r,hl,e⟩:=I.lstM hH
 refine gq F.slot_list_append ⟨_,e,rfl⟩ F.entry_list_append (F.args_list_append_2 _ _) (PySem.list_append l its.toArray n u (by rw[bK];lia)) ⟨e,?_⟩
 refine⟨.non,_,I.lset (its':=its ++ [u]) hH e (by simp) (r.append (.cons ru .nil)) ?_,rfl,q⟩
 rw[bn,cN]
 lia
def zbf:V->List V->Hp->VK->Prop:=λx vs H Q=>∃l b xs zs,x=.ref l/\vs=[.ref b]/\H l=aa (.lst xs)/\H b=aa (.lst zs)/\xs.length + zs.length<=sizeLine/\Q .non (upd H l (.lst (xs ++ zs)))
theorem zbW:MtM X "list.extend" zbf:=by
 intro pins s σ H x vs v us Q I rx rv h
 obtain⟨l,b,xs,zs,rfl,rfl,hH,hB,hz,q⟩:=h
 cases rx
 obtain⟨u,rfl,ru⟩:=rv.one
 cases ru
 obtain⟨z,its,n,r,hl,e⟩:=I.lstM hH
 obtain⟨z2,its2,n2,r2,hl2,e2⟩:=I.lstM hB
 have hsz:its.toArray.size + its2.toArray.size<=sizeLine:=by rw[bK,bK];lia
 have hlong:¬ (!its.toArray.isEmpty && fE (its.toArray.size + its2.toArray.size))=af:=by
  rw[KI hsz,Bool.and_false]
  exact bG
 refine gq F.slot_list_extend ⟨_,e,rfl⟩ F.entry_list_extend (F.args_list_extend_2 _ _)
  (AutoSeq1.list_extend_list_list_0 l its.toArray n b its2.toArray n2 hlong (by rw[bK];lia) (by lia)) ⟨e,e2,?_⟩
 refine⟨.non,_,I.lset (its':=its ++ its2) hH e (by simp) (r.append r2) ?_,rfl,q⟩
 rw[bn]
 lia
def zeA:V->List V->Hp->VK->Prop:=λx vs H Q=>∃l xs y,x=.ref l/\vs=[]/\H l=aa (.lst xs)/\xs[xs.length - 1]?=aa y/\Q y (upd H l (.lst xs.dropLast))
theorem zav:MtM X "list.pop" zeA:=by
 intro pins s σ H x vs v us Q I rx rv h
 obtain⟨l,xs,y,rfl,rfl,hH,hy,q⟩:=h
 cases rx
 have hus:=rv.zero
 subst hus
 obtain⟨z,its,n,r,hl,e⟩:=I.lstM hH
 obtain⟨u,hu,ru⟩:=r.get hy
 have hy':its.toArray[its.toArray.size - 1]?=aa u:=by
  show its.toArray[its.length - 1]?=aa u
  rw[<-cQ,<-hl]
  exact hu
 refine gq F.slot_list_pop ⟨_,e,rfl⟩ F.entry_list_pop (F.args_list_pop_1 _) (MeetsSeq.list_pop_last l its.toArray n u hy' (by rw[bK];lia)) ⟨e,?_⟩
 refine⟨y,_,I.lset (its':=its.dropLast) hH e ?_ r.dropLast ?_,ru,q⟩
 ·show its.toArray.eraseIdxIfInBounds (its.toArray.size - 1)=its.dropLast.toArray
  rw[bK,iy,zau]
 ·rw[List.length_dropLast]
  lia
def ZB:R2:=λx y H Q=>∃l b xs zs,x=.ref l/\y=.ref b/\H l=aa (.lst xs)/\H b=aa (.lst zs)/\xs.length + zs.length<=sizeLine/\∀p,H p=ah->Q (.ref p) (upd H p (.lst (xs ++ zs)))
theorem vP:OpR X (binaryOp .Add) ZB:=by
 intro pins s σ H x y v u Q I rx ry h
 obtain⟨l,b,xs,zs,rfl,rfl,hH,hB,hz,q⟩:=h
 cases rx
 cases ry
 obtain⟨z,its,n,r,hl,e⟩:=I.lstM hH
 obtain⟨z2,its2,n2,r2,hl2,e2⟩:=I.lstM hB
 refine PySem.P.add_list e e2 ?_ (by rw[bK,bK];lia)
 have ea:its.toArray ++ its2.toArray=(its ++ its2).toArray:=by simp
 rw[ea]
 exact⟨.ref _,_,I.lnew (t':=s.toks) (r.append r2) (by rw[bn];lia),rfl,q _ I.fresh⟩
def zgO:R2:=λx y H Q=>∃l k xs,x=.ref l/\y=.int k/\H l=aa (.lst xs)/\-(2 ^ 63)<=k/\k < 2 ^ 63/\xs.length * k.toNat<=sizeLine /\
 ∀p,H p=ah->Q (.ref p) (upd H p (.lst (bD k.toNat xs).flatten))
theorem zeB{α:Type}(xs:List α)(k:Nat):(bD k xs).flatten.length=k * xs.length:=by
 induction k with
 | zero=>simp
 | succ k ih=>rw[dY,eU,bn,ih,Nat.succ_mul,Nat.add_comm]
theorem zf2:OpR X (binaryOp .Mult) zgO:=by
 intro pins s σ H x y v u Q I rx ry h
 obtain⟨l,k,xs,rfl,rfl,hH,h1,h2,hz,q⟩:=h
 cases rx
 obtain⟨t,rfl⟩:=ry
 obtain⟨z,its,n,r,hl,e⟩:=I.lstM hH
 have hlen:its.toArray.size * k.toNat<=sizeLine:=by rw[bK,<-hl];exact hz
 have hcap:¬ its.toArray.size * k.toNat > (2 ^ 63 - 1) / 8:=by
  have:(sizeLine:Nat)<=(2 ^ 63 - 1) / 8:=by lia
  lia
 have hfit:¬ (!lL k)=af:=by
  rw[fitsIndex_both h1 h2]
  exact bG
 have hlong:¬ fE (its.toArray.size * k.toNat)=af:=by
  rw[KI hlen]
  exact bG
 have hnew:rj (λx1 x2=>x1 ++ x2) #[] (bD (if its.toArray.isEmpty=af then 0 else k.toNat) its.toArray)=(bD k.toNat its).flatten.toArray:=by
  have f0:∀m:Nat,rj (λx1 x2=>x1 ++ x2) #[] (bD m its.toArray)=(bD m its).flatten.toArray:=λm=>by
   have:=V1 its m []
   rw[cz] at this
   exact this
  rw[f0]
  cases its with
  | nil=>simp
  | cons a r'=>rw[ak (by simp)]
 refine wpAny_binaryOp_repeat_ref (T:="list") (U:="int") (by lia) ⟨_,e,rfl⟩ (λs'=>typeIs_int s' k t) noFill_list_mul F.fills_int_mul F.slot_int_rmul repeat_list F.slot_int_index.lookup
  (gq F.slot_int_rmul (typeIs_int s k t) F.entry_int_rmul (F.args_int_rmul_2 _ _) (int___rmul___int_list k t l its.toArray n)
    ⟨e,rfl,⟨_,e,rfl⟩,gq F.slot_list_mul ⟨_,e,rfl⟩ F.entry_list_mul (F.args_list_mul_2 _ _) (AutoListH.list___mul___list_int_3 l its.toArray n k t hfit hcap hlong) ⟨e,?_⟩⟩)
 rw[hnew]
 exact⟨.ref _,_,I.lnew (t':=s.toks) (r.rep k.toNat) (by rw[zeB,Nat.mul_comm];exact hz),rfl,q _ I.fresh⟩
end
section
variable {prog:au}{w:aw}{A:ax}{E:ae->ag->Prop}{s:ag}
set_option maxRecDepth 100000 in
end
section
variable {κ:Type} [DecidableEq κ]
def yd(kvs:List (κ × V))(k:κ):Option V:=(kvs.find? λkv=>decide (kv.1=k)).map (·.2)
def yC(kvs:List (κ × V))(k:κ)(v:V):List (κ × V) :=
 if (kvs.any λkv=>decide (kv.1=k))=af then kvs.map (λkv=>if kv.1=k then (kv.1,v) else kv) else kvs ++ [(k,v)]
def xj(kvs:List (κ × V))(k:κ):List (κ × V):=kvs.filter λkv=>decide (kv.1≠k)
theorem zcL :yd ([]:List (κ × V)) k=ah:=rfl
theorem yW{p:κ × V}{r:List (κ × V)}(e:p.1=k):yd (p :: r) k=aa p.2:=by simp[yd,fZ,e]
theorem yX{p:κ × V}{r:List (κ × V)}(e:¬ p.1=k):yd (p :: r) k=yd r k:=by simp[yd,fZ,e]
theorem wW(k:κ):∀kvs:List (κ × V),(kvs.any λkv=>decide (kv.1=k))=(yd kvs k).isSome
 | []=>rfl
 | p :: r=>by
  rw[i8]
  by_cases e:p.1=k
  ·simp only[yW e,decide_eq_true e,Bool.true_or,Option.isSome_some]
  ·rw[yX e,decide_eq_false e,Bool.false_or];exact wW k r
theorem KJ(k j:κ)(y:V):∀kvs:List (κ × V),yd (kvs.map λkv=>if kv.1=k then (kv.1,y) else kv) j=(yd kvs j).map λx=>if j=k then y else x
 | []=>rfl
 | p :: r=>by
  have ih:=KJ k j y r
  rw[bM]
  by_cases h:p.1=k
  ·rw[ao h]
   by_cases e:p.1=j
   ·rw[yW (p:=(p.1,y)) e,yW e,lz,ao (e.symm.trans h)]
   ·rw[yX (p:=(p.1,y)) e,yX e,ih]
  ·rw[ak h]
   by_cases e:p.1=j
   ·rw[yW (p:=p) e,yW e,lz,ak (λz=>h (e.trans z))]
   ·rw[yX (p:=p) e,yX e,ih]
theorem V2(k j:κ)(y:V):∀kvs:List (κ × V),yd kvs k=ah->yd (kvs ++ [(k,y)]) j=if j=k then aa y else yd kvs j
 | [],_=>by
  by_cases e:k=j
  ·rw[ao e.symm];exact yW (p:=(k,y)) e
  ·rw[ak (λz=>e z.symm)];exact yX (p:=(k,y)) e
 | p :: r,hn=>by
  rw[ca]
  have hk:¬ p.1=k:=λz=>by rw[yW z] at hn;cases hn
  rw[yX hk] at hn
  have ih:=V2 k j y r hn
  by_cases e:p.1=j
  ·rw[yW e,yW e,ak (λz=>hk (e.trans z))]
  ·rw[yX e,yX e,ih]
theorem WC(kvs:List (κ × V))(k j:κ)(y:V):yd (yC kvs k y) j=if j=k then aa y else yd kvs j:=by
 unfold yC
 by_cases a:(kvs.any λkv=>decide (kv.1=k))=af
 ·rw[ao a,KJ]
  rw[wW] at a
  by_cases e:j=k
  ·obtain⟨x,hx⟩:=eK.mp a
   rw[ao e,e,hx,lz,ao rfl]
  ·rw[ak e]
   cases yd kvs j with
   | none=>rfl
   | some x=>rw[lz,ak e]
 ·rw[ak a]
  refine V2 k j y kvs ?_
  rw[wW] at a
  cases q:yd kvs k with
  | none=>rfl
  | some x=>rw[q] at a;exact(a rfl).elim
theorem xT(kvs:List (κ × V))(k:κ)(v:V):(yC kvs k v).length<=kvs.length + 1:=by
 unfold yC
 split
 ·rw[bo];lia
 ·rw[bn,bR,nI];lia
theorem qv{kvs:List (κ × V)}(v:V)(h:yd kvs k=ah):yC kvs k v=kvs ++ [(k,v)]:=by
 unfold yC
 rw[wW,h]
 exact ak (by lia)
theorem RelO.isSome_eq(r:RelO o u):o.isSome=u.isSome:=by
 cases o with
 | none=>cases u with
  | none=>rfl
  | some _=>exact(show False from r).elim
 | some _=>cases u with
  | none=>exact(show False from r).elim
  | some _=>rfl
theorem RelO.getD(r:RelO o u)(rd:RelV d d'):RelV (o.getD d) (u.getD d'):=by
 cases o with
 | none=>cases u with
  | none=>exact rd
  | some _=>exact(show False from r).elim
 | some _=>cases u with
  | none=>exact(show False from r).elim
  | some _=>exact r
theorem KV.val(r:KV kvs vs)(k:κ):RelO (yd kvs k) (valueAt vs k):=by
 unfold KV at r
 induction r with
 | nil=>exact eJ
 | @cons p q ps qs h t ih =>
  obtain⟨h1,h2⟩:=h
  by_cases e:p.1=k
  ·have e':q.1=k:=h1.symm.trans e
   have b:valueAt (q :: qs) k=aa q.2:=by simp[valueAt,fZ,e']
   rw[yW e,b];exact h2
  ·have e':¬ q.1=k:=λz=>e (h1.trans z)
   have b:valueAt (q :: qs) k=valueAt qs k:=by simp[valueAt,fZ,e']
   rw[yX e,b];exact ih
theorem KV.any(r:KV kvs vs)(k:κ):(kvs.any λkv=>decide (kv.1=k))=vs.any λkv=>decide (kv.1=k):=by
 unfold KV at r
 induction r with
 | nil=>rfl
 | cons h t ih=>rw[i8,i8,ih,h.1]
theorem KV.repl(r:KV kvs vs)(k:κ)(ry:RelV y u) :
  KV (kvs.map λkv=>if kv.1=k then (kv.1,y) else kv) (vs.map λkv=>if kv.1=k then (kv.1,u) else kv):=by
 unfold KV at r ⊢
 induction r with
 | nil=>exact .nil
 | @cons p q ps qs h t ih =>
  rw[bM,bM]
  refine .cons ?_ ih
  obtain⟨h1,h2⟩:=h
  by_cases e:p.1=k
  ·rw[ao e,ao (h1.symm.trans e)];exact⟨h1,ry⟩
  ·rw[ak e,ak (λz=>e (h1.trans z))];exact⟨h1,h2⟩
theorem KV.put(r:KV kvs vs)(k:κ)(ry:RelV y u):KV (yC kvs k y) (stored vs k u):=by
 unfold yC stored
 rw[r.any k]
 by_cases e:(vs.any λkv=>decide (kv.1=k))=af
 ·rw[ao e,ao e];exact r.repl k ry
 ·rw[ak e,ak e];exact Paired.snoc r ⟨rfl,ry⟩
theorem KV.drop(r:KV kvs vs)(k:κ):KV (xj kvs k) (without vs k):=by
 unfold KV at r ⊢
 unfold xj without
 induction r with
 | nil=>exact .nil
 | @cons p q ps qs h t ih =>
  obtain⟨h1,h2⟩:=h
  rw[mW,mW]
  by_cases e:p.1=k
  ·have a:¬ decide (p.1≠k)=af:=by simp[e]
   have b:¬ decide (q.1≠k)=af:=by simp[h1.symm.trans e]
   rw[ak a,ak b];exact ih
  ·have e':¬ q.1=k:=λz=>e (h1.trans z)
   have a:decide (p.1≠k)=af:=by simp[e]
   have b:decide (q.1≠k)=af:=by simp[e']
   rw[ao a,ao b];exact .cons ⟨h1,h2⟩ ih
theorem KV.length{vs:List (κ × ae)}(r:KV kvs vs):kvs.length=vs.length:=bF r
theorem KK(kvs:List (κ × V))(k:κ):(xj kvs k).length<=kvs.length:=iJ _ _
end
theorem XJ(r:RelV (kV k) u):(yn P w).is k u=af:=by
 cases k with
 | inl i=>obtain⟨t,e⟩:=(show ∃t,u=fV i t from r);subst e;exact Kw P w i t
 | inr x=>obtain⟨t,e⟩:=(show ∃t,u=gQ x t from r);subst e;exact Kx P w x t
theorem Xb{P:au}{w:aw}:∀ {ks:List Key} {us:List ae},Vals (ks.map kV) us->ItemsAre (yn P w) ks us
 | [],_,r=>by rw[nJ] at r;cases r;exact .nil
 | k :: ks,_,r=>by
  rw[bM] at r
  cases r with
  | cons h t=>exact .cons (XJ h) (Xb t)
abbrev KT(H:Hp):List (List Key × V)->List (List Key × ac × ae)->Prop:=Paired λp q=>p.1=q.1/\H q.2.1=aa (.tup (p.1.map kV))/\RelV p.2 q.2.2
theorem KT.val{H:Hp}{kvs:List (List Key × V)}{xs:List (List Key × ac × ae)}(r:KT H kvs xs)(k:List Key):RelO (yd kvs k) ((atKey xs k).map (·.2)):=by
 induction r with
 | nil=>exact eJ
 | @cons p q ps qs h t ih =>
  obtain⟨h1,_,h2⟩:=h
  by_cases e:p.1=k
  ·have e':q.1=k:=h1.symm.trans e
   have b:atKey (q :: qs) k=aa q.2:=by simp[atKey,fZ,e']
   rw[yW e,b];exact h2
  ·have e':¬ q.1=k:=λz=>e (h1.trans z)
   have b:atKey (q :: qs) k=atKey qs k:=by simp[atKey,fZ,e']
   rw[yX e,b];exact ih
theorem KT.repl{H:Hp}(r:KT H kvs xs)(k:List Key)(ry:RelV y u) :
  KT H (kvs.map λkv=>if kv.1=k then (kv.1,y) else kv) (xs.map (putAt k u)):=by
 induction r with
 | nil=>exact .nil
 | @cons p q ps qs h t ih =>
  rw[bM,bM]
  refine .cons ?_ ih
  obtain⟨h1,h2,h3⟩:=h
  unfold putAt
  by_cases e:p.1=k
  ·rw[ao e,ao (h1.symm.trans e)];exact⟨h1,h2,ry⟩
  ·rw[ak e,ak (λz=>e (h1.trans z))];exact⟨h1,h2,h3⟩
theorem KT.put{H:Hp}(r:KT H kvs xs)(k:List Key)(hb:H b=aa (.tup (k.map kV)))(ry:RelV y u) :
  KT H (yC kvs k y) (storedH xs k b u):=by
 have e:(kvs.any λkv=>decide (kv.1=k))=(atKey xs k).isSome:=by
  rw[wW,(r.val k).isSome_eq,mf]
 unfold yC storedH
 rw[e]
 by_cases q:(atKey xs k).isSome=af
 ·rw[ao q,ao q];exact r.repl k ry
 ·rw[ak q,ak q];exact Paired.snoc r ⟨rfl,hb,ry⟩
theorem KT.keeps{H H':Hp}(r:KT H kvs xs)(ht:∀b ys,H b=aa (.tup ys)->H' b=aa (.tup ys)):KT H' kvs xs:=
 Paired.mapP r λ_ _ z=>⟨z.1,ht _ _ z.2.1,z.2.2⟩
section
variable {P:au}{w:aw}{H:Hp}{h:av}{a:ac}
theorem zfB(ok:HOk P w H h)(e:Rd H a u):ObjOk P w H h a u:=e.ok ok
theorem WD(ok:HOk P w H h)(e:Rd H a (.dK kvs)):kvs.length<=sizeLine/\(a == sysModules)=am/\∃vs,KV kvs vs/\h.DictOf (yn P w) a vs:=
 show ObjOk P w H h a (.dK kvs) from zfB ok e
theorem zcM(ok:HOk P w H h)(e:H a=aa (.dK kvs)):kvs.length<=sizeLine/\(a == sysModules)=am/\∃vs,KV kvs vs/\h.DictOf (yn P w) a vs:=WD ok (.inl e)
theorem kq(ok:HOk P w H h)(e:H a=aa (.tup (ks.map kV))):(tupleKind (yn P w)).is h ks a:=by
 obtain⟨_,its,r,o,h1,h2,n,h3⟩:=(show ObjOk P w H h a (.tup (ks.map kV)) from ok a _ e)
 exact⟨o,its.toArray,n,h1,h2,h3,by simpa using Xb r⟩
theorem WE(ok:HOk P w H h)(e:Rd H a (.dT kvs)):kvs.length<=sizeLine/\(a == sysModules)=am /\
  ∃xs,KT H kvs xs/\h.DictOfH (tupleKind (yn P w)) a xs:=by
 obtain⟨z,y,xs,r,o,es,ep,h1,h2,h3,h4,h5⟩:=(show ObjOk P w H h a (.dT kvs) from zfB ok e)
 refine⟨z,y,xs,r,o,es,ep,h1,h2,h3,h4,λx hx=>?_,h5⟩
 have all:∀ {l:List (List Key × V)} {m:List (List Key × ac × ae)},KT H l m->∀x∈m,(tupleKind (yn P w)).is h x.1 x.2.1:=by
  intro l m q
  induction q with
  | nil=>intro x hx;exact nomatch hx
  | @cons p q ps qs hq t ih =>
   intro x hx
   rcases bE.mp hx with e | hx
   ·subst e
    exact kq ok (by rw[<-hq.1];exact hq.2.1)
   ·exact ih x hx
 exact all r x hx
theorem KL(ok:HOk P w H h)(e:H a=aa (.dT kvs)):kvs.length<=sizeLine/\(a == sysModules)=am /\
  ∃xs,KT H kvs xs/\h.DictOfH (tupleKind (yn P w)) a xs:=WE ok (.inl e)
end
def DGet(H:Hp)(a:ac)(y:V)(r:Option V):Prop :=
 (∃kvs k,Rd H a (.dK kvs)/\y=kV k/\r=yd kvs k)\/∃kvs k b,Rd H a (.dT kvs)/\y=.ref b/\H b=aa (.tup (k.map kV))/\r=yd kvs k
def DPut(H:Hp)(a:ac)(y v:V)(H':Hp):Prop :=
 (∃kvs k,H a=aa (.dK kvs)/\y=kV k/\kvs.length < sizeLine/\H'=upd H a (.dK (yC kvs k v))) \/
 ∃kvs k b,H a=aa (.dT kvs)/\y=.ref b/\H b=aa (.tup (k.map kV))/\kvs.length < sizeLine/\H'=upd H a (.dT (yC kvs k v))
theorem DGet.k{H:Hp}{kvs:List (Key × V)}{k:Key}(e:H a=aa (.dK kvs)):DGet H a (kV k) (yd kvs k):=.inl ⟨kvs,k,.inl e,rfl,rfl⟩
theorem DGet.t{H:Hp}{kvs:List (List Key × V)}{k:List Key}(e:H a=aa (.dT kvs))(eb:H b=aa (.tup (k.map kV))):DGet H a (.ref b) (yd kvs k):=.inr ⟨kvs,k,b,.inl e,rfl,eb,rfl⟩
theorem DPut.k{H:Hp}{kvs:List (Key × V)}{k:Key}(e:H a=aa (.dK kvs))(hl:kvs.length < sizeLine):DPut H a (kV k) v (upd H a (.dK (yC kvs k v))):=.inl ⟨kvs,k,e,rfl,hl,rfl⟩
theorem DPut.t{H:Hp}{kvs:List (List Key × V)}{k:List Key}(e:H a=aa (.dT kvs))(eb:H b=aa (.tup (k.map kV)))(hl:kvs.length < sizeLine) :
  DPut H a (.ref b) v (upd H a (.dT (yC kvs k v))):=.inr ⟨kvs,k,b,e,rfl,eb,hl,rfl⟩
section
variable {X:Cx}{pins:List (ac × Obj)}{σ:St}{H:Hp}{s:ag}{a:ac}{y v:V}{u r:ae}{o:Option V}{A:ax}{E:ae->ag->Prop}
theorem Inv.big(I:Inv X pins σ H s):sysModules < s.heap.objs.size:=by
 have h:mainGlobals < s.heap.objs.size:=(I.mod.glob.keeps I.bk).lt
 exact pJ (by lia) h
theorem zbX{Q:ae->ag->Prop}(hu:A.units + 1 < cLine)(I:Inv X pins σ H s)(g:DGet H a y (aa v))(ry:RelV y u)(h:∀w' s',Inv X pins σ H s'->RelV v w'->Q w' s') :
  wpAny (model X.prog X.w) A (getItem (.ref a) u) Q E s:=by
 rcases g with ⟨kvs,k,e,ey,l⟩ | ⟨kvs,k,b,e,ey,eb,l⟩
 ·subst ey
  obtain⟨z,hd,vs,rel,dd⟩:=WD I.hok e
  obtain⟨w',hw,rw'⟩:=RelO.some_of (v:=v) (o:=valueAt vs k) (by rw[l];exact rel.val k)
  exact wpAny_getItem_of (XJ ry) dd.mapOf hw (h w' _ (I.tok _) rw')
 ·subst ey
  cases (show u=bL b from ry)
  obtain⟨z,hd,xs,rel,dd⟩:=WE I.hok e
  obtain⟨w',hw,rw'⟩:=RelO.some_of (v:=v) (o:=(atKey xs k).map (·.2)) (by rw[l];exact rel.val k)
  obtain⟨p,hp,hp2⟩:=cy.mp hw
  refine wpAny_getItem_heap (dM hu) (kq I.hok eb) dd hp ?_
  rw[hp2]
  exact h w' _ (I.tok _) rw'
theorem zhh{Q:ae->ag->Prop}(hu:A.units + 1 < cLine)(I:Inv X pins σ H s)(g:DGet H a y o)(ry:RelV y u)(h:∀s',Inv X pins σ H s'->Q (.bool o.isSome) s') :
  wpAny (model X.prog X.w) A (compareOp .In u (.ref a)) Q E s:=by
 rcases g with ⟨kvs,k,e,ey,l⟩ | ⟨kvs,k,b,e,ey,eb,l⟩
 ·subst ey
  obtain⟨z,hd,vs,rel,dd⟩:=WD I.hok e
  refine wpAny_in_of (XJ ry) hd dd.mapOf ?_
  rw[<-(rel.val k).isSome_eq,<-l]
  exact h _ (I.tok _)
 ·subst ey
  cases (show u=bL b from ry)
  obtain⟨z,hd,xs,rel,dd⟩:=WE I.hok e
  refine wpAny_in_heap (dM hu) (kq I.hok eb) hd dd ?_
  have q:=(rel.val k).isSome_eq
  rw[mf] at q
  rw[<-q,<-l]
  exact h _ (I.tok _)
theorem zeC{Q:ae->ag->Prop}(hu:A.units + 1 < cLine)(I:Inv X pins σ H s)(g:DGet H a y o)(ry:RelV y u)(h:∀s',Inv X pins σ H s'->Q (.bool (!o.isSome)) s') :
  wpAny (model X.prog X.w) A (compareOp .NotIn u (.ref a)) Q E s:=by
 rcases g with ⟨kvs,k,e,ey,l⟩ | ⟨kvs,k,b,e,ey,eb,l⟩
 ·subst ey
  obtain⟨z,hd,vs,rel,dd⟩:=WD I.hok e
  refine wpAny_notIn_of (XJ ry) hd dd.mapOf ?_
  rw[<-(rel.val k).isSome_eq,<-l]
  exact h _ (I.tok _)
 ·subst ey
  cases (show u=bL b from ry)
  obtain⟨z,hd,xs,rel,dd⟩:=WE I.hok e
  refine wpAny_notIn_heap (dM hu) (kq I.hok eb) hd dd ?_
  have q:=(rel.val k).isSome_eq
  rw[mf] at q
  rw[<-q,<-l]
  exact h _ (I.tok _)
theorem Zs(I:Inv X pins σ H s)(mu:Mut (H a))(hs:cP a s.heap h')(he:∃q,h'.get? a=aa q)(new:ObjOk X.prog X.w (upd H a ob) h' a ob) :
  Inv X pins σ (upd H a ob) { s with heap:=h',toks:=t' }:=
 I.write (x:=a) (e:=a) mu (.inl rfl) (λb q hb z=>(hs.2 b hb).trans z) he new
theorem zcN{H':Hp}(z:kvs.length<=sizeLine)(hd:(a == sysModules)=am)(rel:KV kvs vs)(dd:h'.DictOf (yn P w) a vs) :
  ObjOk P w H' h' a (.dK kvs):=⟨z,hd,vs,rel,dd⟩
theorem zbY{H':Hp}{Q:Unit->ag->Prop}(hu:A.units + 1 < cLine)(I:Inv X pins σ H s)(g:DPut H a y v H')(ry:RelV y u)(rv:RelV v r)(h:∀s',Inv X pins σ H' s'->Q () s') :
  wpAny (model X.prog X.w) A (setItem (.ref a) u r) Q E s:=by
 rcases g with ⟨kvs,k,e,ey,l,eH⟩ | ⟨kvs,k,b,e,ey,eb,l,eH⟩
 ·subst ey eH
  obtain⟨z,hd,vs,rel,dd⟩:=zcM I.hok e
  have hz:vs.length<=sizeLine:=by rw[<-rel.length];exact z
  have hl:(yC kvs k v).length<=sizeLine:=by have:=xT kvs k v;lia
  refine wpAny_setItem_pairs (hsz:=hz) (XJ ry) dd λh' dd' hs=>h _ ?_
  have he:∃q,h'.get? a=aa q:=let ⟨q,_,_,hq,_⟩:=dd';⟨q,hq⟩
  exact Zs I (by rw[e];exact eJ) hs he (zcN hl hd (rel.put k rv) dd')
 ·subst ey eH
  cases (show u=bL b from ry)
  obtain⟨z,hd,xs,rel,dd⟩:=KL I.hok e
  have hz:xs.length<=sizeLine:=by rw[<-bF rel];exact z
  have hl:(yC kvs k v).length<=sizeLine:=by have:=xT kvs k v;lia
  refine wpAny_setItem_heap (hsz:=hz) (dM hu) (kq I.hok eb) dd λh' dd' hs=>h _ ?_
  obtain⟨q,es,ep,hq,h2,h3,h4,_,h5⟩:=dd'
  refine Zs I (by rw[e];exact eJ) hs ⟨q,hq⟩ ⟨hl,hd,_,(rel.put k eb rv).keeps λc ys ec=>?_,q,es,ep,hq,h2,h3,h4,h5⟩
  rw[zk (zT ec e (by lia))]
  exact ec
end
section
variable {X:Cx}{pins:List (ac × Obj)}{σ:St}{H:Hp}{s:ag}{a:ac}{kvs:List (Key × V)}{k:Key}{u:ae}{A:ax}{E:ae->ag->Prop}
theorem zfC{Q:ae->ag->Prop}(I:Inv X pins σ H s)(e:H a=aa (.dK kvs))(ry:RelV (kV k) u)(l:yd kvs k=aa v)(hm:more=[]\/∃x,more=[x])
  (h:∀w' s',Inv X pins σ (upd H a (.dK (xj kvs k))) s'->RelV v w'->Q w' s'):wpAny (model X.prog X.w) A (call (.builtin "dict.pop") (.ref a :: u :: more)) Q E s:=by
 obtain⟨z,hd,vs,rel,dd⟩:=zcM I.hok e
 obtain⟨w',hw,rw'⟩:=RelO.some_of (v:=v) (o:=valueAt vs k) (by rw[<-l];exact rel.val k)
 have hp:(keyPart u).isSome=af:=by
  cases k with
  | inl i=>obtain⟨t,q⟩:=(show ∃t,u=fV i t from ry);subst q;rfl
  | inr x=>obtain⟨t,q⟩:=(show ∃t,u=gQ x t from ry);subst q;rfl
 have ha:argsOk "dict.pop" ⟨.ref a :: u :: more,[]⟩:=by
  rcases hm with q | ⟨x,q⟩
  ·subst q;exact mI _ _
  ·subst q;exact mJ _ _ _
 refine iK eB dd.typeIs ie ha (meets_dict_pop_there (yn X.prog X.w) a (XJ ry) more hm hp)
  ⟨vs,w',dd,by rw[<-rel.length];exact z,hw,λh' dd' hs=>h w' _ ?_ rw'⟩
 have he:∃q,h'.get? a=aa q:=let ⟨q,_,_,hq,_⟩:=dd';⟨q,hq⟩
 exact Zs I (by rw[e];exact eJ) hs he (zcN (bN (KK kvs k) z) hd (rel.drop k) dd')
theorem zf3{Q:ae->ag->Prop}(I:Inv X pins σ H s)(e:H a=aa (.dK kvs))(ry:RelV (kV k) u)(l:yd kvs k=ah)(h:∀s',Inv X pins σ H s'->Q r s') :
  wpAny (model X.prog X.w) A (call (.builtin "dict.pop") [.ref a,u,r]) Q E s:=by
 obtain⟨z,hd,vs,rel,dd⟩:=zcM I.hok e
 have hn:valueAt vs k=ah:=RelO.none_of (by rw[<-l];exact rel.val k)
 have hp:(keyPart u).isSome=af:=by
  cases k with
  | inl i=>obtain⟨t,q⟩:=(show ∃t,u=fV i t from ry);subst q;rfl
  | inr x=>obtain⟨t,q⟩:=(show ∃t,u=gQ x t from ry);subst q;rfl
 exact iK eB dd.typeIs ie (mJ _ _ _) (meets_dict_pop_default (yn X.prog X.w) a (XJ ry) hd hp r) ⟨vs,dd,hn,h _ (I.tok _)⟩
end
def zgP(i:aA):Prop:=∀ov iv,subscripted i am ov iv=operate [ov,iv] (getItem ov iv)
theorem zeD{E:ae->ag->Prop}{env:Env}{pos:Pos}{T id:String}{Q:ae->ag->Prop}
  (hl:typeLookup (.type T) "__getitem__"=pure (aa (.builtin id))) (hs:zgP slice)
  (h:wpAny (model prog w) A (eval value env) (λo s₁=>wpAny (model prog w) A (eval slice env) (λi s₂=>s₂.TypeIs o T/\wpAny (model prog w) A (getItem o i) Q E s₂) E s₁) E s) :
  wpAny (model prog w) A (eval (.Subscript value slice pos) env) Q E s:=by
 refine Subscript_ (dG h (λo s₁ h₁=>dG h₁ (λi s₂ h₂=>?_) λ_ _ x=>x) λ_ _ x=>x)
 obtain⟨hT,h₂⟩:=h₂
 unfold subscriptTail
 refine ba ?_
 rw[getitemInPython_of_ne hT.not_modules]
 refine ba (wpAny_specialOf hT hl ?_)
 have fin:wpAny (model prog w) A (subscripted slice am o i) (λr s₃=>wpAny (model prog w) A (letTemporaryGo value o r >>= λ_=>pure r) Q E s₃) E s₂:=by
  rw[hs o i]
  exact wpAny_operating (dG h₂ (λr s₃ h₃=>ba (wpAny_letTemporaryGo (bg h₃))) λ_ _ x=>x)
 first
  | exact bg (ba fin)
  | exact ba (bg (ba fin))
  | exact ba fin
theorem KM{pins:List (ac × Obj)}{σ:St}{H:Hp}{s:ag}{a:ac}{y:V}{o:Option V}(I:Inv X pins σ H s)(g:DGet H a y o):s.TypeIs (.ref a) "dict":=by
 rcases g with ⟨kvs,k,e,_,_⟩ | ⟨kvs,k,b,e,_,_,_⟩
 ·obtain⟨_,_,vs,_,dd⟩:=WD I.hok e
  exact dd.typeIs
 ·obtain⟨_,_,xs,_,dd⟩:=WE I.hok e
  exact dd.typeIs
def wX(td ty:TE):TE:=λσ H Q=>td σ H λx H1=>ty σ H1 λy H2=>∃a v,x=.ref a/\DGet H2 a y (aa v)/\Q v H2
def jR(td ty tv:TE):TS:=λD σ H=>tv σ H λv H1=>td σ H1 λx H2=>ty σ H2 λy H3=>∃a H4,x=.ref a/\DPut H3 a y v H4/\D.nx σ H4
section
variable {X:Cx}{o i e value:aA}{pos pos' tpos:Pos}{td ty tv:TE}
theorem wf(hu:X.A.units + 1 < cLine)(ho:PE X o td)(hi:PE X i ty)(hs:zgP i):PE X (.Subscript o i pos) (wX td ty):=by
 intro pins s σ H Q I h
 refine zeD PySem.F.slot_dict_getitem.lookup hs (thn (ho pins s σ H _ I h) λu s1 ⟨x,H1,I1,rx,q1⟩=>thn (hi pins s1 σ H1 _ I1 q1) λiv s2 ⟨y,H2,I2,ry,a,v,ex,g,q2⟩=>?_)
 subst ex
 obtain rfl:u=bL a:=rx
 exact⟨KM I2 g,zbX hu I2 g ry λw' s3 I3 rw'=>⟨v,H2,I3,rw',q2⟩⟩
theorem wP(hu:X.A.units + 1 < cLine)(ho:PE X o td)(hi:PE X i ty)(hv:PE X value tv)(hs:swapsWith value (aa (.Subscript o i pos')) pos.line X.env=pure am) :
  PS X (.Assign [.Subscript o i pos'] value pos) (jR td ty tv):=by
 intro pins s σ H D I h
 refine wpAny_Assign_Subscript (thn (hv pins s σ H _ I h) λr s1 ⟨v,H1,I1,rv,q1⟩=>thn (ho pins s1 σ H1 _ I1 q1) λu s2 ⟨x,H2,I2,rx,q2⟩=>thn (hi pins s2 σ H2 _ I2 q2) λiv s3 ⟨y,H3,I3,ry,a,H4,ex,g,q3⟩=>?_) hs
 subst ex
 obtain rfl:u=bL a:=rx
 exact zbY hu I3 g ry rv λs4 I4=>⟨σ,H4,I4,q3⟩
end
theorem zcO{H:Hp}(h:av)(hb:sysModules < h.objs.size):ObjOk P w H (h.push { cls:=.type "dict",data:=.dict #[] }) h.objs.size (.dK []):=
 ⟨bW _,beq_eq_false_iff_ne.mpr (fc (bU hb)),[],.nil,Heap.DictOf.new h⟩
theorem KN{H:Hp}(h:av)(hb:sysModules < h.objs.size):ObjOk P w H (h.push { cls:=.type "dict",data:=.dict #[] }) h.objs.size (.dT []):=
 ⟨bW _,beq_eq_false_iff_ne.mpr (fc (bU hb)),[],.nil,_,#[],0,bB _ rfl,⟨rfl,rfl,rfl⟩,rfl,rfl,ef⟩
def Z2:TE:=λ_ H Q=>∀p,H p=ah->Q (.ref p) (upd H p (.dK []))
def kt:TE:=λ_ H Q=>∀p,H p=ah->Q (.ref p) (upd H p (.dT []))
section
variable {X:Cx}{pos:Pos}
theorem qw:PE X (.Dict [] [] pos) Z2:=λpins s σ H Q I h =>
 wpAny_Dict_empty ⟨.ref s.heap.objs.size,_,I.laid (a:=s.heap.objs.size) (o:=.dK []) (t':=s.toks) (λ_ _ q=>bd _ q) (bh _) (zcO s.heap I.big),rfl,h _ (I.hok.fresh (bh _))⟩
theorem jS:PE X (.Dict [] [] pos) kt:=λpins s σ H Q I h =>
 wpAny_Dict_empty ⟨.ref s.heap.objs.size,_,I.laid (a:=s.heap.objs.size) (o:=.dT []) (t':=s.toks) (λ_ _ q=>bd _ q) (bh _) (KN s.heap I.big),rfl,h _ (I.hok.fresh (bh _))⟩
end
def zf4:List (TE × TE)->St->Hp->(List (V × V)->Hp->Prop)->Prop
 | [],_,H,Q=>Q [] H
 | (tk,tv) :: r,σ,H,Q=>tk σ H λx H1=>tv σ H1 λy H2=>zf4 r σ H2 λps H3=>Q ((x,y) :: ps) H3
structure M1(X:Cx)(o:aA)(m:Str)(apos:Pos)(e:aA)(cpos:Pos):Prop where
 base:attributeBase o m X.env (eval o X.env)=eval o X.env
 few:((backTo cpos (starEach [e] X.env)).all (λx=>!x.1) && (backToKw cpos (keywordEach [] X.env)).all (λx=>x.1.isSome)
  && decide (([e]:List aA).length + ([]:List Keyword).length + (if ([]:List Keyword).isEmpty then 0 else 1) < 30))=af
 line:(apos.endLine == cpos.line)=af
 trees:backTo cpos (starEach [e] X.env)=[(am,eval e X.env)]
structure M2(X:Cx)(o:aA)(m:Str)(apos:Pos)(e f:aA)(cpos:Pos):Prop where
 base:attributeBase o m X.env (eval o X.env)=eval o X.env
 few:((backTo cpos (starEach [e,f] X.env)).all (λx=>!x.1) && (backToKw cpos (keywordEach [] X.env)).all (λx=>x.1.isSome)
  && decide (([e,f]:List aA).length + ([]:List Keyword).length + (if ([]:List Keyword).isEmpty then 0 else 1) < 30))=af
 line:(apos.endLine == cpos.line)=af
 trees:backTo cpos (starEach [e,f] X.env)=[(am,eval e X.env),(am,eval f X.env)]
def IsD(H:Hp)(a:ac):Prop:=(∃kvs,Rd H a (.dK kvs))\/∃kvs,Rd H a (.dT kvs)
theorem Xc{pins:List (ac × Obj)}{σ:St}{H:Hp}{s:ag}{a:ac}(I:Inv X pins σ H s)(d:IsD H a) :
  s.TypeIs (.ref a) "dict"/\(∀b,bL a=.ref b->∃ob,s.heap.get? b=aa ob/\ob.dict=ah)/\(a == sysModules)=am:=by
 rcases d with ⟨kvs,e⟩ | ⟨kvs,e⟩
 ·obtain⟨_,hd,vs,_,dd⟩:=WD I.hok e
  refine⟨dd.typeIs,λb q=>?_,hd⟩
  cases q
  obtain⟨ob,_,_,h1,h2,_⟩:=dd
  exact⟨ob,h1,h2.2.1⟩
 ·obtain⟨_,hd,xs,_,dd⟩:=WE I.hok e
  refine⟨dd.typeIs,λb q=>?_,hd⟩
  cases q
  obtain⟨ob,_,_,h1,h2,_⟩:=dd
  exact⟨ob,h1,h2.2.1⟩
section
variable {X:Cx}{pins:List (ac × Obj)}{σ:St}{H:Hp}{s:ag}{a:ac}{y d:V}{u r:ae}{o:Option V}{A:ax}{E:ae->ag->Prop}
theorem zf5{Q:ae->ag->Prop}(hu:A.units + 1 < cLine)(I:Inv X pins σ H s)(g:DGet H a y o)(ry:RelV y u)(rd:RelV d r)(h:∀w' s',Inv X pins σ H s'->RelV (o.getD d) w'->Q w' s') :
  wpAny (model X.prog X.w) A (call (.builtin "dict.get") [.ref a,u,r]) Q E s:=by
 rcases g with ⟨kvs,k,e,ey,l⟩ | ⟨kvs,k,b,e,ey,eb,l⟩
 ·subst ey
  obtain⟨z,hd,vs,rel,dd⟩:=WD I.hok e
  refine iK iL dd.typeIs m7 (mK _ _ _) (meets_dict_get_default (yn X.prog X.w) a (XJ ry) hd r) ⟨_,dd.mapOf,h _ _ (I.tok _) ?_⟩
  rw[l]
  exact(rel.val k).getD rd
 ·subst ey
  cases (show u=bL b from ry)
  obtain⟨z,hd,xs,rel,dd⟩:=WE I.hok e
  refine iK iL dd.typeIs m7 (mK _ _ _) (meetsH_dict_get_default (tupleKind (yn X.prog X.w)) a b hd r) ⟨dM hu,k,xs,kq I.hok eb,dd,h _ _ (I.tok _) ?_⟩
  rw[l]
  exact(rel.val k).getD rd
end
def xh(td ty tx:TE):TE:=λσ H Q=>td σ H λx H1=>∃a,x=.ref a/\IsD H1 a/\ty σ H1 λy H2=>tx σ H2 λz H3=>∃o,DGet H3 a y o/\Q (o.getD z) H3
def JH(td ty:TE):TE:=λσ H Q=>td σ H λx H1=>∃a,x=.ref a/\IsD H1 a/\ty σ H1 λy H2=>∃kvs k v,H2 a=aa (.dK kvs)/\y=kV k/\yd kvs k=aa v/\Q v (upd H2 a (.dK (xj kvs k)))
def zaw(td ty tx:TE):TE:=λσ H Q=>td σ H λx H1=>∃a,x=.ref a/\IsD H1 a/\ty σ H1 λy H2=>tx σ H2 λz H3=>∃kvs k,H3 a=aa (.dK kvs)/\y=kV k /\
 (∀v,yd kvs k=aa v->Q v (upd H3 a (.dK (xj kvs k))))/\(yd kvs k=ah->Q z H3)
section
variable {X:Cx}{o e f:aA}{apos cpos:Pos}{td ty tx:TE}
theorem vQ(hu:X.A.units + 1 < cLine)(ho:PE X o td)(he:PE X e ty)(hf:PE X f tx)(m:M2 X o "get" apos e f cpos):PE X (.Call (.Attribute o "get" apos) [e,f] [] cpos) (xh td ty tx):=by
 intro pins s σ H Q I h
 refine gu m.base m.few m.line dN iL PySem.F.type_dict_get (thn (ho pins s σ H _ I h) λu s1 ⟨x,H1,I1,rx,a,ex,d,q1⟩=>?_)
 subst ex
 obtain rfl:u=bL a:=rx
 obtain⟨t1,t2,_⟩:=Xc I1 d
 refine⟨t1,t2,?_⟩
 rw[m.trees]
 refine de rfl (dQ (cW (thn (he pins s1 σ H1 _ I1 q1) λiv s2 ⟨y,H2,I2,ry,q2⟩ =>
  cW (thn (hf pins s2 σ H2 _ I2 q2) λfv s3 ⟨z,H3,I3,rz,ov,g,q3⟩=>eS ?_))))
 exact zf5 hu I3 g ry rz λw' s4 I4 rw'=>⟨_,H3,I4,rw',q3⟩
theorem WF(ho:PE X o td)(he:PE X e ty)(m:M1 X o "pop" apos e cpos):PE X (.Call (.Attribute o "pop" apos) [e] [] cpos) (JH td ty):=by
 intro pins s σ H Q I h
 refine gu m.base m.few m.line dN eB iM (thn (ho pins s σ H _ I h) λu s1 ⟨x,H1,I1,rx,a,ex,d,q1⟩=>?_)
 subst ex
 obtain rfl:u=bL a:=rx
 obtain⟨t1,t2,_⟩:=Xc I1 d
 refine⟨t1,t2,?_⟩
 rw[m.trees]
 refine de rfl (dQ (cW (thn (he pins s1 σ H1 _ I1 q1) λiv s2 ⟨y,H2,I2,ry,kvs,k,v,ea,ey,l,q2⟩=>eS ?_)))
 subst ey
 exact zfC I2 ea ry l (.inl rfl) λw' s3 I3 rw'=>⟨v,_,I3,rw',q2⟩
theorem KO(ho:PE X o td)(he:PE X e ty)(hf:PE X f tx)(m:M2 X o "pop" apos e f cpos):PE X (.Call (.Attribute o "pop" apos) [e,f] [] cpos) (zaw td ty tx):=by
 intro pins s σ H Q I h
 refine gu m.base m.few m.line dN eB iM (thn (ho pins s σ H _ I h) λu s1 ⟨x,H1,I1,rx,a,ex,d,q1⟩=>?_)
 subst ex
 obtain rfl:u=bL a:=rx
 obtain⟨t1,t2,_⟩:=Xc I1 d
 refine⟨t1,t2,?_⟩
 rw[m.trees]
 refine de rfl (dQ (cW (thn (he pins s1 σ H1 _ I1 q1) λiv s2 ⟨y,H2,I2,ry,q2⟩ =>
  cW (thn (hf pins s2 σ H2 _ I2 q2) λfv s3 ⟨z,H3,I3,rz,kvs,k,ea,ey,q3,q4⟩=>eS ?_))))
 subst ey
 cases l:yd kvs k with
 | some v=>exact zfC I3 ea ry l (.inr ⟨fv,rfl⟩) λw' s4 I4 rw'=>⟨v,_,I4,rw',q3 v l⟩
 | none=>exact zf3 I3 ea ry l λs4 I4=>⟨z,H3,I4,rz,q4 l⟩
end
end L2
namespace Att
open PySem PySem.W PySem.Calls PyProof.Rows
theorem X1 :∀(ns:List Int) (vs:List ae),WellAll P h vs (ns.map WData.int)->IntsAre vs ns:=by
 intro ns
 induction ns with
 | nil =>
  intro vs w
  rw[nJ] at w
  cases w
  exact .nil
 | cons n ns ih =>
  intro vs w
  rw[bM] at w
  cases w with
  | cons a b =>
   cases a
   exact .cons _ _ (ih _ b)
theorem V3{l:OpenLaw}{n:Nat}(hn:l.most=aa n){P:Params}{args:List WData}{vals:List ae}
  (hpre:l.row.toRowW.claim.pre args=af) (hwl:WellAll P h vals args) :
  ∃a vs ns,vals=[bL a]/\args=[WData.list (ns.map WData.int)]/\h.get? a=aa { cls:=.type "list",data:=.seq vs.toArray }/\IntsAre vs ns/\ns.length<=n:=by
 have hsh:WShape.hasAll [] args [.list .int]=af:=(pre_splitW hpre).1
 have hc:l.pre.holds [] { args:=args }=af:=(pre_splitW hpre).2
 obtain⟨d,r,rfl,h1,h2⟩:=hasAllW_cons hsh
 obtain rfl:=hasAllW_nil h2
 obtain⟨xs,rfl,h3⟩:=hasW_list h1
 obtain⟨ns,rfl⟩:=items_int h3
 have hlen:ns.length<=n:=by
  unfold OpenLaw.pre at hc
  have h4:(WTm.not (.lt (.lit (.int (n:Int))) (.len (.arg 0)))).holds [] { args:=[.list (ns.map .int)] }=af:=by
   have h4:=(holds_andW hc).1
   rw[hn] at h4
   exact h4
  have h5:=condW_of h4 (w_not (w_lt w_lit (w_len_list (w_arg rfl))))
  rw[bo] at h5
  refine Nat.le_of_not_lt λq=>?_
  have q':(n:Int) < ((ns.length:Nat):Int):=by lia
  first
   | (rw[decide_eq_true q'] at h5;exact absurd h5 (by lia))
   | (simp at h5;lia)
 cases hwl with
 | cons w1 w2 =>
  cases w2
  cases w1 with
  | list ho hall=>exact⟨_,_,ns,rfl,rfl,ho,X1 ns _ hall,hlen⟩
theorem V4(l:OpenLaw)(args:List WData):l.row.toRowW.claim.post args (.bool af) args=af :=
 postW_of (r:=l.row.toRowW) (X:=(af == af))
  (show WShape.has [] (.bool af) .bool=af by first | rfl | decide | simp[WShape.has,WShape.arms,WShape.armsAll])
  (show (WTm.eq .res (.lit (.bool af))).value [] { args:=args,res:=aa (.bool af),after:=args }=aa (.bool (af == af)) from w_eq_bool (w_res rfl) w_lit) rfl
theorem attach_call{l:OpenLaw}{n:Nat}{loose:List Str}{XP:(Str->Option ae)->av->Prop}{YP:aw->av->Prop}{d:DefRec}
  (hn:l.most=aa n) (hdf:d.params.defaults=[])
  (call:∀(w:aw) (s₀ s₁:ag) (mg mb:Str->Option ae) (fa:ac) (o:Obj) (pm cd doc:ae) (a:ac) (vs:List ae) (ns:List Int),
   Ground q loose [] XP w s₀ mg mb s₁.heap->YP w s₁.heap ->
   s₁.heap.get? fa=aa o->o.data=.func (docDef d.name d.params d.body d.scope pm cd doc)->s₁.heap.CodeRec cd d.name->mg d.name=aa (.ref fa) ->
   s₁.heap.get? a=aa { cls:=.type "list",data:=.seq vs.toArray }->IntsAre vs ns->ns.length<=n->s₁.gens=#[] ->
   codeAny (model l.prog w) callerA (.call (.ref fa) ⟨[.ref a],[]⟩) (λr s'=>r=.ok (.ret (.bool af))/\OldK s₁.heap s'.heap/\s'.os=s₁.os/\AllBare s'.gens) s₁) :
  WalkO q loose XP YP l.row.toRowW d [] (λf vs=>mh f vs):=by
 intro w s₀ s₁ mg mb G Y fa o pm cd doc dV kV ho hd hcd hD hmg hg args vals as hpre hlay hrd hwl hlo
 obtain rfl:dV=.none:=Dflts.none hD hdf
 obtain rfl:kV=.none:=Dflts.noKw hD
 obtain⟨a,vs,ns,rfl,rfl,hobj,hints,hlen⟩:=V3 hn hpre hwl
 refine enter_call (fY (call w s₀ s₁ mg mb fa o pm cd doc a vs ns G Y ho (fd_plain hd) hcd hmg hobj hints hlen hg) λr s' hq=>?_)
 obtain⟨rfl,h2,h3,h4⟩:=hq
 exact⟨.inl ⟨.bool af,.bool af,[],rfl,λ_=>rfl,.bool af,V4 l _,λ_=>⟨fG,λ_ hm=>(nomatch hm)⟩⟩,h2,h3,h4⟩
section
variable {prog:au}{w:aw}{A:ax}{E:ae->ag->Prop}{s:ag}{K:Frag}
def zhi(h:av)(L d:ac):List (ac × Obj):=(eG h.objs.size).filterMap λa=>if a=L\/a=d then ah else (h.get? a).map λo=>(a,o)
end
end Att
namespace L2
open PySem PySem.Spec PyProof.Rows
theorem V5:∀ {vs:List ae} {ns:List Int},IntsAre vs ns->Vals (ns.map V.int) vs
 | _,_,.nil=>.nil
 | _,_,.cons n t h=>.cons ⟨t,rfl⟩ (V5 h)
def zax(H:Hp):Prop:=∀b,H b=ah\/∃o xs,H b=aa (.frz o (.lst xs))
theorem KP{P:au}{w:aw}{K:bx}{mg mb:Str->Option ae}{CX:CXT}{k:Nat}{fa a:ac}{fd:FuncData}{x:Str}{sp:Sp}{s₁:ag}{vs:List ae}{ns:List Int}
  (KX:K.In s₁.heap) (hns:s₁.heap.Ns mainGlobals mg) (hb:s₁.heap.Ns builtinsNs mb) (hbb:∀x:Str,x≠"__name__"->mb x=bootBuiltins x) (hlim:s₁.heap.NoLimit) (hg:s₁.gens=#[])
  (ha:s₁.heap.get? a=aa { cls:=.type "list",data:=.seq vs.toArray }) (hi:IntsAre vs ns) (hl:ns.length<=sizeLine) (hr:Room k callerA)
  (F:∀base:av,K.In base->base.Ns mainGlobals mg->FnOk P w K mg base CX k fa fd [x] sp) (hbind:∀(s:ag) (u:ae),BindsTo s fd ⟨[u],[]⟩ [(x,u)])
  (hsp:∀H:Hp,zax H->SqL K H a (ns.map V.int)->sp [.ref a] H (λv _=>v=.bl af) λ_ _ _=>False)
  (hCX:∀H e s',CX [] H s₁ (λ_ _ _=>False) e s'->False) :
  codeAny (model P w) callerA (.call (.ref fa) ⟨[.ref a],[]⟩) (λr s'=>r=.ok (.ret (.bool af))/\OldK s₁.heap s'.heap/\s'.os=s₁.os/\AllBare s'.gens) s₁:=by
 have rv:=V5 hi
 have lenV:=hi.length
 -- from an abstract heap in which nothing but the script may be tracked
 have core:∀H:Hp,zax H->SqL K H a (ns.map V.int)->HOk P w H s₁.heap->(∀b,H b≠ah->b=a)->(H a≠ah->K.lookup a=ah) ->
   codeAny (model P w) callerA (.call (.ref fa) ⟨[.ref a],[]⟩) (λr s'=>r=.ok (.ret (.bool af))/\OldK s₁.heap s'.heap/\s'.os=s₁.os/\AllBare s'.gens) s₁:=by
  intro H hO hS hok hA hK
  have base_of:∀ {b:ac} {o:Obj},s₁.heap.get? b=aa o->H b=ah->(Ju s₁.heap H).get? b=aa o:=λe n=>zcv e n
  have noA:∀ {b:ac} {o:Obj} {es:Array DictEntry} {ep:Nat},s₁.heap.get? b=aa o->o.data=.dict es ep->H b=ah:=λ{b o es ep} e d=>by
   cases q:H b with
   | none=>rfl
   | some u =>
    have e':b=a:=hA b (by rw[q];simp)
    subst e'
    rw[ha] at e;cases e
    have d':Data.seq vs.toArray _=Data.dict es ep:=d
    cases d'
  have nsK:∀ {b:ac} {m:Str->Option ae},s₁.heap.Ns b m->(Ju s₁.heap H).Ns b m:=λ{b m} ⟨o,es,ep,e,d,r⟩=>⟨o,es,ep,base_of e (noA e d),d,r⟩
  have hKb:K.In (Ju s₁.heap H):=λb o e=>base_of (KX b o e) (by
   cases q:H b with
   | none=>rfl
   | some u =>
    have e':b=a:=hA b (by rw[q];simp)
    subst e'
    rw[hK (by rw[q];simp)] at e;cases e)
  have hM:Mod K mg (Ju s₁.heap H):=⟨hKb,nsK hns,⟨mb,nsK hb,hbb⟩,let ⟨mc,h1,h2⟩:=hlim;⟨mc,nsK h1,h2⟩⟩
  have e0:Env0 P w K mg (Ju s₁.heap H) callerA [] s₁ H:=⟨rfl,hM,λb o e=>zeq e,nE (zbL _ _),trivial,λb hb=>absurd (show b∈([]:List ac) from hb) (by simp),hok,.of_eq hg⟩
  refine fY ((F _ hKb (nsK hns)).run callerA [] s₁ H ⟨[.ref a],[]⟩ [.ref a] [.ref a] _ _ hr e0 (hbind s₁ (.ref a)) (.cons rfl .nil) (hsp H hO hS)) λr s' h=>?_
  cases r with
  | error e=>exact(hCX H e s' h).elim
  | ok fl =>
   cases fl with
   | next=>exact c9 h
   | brk=>exact c9 h
   | cont=>exact c9 h
   | ret u =>
    obtain⟨v,H',os,bare,un,hok',r',q⟩:=h
    have q':v=.bl af:=q
    subst q'
    obtain rfl:u=ik af:=r'
    refine⟨rfl,OldK.of_keep λb o e=>?_,os,bare⟩
    cases q:H b with
    | none=>exact un.keep b o e q (by intro z;exact absurd (show b∈([]:List ac) from z) (by simp)) (by simp)
    | some u =>
     rcases hO b with z | ⟨ob,xs,z⟩
     ·rw[q] at z;cases z
     ·have z2:=un.frzs b ob _ z
      obtain⟨e1,_⟩:=hok b _ z
      obtain⟨e2,_⟩:=hok' b _ z2
      rw[e] at e1;cases e1
      exact e2
 cases hk:K.lookup a with
 | some o =>
  -- the script is one of the module's own objects
  have e:=KX a o hk
  rw[ha] at e
  cases e
  refine core (λ_=>ah) (λ_=>.inl rfl) (.inr ⟨_,vs.toArray,_,hk,rfl,rfl,rfl,by rw[bK,lenV];exact hl,by simpa using rv⟩) (λb u z=>by have z':(ah:Option HO)=aa u:=z;cases z') (λb z=>absurd rfl z) λz=>absurd rfl z
 | none =>
  refine core (λb=>if b=a then aa (.frz { cls:=.type "list",data:=.seq vs.toArray } (.lst (ns.map V.int))) else ah) (λb=>?_) (.inl (.inr ⟨{ cls:=.type "list",data:=.seq vs.toArray },ao rfl⟩)) (λb u z=>?_) (λb z=>?_) λ_=>hk
  ·by_cases hb:b=a
   ·exact .inr ⟨_,_,ao hb⟩
   ·exact .inl (ak hb)
  ·by_cases hb:b=a
   ·have z':=(ao hb).symm.trans z
    cases z'
    subst hb
    exact⟨ha,by rw[bo];exact hl,vs,_,rv,ha⟩
   ·have z':=(ak hb).symm.trans z
    cases z'
  ·by_cases hb:b=a
   ·exact hb
   ·exact absurd (ak hb) z
abbrev KOf{K:bx}{h:av}(_:K.In h):bx:=K
theorem zbg{l:oK}{n k:Nat}{q:au}{loose:List Str}{XP:(Str->Option ae)->av->Prop}{YP:aw->av->Prop}{d:DefRec}{K:Params->bx}{CX:aw->CXT}{sp:aw->Sp}{x:Str}
  (hn:l.most=aa n) (hn2:n<=sizeLine) (hdf:d.params.defaults=[]) (hr:Room k callerA)
  (hY:∀(w:aw) (h:av),YP w h->(K w.params).In h)
  (F:∀(w:aw) (mg:Str->Option ae) (fa:ac) (h:av),(K w.params).In h->h.Ns mainGlobals mg->mg d.name=aa (.ref fa) ->
   ∃fd:FuncData,(∀(s:ag) (u:ae),BindsTo s fd ⟨[u],[]⟩ [(x,u)]) /\
    ∀base:av,(K w.params).In base->base.Ns mainGlobals mg->FnOk l.prog w (K w.params) mg base (CX w) k fa fd [x] (sp w))
  (hsp:∀(w:aw) (H:Hp) (a:ac) (ns:List Int),ns.length<=n->zax H->SqL (K w.params) H a (ns.map V.int)->sp w [.ref a] H (λv _=>v=.bl af) λ_ _ _=>False)
  (hCX:∀(w:aw) (H:Hp) (s:ag) (e:ae) (s':ag),CX w [] H s (λ_ _ _=>False) e s'->False) :
  rA q loose XP YP l.row.toRowW d [] (λf vs=>mh f vs):=by
 refine Att.attach_call hn hdf λw s₀ s₁ mg mb fa o pm cd doc a vs ns G Y ho hd hcd hmg hobj hints hlen hg=>?_
 have KX:=hY w _ Y
 obtain⟨fd,hb,hF⟩:=F w mg fa _ KX G.T.g hmg
 exact KP KX G.T.g G.T.b G.T.builtins G.T.nolimit hg hobj hints (bN hlen hn2) hr hF hb (λH hO hS=>hsp w H a ns hlen hO hS) λH e s'=>hCX w H s₁ e s'
theorem zgQ{l:oK}{n k:Nat}{q:au}{loose:List Str}{XP:(Str->Option ae)->av->Prop}{YP:aw->av->Prop}{d:DefRec}{K:Params->bx}{CX:CXT}{sp:bx->Sp}{x:Str}
  (hn:l.most=aa n) (hn2:n<=sizeLine) (hdf:d.params.defaults=[]) (hr:Room k callerA)
  (hY:∀(w:aw) (h:av),YP w h->(K w.params).In h)
  (F:∀(w:aw) (mg:Str->Option ae) (fa:ac) (h:av),(K w.params).In h->h.Ns mainGlobals mg->mg d.name=aa (.ref fa) ->
   ∃fd:FuncData,(∀(s:ag) (u:ae),BindsTo s fd ⟨[u],[]⟩ [(x,u)]) /\
    ∀base:av,(K w.params).In base->base.Ns mainGlobals mg->FnOk l.prog w (K w.params) mg base CX k fa fd [x] (sp (K w.params)))
  (hsp:∀(K:bx) (H:Hp) (a:ac) (ns:List Int),ns.length<=n->zax H->SqL K H a (ns.map V.int)->sp K [.ref a] H (λv _=>v=.bl af) λ_ _ _=>False)
  (hCX:∀(H:Hp) (s:ag) (e:ae) (s':ag),CX [] H s (λ_ _ _=>False) e s'->False) :
  rA q loose XP YP l.row.toRowW d [] (λf vs=>mh f vs) :=
 zbg (K:=K) (CX:=λ_=>CX) (sp:=λw=>sp (K w.params)) hn hn2 hdf hr hY F (λw H a ns h1 h2 h3=>hsp (K w.params) H a ns h1 h2 h3) λ_ H s e s'=>hCX H s e s'
def zW(s:ay)(j:Nat):ay:=match s with
 | .ClassDef _ _ _ body _ _ _ _ _ _ _=>body.getD j (.Pass ⟨0,0,0,0⟩)
 | _=>.Pass ⟨0,0,0,0⟩
def yU(s:ay):Arguments:=match s with
 | .FunctionDef _ a _ _ _ _ _ _ _ _=>a
 | _=>{ posonlyargs:=[],args:=[],vararg:=ah,kwonlyargs:=[],kw_defaults:=[],kwarg:=ah,defaults:=[] }
def yo(s:ay):List ay:=match s with
 | .FunctionDef _ _ b _ _ _ _ _ _ _=>b
 | _=>[]
def zj(s:ay):aB:=match s with
 | .FunctionDef _ _ _ _ _ _ sc _ _ _=>sc
 | _=>{ kind:=.function,names:=[],isGenerator:=am,isCoroutine:=am }
abbrev E0:XK:=λ_ _ _=>False
structure Fun(K:bx)(x qual:Str)(st:ay)(f:ac)(fd:FuncData):Prop where
 ex:∃(oc:ae) (od:Option ac) (kV doc pm:ae) (an:Option ac) (cdv ct:ae) (osl:Array (Option ae)),
  fd=iI x qual (yU st) (yo st) (zj st) .none kV doc pm an cdv ct/\K.lookup f=aa ⟨oc,od,.func fd,osl⟩/\gR K cdv qual=af
 kp:eI K (.ref f)=af
section
variable {P:au}{w:aw}{K:bx}{mg:Str->Option ae}{base:av}
theorem Fun.binds{st:ay}{f:ac}{fd:FuncData}{ps:List Str}(F:Fun K x qual st f fd)
  (h:∀(kV doc pm:ae) (an:Option ac) (cdv ct:ae) (us:List ae),us.length=ps.length->bindArgs (iI x qual (yU st) (yo st) (zj st) .none kV doc pm an cdv ct) ⟨us,[]⟩=pure (ps.zip us)):Binds K fd ps []:=by
 obtain⟨oc,od,kV,doc,pm,an,cdv,ct,osl,rfl,lk,hcd⟩:=F.ex
 exact .all (h kV doc pm an cdv ct)
theorem WG{st:ay}{f:ac}{oc:ae}{od an:Option ac}{osl:Array (Option ae)}{kV doc pm cdv ct:ae}(l:K.lookup f=aa ⟨oc,od,.func (iI x qual (yU st) (yo st) (zj st) .none kV doc pm an cdv ct),osl⟩)
  (c:gR K cdv qual=af) (k:eI K (.ref f)=af):Fun K x qual st f (iI x qual (yU st) (yo st) (zj st) .none kV doc pm an cdv ct):=⟨⟨oc,od,kV,doc,pm,an,cdv,ct,osl,rfl,l,c⟩,k⟩
end
theorem yy(hr:Room k A):A.units + 1 < cLine:=bY (Nat.add_le_add_left (by lia:1<=64) _) hr.units
section
variable {X:Cx}
theorem pv(i:Nat){pos:Pos}(hN:X.N[i]?=aa x:=by rfl)(hv:Vis X.env.scope x:=by first | exact bZ rfl | exact mX (bZ rfl) | exact mX (mX rfl))(hd:(x == ("__debug__":Str))=am:=by lia)
  (hcd:(x == ("__classdict__":Str))=am:=by lia):PE X (.Name x pos) (zb i):=zfT hN hv hd hcd
end
theorem xp{c A B:Prop} [Decidable c](h1:c->A)(h2:¬ c->B):if c then A else B:=by
 by_cases h:c
 ·rw[ao h]
  exact h1 h
 ·rw[ak h]
  exact h2 h
def Same(H H':Hp):Prop:=∀b o,H b=aa o->H' b=aa o
theorem Same.refl(H:Hp):Same H H:=λ_ _ h=>h
theorem Same.trans{H H1 H2:Hp}(a:Same H H1)(b:Same H1 H2):Same H H2:=λc o h=>b c o (a c o h)
section
variable {κ:Type} [DecidableEq κ]
theorem zcP{kvs:List (κ × V)}{k:κ}(h:yd kvs k=ah):¬ k∈kvs.map (·.1):=by
 intro m
 obtain⟨p,hp,e⟩:=bP.mp m
 have q:(kvs.any λkv=>decide (kv.1=k))=af:=List.any_eq_true.mpr ⟨p,hp,decide_eq_true e⟩
 rw[wW,h] at q
 exact absurd q (by simp)
theorem zbh{kvs:List (κ × V)}{k:κ}{v:V}(h:yd kvs k=aa v):k∈kvs.map (·.1):=by
 have q:(kvs.any λkv=>decide (kv.1=k))=af:=by
  rw[wW,h]
  all_goals rfl
 obtain⟨p,hp,e⟩:=pM.mp q
 exact bP.mpr ⟨p,hp,of_decide_eq_true e⟩
theorem zbi:∀ {l:List κ} {k:κ},l.Nodup->¬ k∈l->(l ++ [k]).Nodup
 | [],k,_,_=>by simp
 | a :: r,k,h,hk=>by
  obtain⟨h1,h2⟩:=cO.mp h
  show (a :: (r ++ [k])).Nodup
  refine cO.mpr ⟨λm=>?_,zbi h2 λm=>hk (bE.mpr (mX m))⟩
  rcases bJ.mp m with q | q
  ·exact h1 q
  ·exact hk (bE.mpr (bZ (bI.mp q).symm))
theorem zeE{kvs:List (κ × V)}{k:κ}(v:V)(hn:(kvs.map (·.1)).Nodup)(h:yd kvs k=ah):((yC kvs k v).map (·.1)).Nodup:=by
 rw[qv v h,cB]
 exact zbi hn (zcP h)
theorem zbZ{p:κ × V}{r:List (κ × V)}(e:¬ p.1=k):xj (p :: r) k=p :: xj r k:=by
 unfold xj
 rw[mW,ao (by simp[e])]
theorem zcQ:∀ {kvs:List (κ × V)} {k:κ},¬ k∈kvs.map (·.1)->xj kvs k=kvs
 | [],_,_=>rfl
 | p :: r,k,h=>by
  have h':¬ k∈r.map (·.1):=λm=>by
   obtain⟨q,hq,e⟩:=bP.mp m
   exact h (bP.mpr ⟨q,bE.mpr (mX hq),e⟩)
  rw[zbZ λe=>h (bP.mpr ⟨p,bE.mpr (bZ rfl),e⟩),zcQ h']
theorem zb0{kvs:List (κ × V)}{p:κ × V}(h:p∈xj kvs k):p∈kvs:=(eW.mp h).1
end
end L2
set_option Elab.async false
set_option linter.all false
set_option maxRecDepth 100000
set_option maxHeartbeats 4000000
namespace L2
open PySem PySem.Spec PyProof.Rows
def Cx.comp(X:Cx)(scope:aB)(cl:List (Str × ac))(C:ac)(N:List Str)(fp:List ac)(s:ag)(H:Hp):Cx :=
 { X with env:=compEnvC scope cl C X.env,N:=N,s₀:=s,H₀:=H,outer:=X.stack,ex:=fp,fn:=λ_=>am,pn:=[],xe:=λ_ _=>False }
structure Zt(X:Cx)(scope:aB)(cl:List (Str × ac))(ix:List Nat):Prop where
 clos:closureFor scope X.env=pure cl
 nocell:∀y∈scope.names,y.2≠.cell
 kind:scope.kind=.function
 names:∀y∈scope.names,y.2=.local->scope.names.lookup y.1=aa .local
 sub:∀y c,cl.lookup y=aa c->X.env.cells.lookup y=aa c
 has:∀y,((relabel scope X.env).names.lookup y=aa .cell\/(relabel scope X.env).names.lookup y=aa .free)->∃c,cl.lookup y=aa c
 cap:∀i∈ix,∃y,X.N[i]?=aa y/\(X.env.kindOf y=aa .cell\/X.env.kindOf y=aa .free)/\((relabel scope X.env).names.lookup y=aa .cell\/(relabel scope X.env).names.lookup y=aa .free)
def qx(scope:aB)(env:Env):List (Str × ac):=scope.names.foldl (λcs y=>if y.2 == .free then (y.1,(env.cells.lookup y.1).getD 0) :: cs else cs) []
def zbj(osc:aB)(N:List Str)(sc:aB)(ix:List Nat):Bool :=
 sc.kind == .function && sc.names.all (λy=>y.2 != .cell && (y.2 != .local || sc.names.lookup y.1 == aa .local) && (y.2 != .free || osc.names.lookup y.1 == aa .cell || osc.names.lookup y.1 == aa .free)) &&
  ix.all λi=>match N[i]? with
   | some y=>sc.names.lookup y == aa .free
   | none=>am
theorem wY{l:List (Str × NameKind)}{y:Str}(h:l.lookup y=aa k):(y,k)∈l:=eY h
theorem ku{env:Env}:∀ {names:List (Str × NameKind)} {x:Str} {k:NameKind},(names.map λ(n,k)=>if (k == dg && env.scope.kind == .function && env.kindOf n == aa .cell) then (n,mL) else (n,k)).lookup x=aa k ->
  ∃k',names.lookup x=aa k'/\(k'=.free\/k'=k)
 | [],_,_,h=>by simp at h
 | (n,k') :: r,x,k,h=>by
  have ih:=@ku env r x k
  rw[bM] at h
  cases hx:x == n with
  | true =>
   by_cases hc:(k' == dg && env.scope.kind == .function && env.kindOf n == aa .cell)=af
   ·have e:k'=.free:=by
     have:=(ck _ _ ▸ (ck _ _ ▸ hc).1).1
     simpa using this
    exact⟨k',by simp[cq,hx],.inl e⟩
   ·simp only[ak hc,cq,hx] at h
    exact⟨k',by simp[cq,hx],.inr (bV h)⟩
  | false =>
   have h':(r.map λ(n,k)=>if (k == dg && env.scope.kind == .function && env.kindOf n == aa .cell) then (n,mL) else (n,k)).lookup x=aa k:=by
    by_cases hc:(k' == dg && env.scope.kind == .function && env.kindOf n == aa .cell)=af
    ·simp only[ao hc,cq,hx] at h;exact h
    ·simp only[ak hc,cq,hx] at h;exact h
   obtain⟨q,e,r'⟩:=ih h'
   exact⟨q,by simp only[cq,hx];exact e,r'⟩
theorem YA{env:Env}:∀ {names:List (Str × NameKind)} {x:Str},names.lookup x=aa .free ->
  ((names.map λ(n,k)=>if (k == dg && env.scope.kind == .function && env.kindOf n == aa .cell) then (n,mL) else (n,k)).lookup x=aa .cell \/
   (names.map λ(n,k)=>if (k == dg && env.scope.kind == .function && env.kindOf n == aa .cell) then (n,mL) else (n,k)).lookup x=aa .free)
 | [],_,h=>by simp at h
 | (n,k') :: r,x,h=>by
  have ih:=@YA env r x
  rw[bM]
  cases hx:x == n with
  | true =>
   simp only[cq,hx] at h
   cases h
   by_cases hc:(dg == dg && env.scope.kind == .function && env.kindOf n == aa .cell)=af
   ·left;simp only[ao hc,cq,hx]
   ·right;simp only[ak hc,cq,hx]
  | false =>
   simp only[cq,hx] at h
   by_cases hc:(k' == dg && env.scope.kind == .function && env.kindOf n == aa .cell)=af
   ·simp only[ao hc,cq,hx];exact ih h
   ·simp only[ak hc,cq,hx];exact ih h
theorem V6{env:Env}:∀(l:List (Str × NameKind)) (cs:List (Str × ac)),(∀y∈l,y.2=.free->∃c,env.cells.lookup y.1=aa c) ->
  (∀y c,cs.lookup y=aa c->env.cells.lookup y=aa c)->∀y c,(l.foldl (λcs y=>if y.2 == .free then (y.1,(env.cells.lookup y.1).getD 0) :: cs else cs) cs).lookup y=aa c->env.cells.lookup y=aa c
 | [],_,_,h,y,c,e=>h y c e
 | z :: r,cs,hl,h,y,c,e=>by
  rw[eA] at e
  refine V6 r _ (λy hy=>hl y (br _ hy)) (λy' c' e'=>?_) y c e
  by_cases hz:z.2=.free
  ·obtain⟨c0,h0⟩:=hl z bt hz
   have hb:(z.2 == dg)=af:=by simpa using hz
   rw[ao hb,h0,cq] at e'
   cases hq:y' == z.1 with
   | true =>
    rw[hq] at e'
    have e2:y'=z.1:=by simpa using hq
    cases e'
    rw[e2];exact h0
   | false=>rw[hq] at e';exact h _ _ e'
  ·have hb:(z.2 == dg)=am:=by simpa using hz
   rw[hb] at e'
   exact h _ _ e'
theorem KQ{env:Env}:∀(l:List (Str × NameKind)) (cs:List (Str × ac)) (y:Str),((∃c,cs.lookup y=aa c)\/(y,dg)∈l) ->
  ∃c,(l.foldl (λcs y=>if y.2 == .free then (y.1,(env.cells.lookup y.1).getD 0) :: cs else cs) cs).lookup y=aa c
 | [],_,_,h=>h.elim id λz=>nomatch z
 | z :: r,cs,y,h=>by
  rw[eA]
  refine KQ r _ y ?_
  rcases h with ⟨c,h⟩ | h
  ·left
   by_cases hz:(z.2 == dg)=af
   ·rw[ao hz,cq]
    cases y == z.1 with
    | true=>exact⟨_,rfl⟩
    | false=>exact⟨c,h⟩
   ·rw[ak hz];exact⟨c,h⟩
  ·rcases bE.mp h with h | h
   ·left
    subst h
    rw[ao (by rfl),cq]
    simp
   ·exact .inr h
theorem JI{env:Env}:∀(l:List (Str × NameKind)) (cs:List (Str × ac)),(∀y∈l,y.2=.free->∃c,env.cells.lookup y.1=aa c) ->
  forIn (m:=Sem) l cs (λx r=>match x with | (name,kind)=>if (kind == dg)=af then do let c <-cellOf env name;pure (gb ((name,c) :: r)) else pure (gb r)) =
   pure (l.foldl (λcs y=>if y.2 == .free then (y.1,(env.cells.lookup y.1).getD 0) :: cs else cs) cs)
 | [],_,_=>rfl
 | (n,k) :: r,cs,h=>by
  rw[nK,eA]
  by_cases hz:(k == dg)=af
  ·obtain⟨c,hc⟩:=h (n,k) bt (by simpa using hz)
   have e:cellOf env n=pure c:=by unfold cellOf;rw[hc]
   simp only[hz,if_true,e,pure_bind]
   rw[JI r _ λy hy=>h y (br _ hy)]
   simp only[hc,pN]
  ·simp only[hz,if_false,pure_bind]
   exact JI r _ λy hy=>h y (br _ hy)
theorem YB(ok:X.Ok)(h:zbj osc N scope ix=af)(hs:X.env.scope=osc)(hN:X.N=N):Zt X scope (qx scope X.env) ix:=by
 subst hs hN
 unfold zbj at h
 rw[ck,ck,iV,iV] at h
 obtain⟨⟨h1,h2⟩,h3⟩:=h
 have p:∀y∈scope.names,y.2≠.cell/\(y.2=.local->scope.names.lookup y.1=aa .local)/\(y.2=.free->X.env.kindOf y.1=aa .cell\/X.env.kindOf y.1=aa .free):=λy hy=>by
  have q:=h2 y hy
  rw[ck,ck] at q
  obtain⟨⟨q1,q2⟩,q3⟩:=q
  refine⟨by simpa using q1,λe=>?_,λe=>?_⟩
  ·rw[e] at q2;simpa using q2
  ·rw[e] at q3
   have q3':X.env.scope.names.lookup y.1=aa .cell\/X.env.scope.names.lookup y.1=aa .free:=by simpa using q3
   exact q3'
 have f:∀y∈scope.names,y.2=.free->∃c,X.env.cells.lookup y.1=aa c:=λy hy e=>ok.has y.1 ((p y hy).2.2 e)
 refine⟨?_,λy hy=>(p y hy).1,by simpa using h1,λy hy=>(p y hy).2.1,λy c e=>V6 scope.names [] f (λ_ _ z=>by simp at z) y c e,λy hy=>?_,λi hi=>?_⟩
 ·have e:=JI scope.names [] f
  unfold closureFor qx
  refine Eq.trans (congrArg (λm=>m >>= λs=>(pure s:Sem (List (Str × ac)))) e) ?_
  rw[pure_bind]
 ·refine KQ scope.names [] y (.inr ?_)
  rcases hy with hy | hy
  ·obtain⟨k',e,z | z⟩:=ku hy
   ·subst z;exact wY e
   ·subst z;exact absurd rfl (p _ (wY e)).1
  ·obtain⟨k',e,z | z⟩:=ku hy
   ·subst z;exact wY e
   ·subst z;exact wY e
 ·have q:=h3 i hi
  cases hy:X.N[i]? with
  | none=>rw[hy] at q;cases q
  | some y =>
   rw[hy] at q
   have q':scope.names.lookup y=aa .free:=by simpa using q
   exact⟨y,rfl,(p _ (wY q')).2.2 rfl,YA q'⟩
def KR(ix:List Nat)(σ:St):St:=ix.map λi=>(σ[i]?).getD ah
def jT(ix:List Nat)(N:List Str):List Str:=ix.map λi=>(N[i]?).getD ""
section
variable {X:Cx}{pins:List (ac × Obj)}{σ:St}{H:Hp}{s:ag}{scope:aB}{cl:List (Str × ac)}{ix:List Nat}{fp:List ac}{C:ac}{xs:List Str}
theorem Inv.compOk(I:Inv X pins σ H s)(S:Zt X scope cl ix)(hC:C=s.heap.objs.size)(hf:∀b∈fp,ql X pins H b)(hl:∀b∈fp,b < s.heap.objs.size)(N':List Str) :
  (X.comp scope cl C N' fp s H).Ok where
 mod:=I.ok.mod
 kind:=S.kind
 glob:=I.ok.glob
 blt:=I.ok.blt
 above:=nE hC.symm
 inj:=λx y c h1 h2=>I.ok.inj x y c (S.sub x c h1) (S.sub y c h2)
 has:=λx hx=>S.has x hx
 cab:=λx c h1 _=>nomatch h1
 hd:=I.ok.hd
 frames:=I.ok.frames
 stk:=.inl rfl
 exf:=λb hb=>⟨λz=>absurd (hl b hb) (by rw[z];show ¬ C < _;rw[hC];exact fK _),λx c h=>(hf b hb).2.2.2.2.1 x c (S.sub x c h)⟩
 bs:=I.bs
 bsz:=bN I.ok.bsz I.sz
 noex:=λb o e hb=>by
  rcases(hf b hb).2.2.2.1 with z | z
  ·exact I.ok.noex b o e z
  ·exact absurd (b7 (bH e) (bN I.ok.bsz z)) (fK _)
 exfs:=λb hb z=>by
  rcases bE.mp (I.stkSub b z) with e | e
  ·exact(hf b hb).2.1 e
  ·exact(hf b hb).2.2.1 e
 funs:=I.stack
 frf:=I.stkFree
theorem Inv.comp{h₁:av}{m₁:Str->Option ae}{t':Nat}(I:Inv X pins σ H s)(S:Zt X scope cl ix)(hC:C=s.heap.objs.size)(hf:∀b∈fp,ql X pins H b)(hl:∀b∈fp,b < s.heap.objs.size)
  (hn:h₁.Ns C m₁) (hk:∀b o,s.heap.get? b=aa o->h₁.get? b=aa o) :
  Inv (X.comp scope cl C (xs ++ jT ix X.N) fp s H) [] (bD xs.length ah ++ KR ix σ) H { s with heap:=h₁,toks:=t' } where
 ok:=I.compOk S hC hf hl _
 os:=rfl
 bare:=I.bare
 base:=Un.kept hk
 loc:=by
  refine⟨m₁,hn,λi y v e1 e2 e3=>?_⟩
  by_cases hi:i < xs.length
  ·rw[dZ (by simpa using hi),mF,ao hi] at e2
   cases e2
  ·have e1':(xs ++ jT ix X.N)[i]?=aa y:=e1
   rw[dU (by lia)] at e1'
   rw[dU (by rw[dh];lia),dh] at e2
   generalize i - xs.length=j at e1' e2
   unfold jT at e1'
   unfold KR at e2
   rw[bw] at e1' e2
   cases hj:ix[j]? with
   | none=>rw[hj] at e1';cases e1'
   | some k =>
    rw[hj] at e1' e2
    obtain⟨y',c1,c2,c3⟩:=S.cap k (cE hj)
    have ey:y'=y:=by
     have q:(X.N[k]?).getD ""=y:=bV e1'
     rw[c1] at q
     exact q
    subst ey
    have ev:σ[k]?=aa (aa v):=by
     have q:(σ[k]?).getD ah=aa v:=bV e2
     cases hs:σ[k]? with
     | none=>rw[hs] at q;cases q
     | some o=>rw[hs] at q;exact congrArg aa q
    obtain⟨m,hm,hv⟩:=I.loc
    obtain⟨u,r,l⟩:=hv k y' v c1 ev (c2.elim (λz=>.inr (.inl z)) λz=>.inr (.inr z))
    refine⟨u,r,.inr ⟨c3,?_⟩⟩
    rcases l with ⟨l1,_⟩ | ⟨_,c,lc,⟨o,ho,hd⟩⟩
    ·rcases c2 with z | z <;> (rw[l1] at z;cases z)
    ·obtain⟨c',hc'⟩:=S.has y' c3
     have e:=S.sub _ _ hc'
     rw[lc] at e
     cases e
     exact⟨c,hc',o,hk _ _ ho,hd⟩
 cell:=λx c e=>by
  obtain⟨v,o,ho,hd⟩:=I.cell x c (S.sub x c e)
  exact⟨v,o,hk _ _ ho,hd⟩
 free:=I.hok.fresh (nE hC.symm)
 freeC:=λx c e=>I.freeC x c (S.sub x c e)
 pin:=λp hp=>absurd (show p∈([]:List (ac × Obj)) from hp) (by simp)
 hok:=I.hok.kept hk
 len:=by
  show (bD xs.length ah ++ KR ix σ).length=(xs ++ jT ix X.N).length
  rw[bn,bn,dh,KR,jT,bo,bo]
theorem Inv.uncomp{σ':St}{H':Hp}{N':List Str}{h':av}(I:Inv X pins σ H s)(hC:C=s.heap.objs.size)(hf:∀b∈fp,ql X pins H b)
  (J:Inv (X.comp scope cl C N' fp s H) [] σ' H' s') (hb:cP C s'.heap h'):Inv X pins σ H' { s' with heap:=h' }:=by
 have lt:∀b o,s.heap.get? b=aa o->b≠C:=λb o e=>by
  rw[hC];exact bU (bH e)
 have B:Un (frs X.stack) fp H H' s.heap s'.heap:=J.base
 refine I.call' (s':={ s' with heap:=h' }) (ch:=fp) J.os ?_ ?_ J.bare ?_
 ·exact⟨λb o e n h1 h2=>(hb.2 b (lt b o e)).trans (B.keep b o e n h1 h2),λb o e n h1 h2=>by
   obtain⟨sl,q⟩:=B.slot b o e n h1 h2
   exact⟨sl,(hb.2 b (lt b o e)).trans q⟩,B.free,λb o e h1=>by
   obtain⟨o',q⟩:=B.there b o e h1
   exact⟨o',(hb.2 b (lt b o e)).trans q⟩,B.tups,B.frzs,B.tbls⟩
 ·intro b o e
  refine(J.hok b o e).stay (λc u hc q=>(hb.2 c ?_).trans q) (λ_ q=>q) λ_ _ q=>q
  have hC0:H' C=ah:=J.free
  rintro rfl
  rcases hc with rfl | hc
  ·rw[hC0] at e;cases e
  ·rw[hC0] at hc;cases hc
 ·intro b hb'
  obtain⟨f0,f1,f2,f3,f4,f5⟩:=hf b hb'
  exact⟨f3,f1,f4,f5⟩
end
def PTs(X:Cx)(ifs:List aA)(t:TT):Prop :=
 ∀(pins:List (ac × Obj)) (s:ag) (σ:St) (H:Hp) (Q:Bool->Hp->Prop),Inv X pins σ H s->t σ H Q ->
  wpAny (model X.prog X.w) X.A (forIn ifs af λc r=>if r=af then do let ok <-isTrue c X.env (eval c X.env);pure (gb ok) else pure (gb r)) (TP X pins σ Q) X.xe s
def KS:TT:=λ_ H Q=>Q af H
theorem YC :PTs X [] KS:=λ_ _ _ H _ I h=>wpAny_tests_nil ⟨H,I,h⟩
theorem zeF(h:PT X c t):PTs X [c] t:=λpins s σ H Q I q=>wpAny_tests_one (h pins s σ H Q I q)
section
variable {prog:au}{w:aw}{A:ax}{R:aC->ag->Prop}{s:ag}
theorem JJ{elt target iter:aA}{ifs:List aA}{scope:aB}{pos:Pos}{it acc:ae}{env:Env}(W:Nat->ag->Prop){EE:ae->ag->Prop}
  (hE:∀e s',EE e s'->notedBy (model prog w) A env (λe s'=>R (.error e) s') e s')
  (turn:∀n s,W n s->wpAny (model prog w) A (pyNext it) (λr s₁=>match r with
   | none=>R (.ok .next) s₁
   | some v=>wpAny (model prog w) A (letOwnedTupleGo target it v) (λ_ t₁=>wpAny (model prog w) A (assign target env v) (λ_ s₂ =>
     wpAny (model prog w) A (forIn ifs af λc r=>if r=af then do let ok <-isTrue c env (eval c env);pure (gb ok) else pure (gb r)) (λok s₃ =>
      if ok=af then wpAny (model prog w) A (eval elt env) (λx s₄=>wpAny (model prog w) A (call (.builtin "list.append") [acc,x]) (λ_ s₅=>∃m,m < n/\W m s₅) EE s₄) EE s₃
      else ∃m,m < n/\W m s₃) EE s₂) EE t₁) EE s₁) EE s)
  (n:Nat) (h:W n s):codeAny (model prog w) A (.compLoop (.ListComp elt [⟨target,iter,ifs,0⟩] scope pos) 0 it acc env) R s:=by
 refine codeAny_loop rfl W (λn s hW=>?_) n h
 show wpAny _ A ((compTurn (.ListComp elt [⟨target,iter,ifs,0⟩] scope pos) 0 it acc env).onRaise (λx=>do noteFrame x env;theTreesLotGoes x)) _ _ s
 refine wpAny_noted (dG ?_ (λ_ _ q=>q) hE)
 rw[compTurn_list]
 refine ba (wpAny_standAt (ba (thn (turn n s hW) λr s₁ h₁=>?_)))
 cases r with
 | none=>exact bg h₁
 | some v =>
  refine ba (thn h₁ λ_ t₁ k₁=>?_)
  refine ba (thn k₁ λ_ s₂ h₂=>ba (thn h₂ λok s₃ h₃=>?_))
  cases ok with
  | false=>exact bg ⟨rfl,h₃⟩
  | true=>exact ba (ba (thn h₃ λx s₄ h₄=>ba (thn h₄ λ_ s₅ h₅=>bg (bg ⟨rfl,h₅⟩))))
end
def qf(wi:TI)(g:TG)(tt:TT)(te:TE)(k:Nat)(ix:List Nat):TE:=λσ H Q=>wi σ H λJ H1=>∀D,H1 D=ah ->
 ∃W:Nat->Nat->List V->St->Hp->Prop,(∃m,W 0 m [] (bD k ah ++ KR ix σ) (upd H1 D (.lst [])))/\∀i m ys τ H,W i m ys τ H->H D=aa (.lst ys) /\
  ((J.stop i H/\Q (.ref D) H)\/(J.go i H/\ys.length < sizeLine/\∃N:V->St->Hp->Prop,
   (∀v τ' H',N v τ' H'->H' D=aa (.lst ys)/\∃m',m' < m/\W (i + 1) m' (ys ++ [v]) τ' (upd H' D (.lst (ys ++ [v]))))/\∃Nf:St->Hp->Prop,(∀τ' H',Nf τ' H'->∃m',m' < m/\W (i + 1) m' ys τ' H') /\
   ∀x H',J.yld i H x H'->g x τ H' λτ2 H2=>tt τ2 H2 λb H3=>if b=af then te τ2 H3 λv H4=>N v τ2 H4 else Nf τ2 H3))
section
variable {X:Cx}{elt iter tg:aA}{ifs:List aA}{scope:aB}{pos:Pos}{cl:List (Str × ac)}{ix:List Nat}{xs:List Str}{wi:TI}{g:TG}{tt:TT}{te:TE}
theorem WH(S:Zt X scope cl ix)(hc:X.calm=af)(hi:PI X tg iter wi)
  (hg:∀C fp s H,PG (X.comp scope cl C (xs ++ jT ix X.N) fp s H) tg g) (ht:∀C fp s H,PTs (X.comp scope cl C (xs ++ jT ix X.N) fp s H) ifs tt)
  (he:∀C fp s H,PE (X.comp scope cl C (xs ++ jT ix X.N) fp s H) elt te)
  {s:ag} {σ:St} {H:Hp} {Q:VK} (I:Inv X pins σ H s) (h:qf wi g tt te xs.length ix σ H Q) {RR:ae->ac->aC->ag->Prop}
  (hR:∀v u s' C,RelV v u->(∃H',Q v H'/\(∃m,s'.heap.Ns C m)/\(∀h',cP C s'.heap h'->Inv X pins σ H' { s' with heap:=h' })/\ql X pins H' C)->RR u C (.ok .next) s') :
  wpAny (model X.prog X.w) X.A (eval iter X.env) (λx s₁=>wpAny (model X.prog X.w) X.A (pyIter x) (λit s₂=>wpAny (model X.prog X.w) X.A (newList []) (λacc s₃ =>
   wpAny (model X.prog X.w) X.A (newFunctionEnv scope X.env.globals cl [] X.env.qual ah .none (aa X.env)) (λcenv s₄ =>
    codeAny (model X.prog X.w) X.A (.compStart (.ListComp elt [⟨tg,iter,ifs,0⟩] scope pos) 0 it acc { cenv with scope:=relabel scope X.env }) (RR acc cenv.locals) s₄) X.xe s₃) X.xe s₂) X.xe s₁) X.xe s:=by
 refine thn (hi pins s σ H _ I h) λv s1 h1=>thn h1 λitv s2 h2=>?_
 obtain⟨it,fp,tn,J,H2,e,I2,T,st2,f2,hW⟩:=h2
 subst e
 refine cV (wpAny_newFunctionEnv S.nocell (λy hy=>nomatch hy) (λh₁ hns₁ hsb₁=>?_) S.kind)
 dsimp only at hns₁ hsb₁ ⊢
 obtain⟨W,⟨m0,w0⟩,turn⟩:=hW s2.heap.objs.size I2.fresh
 have I3:=I2.lnew (t':=s2.toks) (ys:=[]) (its:=[]) .nil (bW _)
 have hl3:∀b∈fp,b < s2.heap.objs.size:=λb hb=>by
  obtain⟨o,e,_⟩:=T.obj _ _ st2 b hb
  exact bH e
 generalize hs3:({ s2 with heap:=s2.heap.push { cls:=.type "list",data:=.seq ([]:List ae).toArray },toks:=s2.toks }:ag)=s3 at I3
 have hs3h:s3.heap=s2.heap.push { cls:=.type "list",data:=.seq ([]:List ae).toArray }:=by rw[<-hs3]
 have hsz:s3.heap.objs.size=s2.heap.objs.size + 1:=by rw[hs3h,eR]
 have f3:∀b∈fp,ql X pins (upd H2 s2.heap.objs.size (.lst [])) b:=λb hb=>by
  obtain⟨q0,q⟩:=f2 b hb
  exact⟨by rw[zk (bU (hl3 b hb))];exact q0,q⟩
 have hl3':∀b∈fp,b < s3.heap.objs.size:=λb hb=>by rw[hsz];exact Nat.lt_succ_of_lt (hl3 b hb)
 rw[<-hs3h] at hns₁ hsb₁ ⊢
 have hk:∀b o,s3.heap.get? b=aa o->h₁.get? b=aa o:=λb o e=>(hsb₁.2 b (bU (bH e))).trans (bd _ e)
 have hk2:∀b o,s2.heap.get? b=aa o->s3.heap.get? b=aa o:=λb o e=>by rw[hs3h];exact bd _ e
 have J0:=I3.comp (xs:=xs) (t':=s2.toks) (C:=s3.heap.objs.size) S rfl f3 hl3' hns₁ hk
 have st3:tn 0 h₁:=T.keep _ _ _ st2 λb _ o e=>hk b o (hk2 b o e)
 have loop:∀tk,codeAny (model X.prog X.w) X.A (.compLoop (.ListComp elt [⟨tg,iter,ifs,0⟩] scope pos) 0 (.ref it) (.ref s2.heap.objs.size) (compEnvC scope cl s3.heap.objs.size X.env))
   (RR (.ref s2.heap.objs.size) s3.heap.objs.size) { s3 with heap:=h₁,toks:=tk }:=by
  intro tk
  refine JJ (EE:=λ_ _=>False) (λn s'=>∃i ys τ H',Inv (X.comp scope cl s3.heap.objs.size (xs ++ jT ix X.N) fp s3 (upd H2 s2.heap.objs.size (.lst []))) [] τ H' s'/\tn i s'.heap/\(∀b∈fp,H' b=ah)/\W i n ys τ H')
   (λ_ _ z=>z.elim) ?_ m0 ⟨0,[],_,_,J0.tok tk,st3,λb hb=>(f3 b hb).1,w0⟩
  rintro n s' ⟨i,ys,τ,H',I',st',fr',w'⟩
  have stat:∀ {H':Hp},(∀b∈fp,H' b=ah)->∀b∈fp,ql (X.comp scope cl s3.heap.objs.size (xs ++ jT ix X.N) fp s3 (upd H2 s2.heap.objs.size (.lst []))) [] H' b:=λhn b hb =>
   ⟨hn b hb,(I'.ok.exf b hb).1,I'.ok.exfs b hb,.inl hb,(I'.ok.exf b hb).2,λp hp=>absurd (show p∈([]:List (ac × Obj)) from hp) (by simp)⟩
  obtain⟨hD,⟨stop,q⟩ | ⟨go,hz,N,hN,Nf,hNf,step⟩⟩:=turn i n ys τ H' w'
  ·refine thn (T.done (X.comp scope cl s3.heap.objs.size (xs ++ jT ix X.N) fp s3 (upd H2 s2.heap.objs.size (.lst []))) rfl rfl rfl hc i [] s' τ H' _ I' (stat fr') st' stop) λr s4 ⟨hr,I4⟩=>?_
   subst hr
   refine hR (.ref s2.heap.objs.size) _ s4 _ rfl ⟨H',q,?_,λh' hb=>I3.uncomp rfl f3 I4 hb,I3.fpOk (bh _) I4.free⟩
   obtain⟨m,hn,_⟩:=I4.loc
   exact⟨m,hn⟩
  ·refine thn (T.item (X.comp scope cl s3.heap.objs.size (xs ++ jT ix X.N) fp s3 (upd H2 s2.heap.objs.size (.lst []))) rfl rfl rfl hc i [] s' τ H' _ I' (stat fr') st' go) λr s4 ⟨u,hr,h4⟩=>?_
   subst hr
   refine thn h4 λ_ s5 ⟨x,H5,I5,r5,y5,st5,fr5⟩=>?_
   have I5':=I5.pinned (stat fr5) (T.obj _ _ st5)
   refine thn (hg _ _ _ _ _ s5 τ H5 x u _ I5' r5 (step x H5 y5)) λ_ s6 ⟨τ6,H6,I6,q6⟩=>?_
   refine thn (ht _ _ _ _ _ s6 τ6 H6 _ I6 q6) λok s7 ⟨H7,I7,q7⟩=>?_
   have back:∀ {s8:ag} {H8:Hp} {m:Nat} {zs:List V},Inv (X.comp scope cl s3.heap.objs.size (xs ++ jT ix X.N) fp s3 (upd H2 s2.heap.objs.size (.lst []))) ([] ++ Wz fp s5.heap) τ6 H8 s8->W (i + 1) m zs τ6 H8 ->
     ∃i ys τ H',Inv (X.comp scope cl s3.heap.objs.size (xs ++ jT ix X.N) fp s3 (upd H2 s2.heap.objs.size (.lst []))) [] τ H' s8/\tn i s8.heap/\(∀b∈fp,H' b=ah)/\W i m ys τ H':=λ{s8 H8 m zs} I8 w8=>by
    refine⟨i + 1,zs,τ6,H8,I8.unpinned,T.keep _ _ _ st5 λb hb o e=>(I8.pin (b,o) (b6 _ (b6 _ (kn hb e)))).1,λb hb=>?_,w8⟩
    obtain⟨o,e,d⟩:=T.obj _ _ st5 b hb
    exact(I8.pin (b,o) (b6 _ (b6 _ (kn hb e)))).2.1
   cases ok with
   | false =>
    rw[ak bG] at q7 ⊢
    obtain⟨m',hm,w7⟩:=hNf _ _ q7
    exact⟨m',hm,back I7 w7⟩
   | true =>
    rw[ao rfl] at q7 ⊢
    refine thn (he _ _ _ _ _ s7 τ6 H7 _ I7 q7) λy s8 ⟨v8,H8,I8,r8,n8⟩=>?_
    obtain⟨hD8,m',hm,w8⟩:=hN _ _ _ n8
    refine thn (yF _ s8 τ6 H8 (.ref s2.heap.objs.size) [v8] (.ref s2.heap.objs.size) [y] (λ_ Hn=>∃m,m < n/\W (i + 1) m (ys ++ [v8]) τ6 Hn) I8 rfl (.cons r8 .nil) ⟨_,ys,v8,rfl,rfl,hD8,hz,m',hm,w8⟩) λ_ s9 ⟨_,H9,I9,_,m9,hm9,w9⟩=>?_
    exact⟨m9,hm9,back I9 w9⟩
 have e3:∀tk,({ s3 with heap:=h₁,toks:=tk }:ag)={ s2 with heap:=h₁,toks:=tk }:=λtk=>by rw[<-hs3]
 have loop':∀tk,codeAny (model X.prog X.w) X.A (.compLoop (.ListComp elt [⟨tg,iter,ifs,0⟩] scope pos) 0 (.ref it) (.ref s2.heap.objs.size) (compEnvC scope cl s3.heap.objs.size X.env))
   (RR (.ref s2.heap.objs.size) s3.heap.objs.size) { s2 with heap:=h₁,toks:=tk }:=λtk=>by rw[<-e3];exact loop tk
 exact codeAny_compStart_list (loop' _) (T.self _ 0 _ _ _ st3 (loop' _))
theorem JK(hc:X.calm=af)(hD:zbj osc N scope ix=af)(hi:PI X tg iter wi)
  (hg:∀C fp s H,PG (X.comp scope (qx scope X.env) C (xs ++ jT ix X.N) fp s H) tg g) (ht:∀C fp s H,PTs (X.comp scope (qx scope X.env) C (xs ++ jT ix X.N) fp s H) ifs tt)
  (he:∀C fp s H,PE (X.comp scope (qx scope X.env) C (xs ++ jT ix X.N) fp s H) elt te) (hsc:X.env.scope=osc:=by rfl) (hN:X.N=N:=by rfl) (hs:∀x,foldedSetIterable iter X.env x=pure x:=by intro _;rfl) :
  PE X (.ListComp elt [⟨tg,iter,ifs,0⟩] scope pos) (qf wi g tt te xs.length ix):=by
 intro pins s σ H Q I h
 have S:=YB I.ok hD hsc hN
 rw[eval_ListComp]
 refine mj (use:=ah) rfl hs S.clos S.kind S.names (WH S hc hi hg ht he I h (RR:=λacc C=>compPost (model X.prog X.w) X.A X.xe ah (EP X pins σ Q) acc C) ?_)
 rintro v u s' C r ⟨H',q,⟨m,hn⟩,hI,_⟩
 exact⟨m,hn,λh' hb=>⟨v,H',hI h' hb,r,q⟩⟩
theorem Z3{N:List Str}{y:Str}{py:Pos}{j:Nat}{spos:Pos}(hNd:X.N.Nodup)(hj:X.N[j]?=aa y)(hc:X.calm=af)(hy:Loc X.env.scope y)(hD:zbj osc N scope ix=af)(hi:PI X tg iter wi)
  (hg:∀C fp s H,PG (X.comp scope (qx scope X.env) C (xs ++ jT ix X.N) fp s H) tg g) (ht:∀C fp s H,PTs (X.comp scope (qx scope X.env) C (xs ++ jT ix X.N) fp s H) ifs tt)
  (he:∀C fp s H,PE (X.comp scope (qx scope X.env) C (xs ++ jT ix X.N) fp s H) elt te) (hsc:X.env.scope=osc:=by rfl) (hN:X.N=N:=by rfl)
  (hsw:swapsWith (.ListComp elt [⟨tg,iter,ifs,0⟩] scope pos) (aa (.Name y py)) spos.line X.env=pure af:=by rfl)
  (hs:∀x,foldedSetIterable iter X.env x=pure x:=by intro _;rfl) (hf:X.fn y=af\/X.env.scope.names.lookup y=aa .local:=by first | exact .inl rfl | exact .inr rfl | assumption) :
  PS X (.Assign [.Name y py] (.ListComp elt [⟨tg,iter,ifs,0⟩] scope pos) spos) (zK (qf wi g tt te xs.length ix) (zp j)):=by
 intro pins s σ H D I h
 have S:=YB I.ok hD hsc hN
 rw[exec_Assign_Name_used _ _ _ _ hsw]
 refine ba (wpAny_standAt (ba ?_))
 show wpAny _ X.A (do let _ <-comprehension (.ListComp elt [⟨tg,iter,ifs,0⟩] scope pos) scope X.env _ (newList []) am (eval iter X.env) (aa (assign (.Name y py) X.env))) _ _ s
 refine ba (thn (mj (use:=aa (assign (.Name y py) X.env)) (Q:=λ_ s'=>SP X pins D .next s') rfl hs S.clos S.kind S.names
  (WH S hc hi hg ht he I h (RR:=λacc C=>compPost (model X.prog X.w) X.A X.xe (aa (assign (.Name y py) X.env)) (λ_ s'=>SP X pins D .next s') acc C) ?_)) λ_ s' hq=>bg (bg hq))
 rintro v u s' C r ⟨H',q,⟨m,hn⟩,hI,f0,f1,f2,f3,f4,f5⟩
 have I':Inv X pins σ H' s':=hI s'.heap (.refl ..)
 show wpAny _ X.A (assign (.Name y py) X.env u) _ _ _
 refine wpAny_assign_Name (VV I' hNd hj hy r (λs2 I2 hx=>?_) hf)
 obtain⟨a,hb,ha⟩:=hx
 have hCa:C≠a:=by
  rcases ha with rfl | ha
  ·exact f1
  ·exact fc (f4 _ _ ha)
 refine⟨m,hn.sameBut hb hCa,λh' hb'=>⟨_,H',?_,q⟩⟩
 exact I2.turned (t':=s2.toks) (λb o hne e=>(hb'.2 b hne).trans e) f0 f1 f3 f4 f5
end
abbrev WI:R2:=λx y H Q=>∃i j,x=.str i/\y=.str j/\i.length + j.length<=sizeLine/\Q (.str (i ++ j)) H
abbrev zeG:R2:=λx y H Q=>y=.non/\Q (.bl (decide (x=.non))) H
abbrev V7:R2:=λx y H Q=>y=.non/\Q (.bl (!decide (x=.non))) H
abbrev RC:=List V->Hp->VK->Prop
abbrev xZ(K:bx):RC:=λxs H Q=>∃x n,xs=[x]/\KC K x H n/\Q (.int n) H
abbrev qo(K:bx):RC:=λxs H Q=>∃x c t b,xs=[x,c]/\Z1 K H x t/\(∃T,c=.ty T/\fM K t (.type T)=aa b)/\Q (.bl b) H
abbrev RM:=V->List V->Hp->VK->Prop
theorem zbk{H:Hp}(h:H p=ah):∃H',H'=upd H p o/\Same H H'/\H' p=aa o:=
 ⟨_,rfl,λb u e=>by rw[zk (zC e h)];exact e,zg⟩
theorem isV(p:ac){H:Hp}(h:H p=ah):Same H (upd H p o):=λb u e=>by rw[zk (zC e h)];exact e
theorem yD:bootBuiltins "len"=aa (.builtin "len"):=by lia
theorem z4:bootBuiltins "isinstance"=aa (.builtin "isinstance"):=by lia
theorem zf6:bootBuiltins "max"=aa (.builtin "max"):=by lia
theorem Zu:bootBuiltins "sorted"=aa (.builtin "sorted"):=by lia
theorem zf7:bootBuiltins "zip"=aa (.type "zip"):=by lia
theorem zay:bootBuiltins "str"=aa (.type "str"):=by lia
theorem zcR:bootBuiltins "int"=aa (.type "int"):=by lia
theorem zbl:bootBuiltins "bool"=aa (.type "bool"):=by lia
theorem wg:bootBuiltins "list"=aa (.type "list"):=by lia
theorem WJ:bootBuiltins "tuple"=aa (.type "tuple"):=by lia
theorem Wn:bootBuiltins "dict"=aa (.type "dict"):=by lia
section
variable {X:Cx}
def big:Int:=10 ^ 200
def yG(_ j:Int):Prop:=0 < j/\j < big
def CMulB(i j:Int):Prop:=(-big < i/\i < big)/\(-big < j/\j < big)
theorem WK{j:Int}(h:j.natAbs < 10 ^ 200):j.natAbs.log2 < 700:=by
 by_cases h0:j.natAbs=0
 ·rw[h0];decide
 ·exact(Nat.log2_lt h0).mpr (b7 h (by lia))
theorem JL{j:Int}(h:-big < j/\j < big):j.natAbs < 10 ^ 200:=by
 have e:big=((10 ^ 200:Nat):Int):=by lia
 rw[e] at h
 lia
theorem CMulB.ok{i j:Int}(h:CMulB i j):IntMulOk i j:=by
 have b:∀k:Int,(-big < k/\k < big)->dD k<=2 ^ 20:=λk hk=>by
  have q:=WK (JL hk)
  unfold dD
  split <;> lia
 exact .of_bits (b i h.1) (b j h.2)
theorem wQ:OpR X (binaryOp .Mult) (rI CMulB λi j=>.int (i * j)):=opI λ_ _ _ _ _ _ _ hc q=>mul_int q hc.ok
theorem zX:OpR X (binaryOp .FloorDiv) (rI yG λi j=>.int (i / j)):=opI λi j _ _ _ _ _ hc q=>by
 have h1:(0:Int) < j:=hc.1
 refine floordiv_int (by lia) ?_ (.inl (mm (pJ (WK (JL ⟨by have:=hc.2;lia,hc.2⟩)) (by lia))))
 rw[Int.fdiv_eq_ediv_of_nonneg i (by lia)]
 exact q
theorem yY:jQ X (.builtin "isinstance") (qo X.K):=by
 intro pins s σ H xs us Q I r h
 obtain⟨x,c,t,b,rfl,ty,⟨T,rfl,e⟩,q⟩:=h
 obtain⟨u,w',rfl,r1,r2⟩:=zcE r
 cases r2
 exact zbS I r1 ty e λtk=>⟨.bl b,H,I.tok tk,rfl,q⟩
def zf8:V->Option Int->Option Int->Hp->VK->Prop:=λx lo hi H Q=>∃z,x=.str z/\z.length<=sizeLine/\Q (.str (gF z lo hi)) H
theorem zcS:SlR X zf8:=by
 intro pins s σ H x v vl vu lo hi sl Q I rx hs pl pu h
 obtain⟨z,rfl,hz,q⟩:=h
 obtain⟨t,rfl⟩:=rx
 obtain⟨o,ho,hc,hd⟩:=hs
 refine⟨"str",_,F.slot_str_getitem.lookup,nX _ _ _,?_⟩
 obtain⟨l,e1,e2⟩:∃l:Option (Int × Tok),vl=partValue l/\lo=l.map (·.1):=by
  cases pl with
  | none=>exact⟨ah,rfl,rfl⟩
  | int i t=>exact⟨aa (i,t),rfl,rfl⟩
 obtain⟨u,e3,e4⟩:∃l:Option (Int × Tok),vu=partValue l/\hi=l.map (·.1):=by
  cases pu with
  | none=>exact⟨ah,rfl,rfl⟩
  | int i t=>exact⟨aa (i,t),rfl,rfl⟩
 subst e1 e2 e3 e4
 exact wpAny_getItem_str_slice (l:=l) (u:=u) (st:=ah) ⟨o,ho,hc,hd⟩ rfl
  (post_val_or_str ⟨bN (Txt.slice_le z _ _) hz,λt' k=>⟨.str (gF z (l.map (·.1)) (u.map (·.1))),H,I.tok k,⟨t',rfl⟩,q⟩⟩)
end
theorem ObjOk.there{H:Hp}(x:ObjOk P w H h a o):∃u,h.get? a=aa u:=by
 cases o with
 | lst xs=>obtain⟨_,_,_,_,e⟩:=x;exact⟨_,e⟩
 | tup xs=>obtain⟨_,_,_,o,e,_⟩:=x;exact⟨_,e⟩
 | dK kvs=>obtain⟨_,_,_,_,o,_,_,e,_⟩:=x;exact⟨_,e⟩
 | dT kvs=>obtain⟨_,_,_,_,o,_,_,e,_⟩:=x;exact⟨_,e⟩
 | set S n=>obtain⟨o,_,_,_,e,_⟩:=x;exact⟨_,e⟩
 | ins C dx fs=>obtain⟨_,_,_,e,_⟩:=x;exact⟨_,e⟩
 | own y=>exact x
 | xd fs=>obtain⟨_,⟨o,_,_,e,_⟩,_⟩:=x;exact⟨_,e⟩
 | rng lo hi=>obtain⟨_,_,_,e⟩:=x;exact⟨_,e⟩
 | frz ob u=>obtain⟨e,_⟩:=x;exact⟨_,e⟩
 | tbl ps=>exact⟨_,(show h.get? a=aa _ from x)⟩
 | met f y=>exact⟨_,(show h.get? a=aa _ from x)⟩
 | ext φ=>obtain⟨_,e,_⟩:=x;exact e
def XF(g h:av)(H:Hp)(e:ac)(cls:ae):Prop :=
 ∃oe vs a0 T oT ts,h.get? e=aa oe/\(oe.cls=cls/\vs[0]?=aa a0)/\oe.data=.fields vs/\vs[1]?=aa (.ref T)/\T≠e/\h.get? T=aa oT/\oT.data=.fields ts/\ts[3]?=aa .none /\
  g.get? e=ah/\g.get? T=ah/\H e=ah/\H T=ah
def CX1(P:au)(w:aw):CXT:=λouter H s E ev s'=>∃e cls H',ev=.ref e/\s'.os=s.os/\AllBare s'.gens/\Un (frs outer) [] H H' s.heap s'.heap/\HOk P w H' s'.heap/\XF s.heap s'.heap H' e cls/\E cls ah H'
theorem jU{g h:av}(k:∀b o,g.get? b=aa o->∃o',h.get? b=aa o')(e:h.get? b=ah):g.get? b=ah:=by
 cases q:g.get? b with
 | none=>rfl
 | some o =>
  obtain⟨o',z⟩:=k b o q
  rw[e] at z;cases z
theorem XF.older{H:Hp}(x:XF g h H e cls)(k:∀b o,g'.get? b=aa o->∃o',g.get? b=aa o'):XF g' h H e cls:=by
 obtain⟨oe,vs,a0,T,oT,ts,h1,h2,h3,h4,h5,h6,h7,h8,h9,h10,h11,h12⟩:=x
 exact⟨oe,vs,a0,T,oT,ts,h1,h2,h3,h4,h5,h6,h7,h8,jU k h9,jU k h10,h11,h12⟩
section
variable {X:Cx}{pins:List (ac × Obj)}{σ:St}{H:Hp}{s:ag}
theorem Inv.stackFields(J:Inv X pins σ H s)(hb:b∈frs X.stack):∃o,s.heap.get? b=aa o/\∀vs,o.data≠.fields vs:=(J.stack.mem hb).2
theorem Inv.there0(hex:X.ex=[])(J:Inv X pins σ H s):∀b o,X.s₀.heap.get? b=aa o->∃o',s.heap.get? b=aa o':=λb o e=>J.base.there b o e (by rw[hex];simp)
theorem Inv.behind{cs:List ac}(hex:X.ex=[])(J:Inv X pins σ H s)(hcs:∀b∈cs,H b=ah/\X.s₀.heap.get? b=ah)
  (hB:∀b o,s.heap.get? b=aa o->b ∉ frs X.stack->b ∉ cs->h2.get? b=aa o) (hF:∀b o,s.heap.get? b=aa o->b∈frs X.stack->∃sl,h2.get? b=aa { o with slots:=sl }) :
  Un X.fs [] X.H₀ H X.s₀.heap h2/\HOk X.prog X.w H h2:=by
 have B:Un X.fs [] X.H₀ H X.s₀.heap s.heap:=by have:=J.base;rw[hex] at this;exact this
 have nL:∀b o,X.s₀.heap.get? b=aa o->b≠X.env.locals:=λb o e=>bU (b7 (bH e) J.ok.above)
 have nC:∀b o,X.s₀.heap.get? b=aa o->b ∉ cs:=λb o e z=>by rw[(hcs b z).2] at e;cases e
 have any:∀b o,s.heap.get? b=aa o->b ∉ cs->∃sl,h2.get? b=aa { o with slots:=sl }:=λb o e n=>by
  by_cases hb:b∈frs X.stack
  ·exact hF b o e hb
  ·exact⟨o.slots,hB b o e hb n⟩
 refine⟨⟨λb o e n h1 _=>?_,λb o e n h1 _=>?_,B.free,λb o e h1=>?_,B.tups,B.frzs,B.tbls⟩,λb u e=>?_⟩
 ·refine hB b o (B.keep b o e n h1 (by simp)) (λz=>?_) (nC b o e)
  rcases bE.mp (J.stkSub b z) with q | q
  ·exact nL b o e q
  ·exact h1 q
 ·obtain⟨sl,q⟩:=B.slot b o e n h1 (by simp)
  obtain⟨sl',q'⟩:=any b _ q (nC b o e)
  exact⟨sl',q'⟩
 ·obtain⟨o',q⟩:=B.there b o e (by simp)
  obtain⟨sl,q'⟩:=any b o' q (nC b o e)
  exact⟨_,q'⟩
 ·refine(J.hok b u e).stay (λc v hc q=>?_) (λ_ q=>q) λ_ _ q=>q
  have hn:H c≠ah:=by
   rcases hc with rfl | hc
   ·rw[e];simp
   ·rw[hc];simp
  exact hB c v q (λz=>hn (J.stkFree c z)) λz=>hn (hcs c z).1
theorem Inv.flown{cs:List ac}(hex:X.ex=[])(J:Inv X pins σ H s)(hcs:∀b∈cs,H b=ah/\X.s₀.heap.get? b=ah)
  (hB:∀b o,s.heap.get? b=aa o->b ∉ frs X.stack->b ∉ cs->B.get? b=aa o) (hF:∀b o,s.heap.get? b=aa o->b∈frs X.stack->∃sl,h2.get? b=aa { o with slots:=sl })
  (he:H e=ah) (he0:X.s₀.heap.get? e=ah) (kb:B.StaysIn h2) (tr:h2.TracedW B e cls a0) :
  Un X.fs [] X.H₀ H X.s₀.heap h2/\HOk X.prog X.w H h2/\XF X.s₀.heap h2 H e cls:=by
 have hk:=J.behind (h2:=h2) hex hcs (λb o q n1 n2=>kb b o (hB b o q n1 n2)) hF
 refine⟨hk.1,hk.2,?_⟩
 obtain⟨oe,vs,T,oT,ts,h1,h2',h3,h4,h5,h6,h7,h8,h9⟩:=tr
 have noT:∀o,s.heap.get? T=aa o->T∈cs:=λo q=>by
  by_cases hb:T∈frs X.stack
  ·obtain⟨o',q',nf⟩:=J.stackFields hb
   obtain⟨sl,z⟩:=hF T o' q' hb
   rw[h7] at z
   have z':oT={ o' with slots:=sl }:=bV z
   exact absurd (by rw[<-h8,z']) (nf ts)
  ·by_cases hc:T∈cs
   ·exact hc
   ·rw[hB T o q hb hc] at h5;cases h5
 refine⟨oe,vs,a0,T,oT,ts,h1,h2',h3,h4,h6,h7,h8,h9,he0,?_,he,?_⟩
 ·cases q:X.s₀.heap.get? T with
  | none=>rfl
  | some o =>
   obtain⟨o',q'⟩:=J.there0 hex T o q
   rw[(hcs T (noT o' q')).2] at q;cases q
 ·cases q:H T with
  | none=>rfl
  | some u =>
   obtain⟨o,z⟩:=(J.hok T u q).there
   rw[(hcs T (noT o z)).1] at q;cases q
theorem zb1{h':av}{e:ac}{cls:ae}{vs:List ae}{E:XK}{EE:ae->ag->Prop}(hst:X.stack=X.env :: X.outer/\X.env.frame=aa X.env.locals)(hex:X.ex=[])(J:Inv X pins σ H s)(hx:Heap.MadeExcOf s.heap h' e cls vs)(hE:E cls ah H) :
  wpAny (model X.prog X.w) X.A (leaving X.env (.ref e)) (λ_ s2=>CX1 X.prog X.w X.outer X.H₀ X.s₀ E (.ref e) s2) EE { s with heap:=h' }:=by
 have fr:s.heap.FunFrames (gC s.heap (frs X.stack)) (X.env :: X.outer):=by
  have q:=iW (as:=frs X.stack) J.stack λenv he a ha=>fT.mpr ⟨env,he,ha⟩
  rw[hst.1] at q ⊢
  exact q
 refine wpAny_leaves_madeW (s:={ s with heap:=h' }) (base:=gC s.heap (frs X.stack)) (h:=s.heap) (by rw[J.ok.frames,hst.1]) hst.2 (λb o q=>lQ _ q) fr hx λh2 t hfl _ _ hup=>?_
 obtain⟨f1,f2,f3,f4⟩:=hfl
 have hF:∀b o,s.heap.get? b=aa o->b∈frs X.stack->∃sl,h2.get? b=aa { o with slots:=sl }:=λb o q hb=>by
  obtain⟨o',q',nf⟩:=J.stackFields hb
  rw[q] at q';cases q'
  exact hup b o (hx.keeps b o q) nf
 obtain⟨r1,r2,r3⟩:=J.flown (cs:=[]) hex (λb z=>nomatch z) (λb o q n _=>i7 _ q n) hF
  (by
   cases q:H e with
   | none=>rfl
   | some u =>
    obtain⟨o,z⟩:=(J.hok e u q).there
    rw[hx.new] at z;cases z)
  (jU (J.there0 hex) hx.new) f1 f4
 exact⟨e,cls,H,rfl,J.os,J.bare,r1,r2,r3,hE⟩
theorem zcT{e:ac}{cls:ae}{E:XK}{EE:ae->ag->Prop}(hst:X.stack=X.env :: X.outer/\X.env.frame=aa X.env.locals)(hex:X.ex=[])(J:Inv X pins σ H s)(xf:XF X.s₀.heap s.heap H e cls)(hE:E cls ah H) :
  wpAny (model X.prog X.w) X.A (leaving X.env (.ref e)) (λ_ s2=>CX1 X.prog X.w X.outer X.H₀ X.s₀ E (.ref e) s2) EE s:=by
 obtain⟨oe,vs,a0,T,oT,ts,h1,h2,h3,h4,h5,h6,h7,h8,h9,h10,h11,h12⟩:=id xf
 have fr:s.heap.FunFrames (gC s.heap (frs X.stack ++ [e,T])) (X.env :: X.outer):=by
  have q:=iW (as:=frs X.stack ++ [e,T]) J.stack λenv he a ha=>dP _ (fT.mpr ⟨env,he,ha⟩)
  rw[hst.1] at q ⊢
  exact q
 refine wpAny_leaves_onW (base:=gC s.heap (frs X.stack ++ [e,T])) (a0:=a0) (by rw[J.ok.frames,hst.1]) hst.2
  ⟨λb o q=>lQ _ q,fR _ (b6 _ (by simp)),fr,oe,vs,T,oT,ts,h1,h2,h3,h4,fR _ (b6 _ (by simp)),h5,h6,h7,h8⟩ λh2' hfl hup=>?_
 obtain⟨f1,f2,f3,f4⟩:=hfl
 have hF:∀b o,s.heap.get? b=aa o->b∈frs X.stack->∃sl,h2'.get? b=aa { o with slots:=sl }:=λb o q hb=>by
  obtain⟨o',q',nf⟩:=J.stackFields hb
  rw[q] at q';cases q'
  exact hup b o q nf
 obtain⟨r1,r2,r3⟩:=J.flown (cs:=[e,T]) hex (λb z=>by
   have z':b=e\/b=T:=by simpa using z
   rcases z' with rfl | rfl
   ·exact⟨h11,h9⟩
   ·exact⟨h12,h10⟩) (λb o q n n2=>i7 _ q λz=>(bJ.mp z).elim n n2) hF h11 h9 f1 f4
 exact⟨e,cls,H,rfl,J.os,J.bare,r1,r2,r3,hE⟩
end
def zcU(X:Cx)(E:XK):Prop:=∀(pins:List (ac × Obj)) (σ:St) (H:Hp) (s:ag) (h':av) (e:ac) (cls:ae) (vs:List ae),Inv X pins σ H s->Heap.MadeExcOf s.heap h' e cls vs->E cls ah H->X.xe (.ref e) { s with heap:=h' }
section
variable {P:au}{w:aw}{K:bx}{mg:Str->Option ae}{base:av}{N:List Str}{qual:Str}{scope:aB}{f:ac}{cd:ae}{A:ax}{outer:List Env}{s₀:ag}{H₀:Hp}{E:XK}
theorem vR:vO (CX1 P w) (qm (CX1 P w) P w K mg base N qual scope f cd A outer s₀ H₀ E) E:=by
 intro pins σ H s ev s' I hcx
 obtain⟨e,cls,H',rfl,os,bare,un,hok,xf,hE⟩:=hcx
 have J:=I.call' (ch:=[]) os un hok bare (λb z=>nomatch z)
 exact zcT (X:=qm (CX1 P w) P w K mg base N qual scope f cd A outer s₀ H₀ E) ⟨rfl,rfl⟩ rfl J (xf.older (I.there0 rfl)) hE
theorem zbm:zcU (qm (CX1 P w) P w K mg base N qual scope f cd A outer s₀ H₀ E) E:=by
 intro pins σ H s h' e cls vs I hx hE
 exact zb1 (X:=qm (CX1 P w) P w K mg base N qual scope f cd A outer s₀ H₀ E) ⟨rfl,rfl⟩ rfl I hx hE
theorem zhj:PassesOwn (model P w) (qm (CX1 P w) P w K mg base N qual scope f cd A outer s₀ H₀ E).A (qm (CX1 P w) P w K mg base N qual scope f cd A outer s₀ H₀ E).env (qm (CX1 P w) P w K mg base N qual scope f cd A outer s₀ H₀ E).xe:=PassesOwn.leaving
end
abbrev KU:List ae:=[.type "ValueError",.type "Exception",.type "BaseException",.type "object"]
abbrev Xd:String:="ValueError.__new__"
def WL(C:ac)(ta:TA)(E:XK):TS:=λ_ σ H=>ta σ H λvs H1=>vs.length<=sizeLine/\E (.ref C) ah H1
theorem zeH{K:bx}{h:av}{C:ac}{bmB:List ae}(X:K.In h)(q:pq K C bmB newId=af) :
  ∃bm N nm qn bs hdct sn sub ab col dd k0 k1 k2 k3 k5 mN,h.get? C=aa (excClassObj nm qn C N bs bm hdct sn sub ab col dd k0 k1 k2 k3 k5 newId)/\h.Ns N mN/\mN "__init__"=ah/\OwnTail h bmB bm:=by
 unfold pq at q
 split at q
 case h_2=>cases q
 rename_i dd cd sl ho
 split at q
 case h_2=>cases q
 rename_i C' bm k0 k1 k2 k3 n k5 hm hs
 rw[ck,ck,ck,ck,ck] at q
 obtain⟨⟨⟨⟨⟨q1,q2⟩,q3⟩,q4⟩,q5⟩,q6⟩:=q
 obtain rfl:C'=C:=by simpa using q1
 obtain rfl:n=newId:=by simpa using q2
 obtain⟨nm,bs,mro,ns,qn,hd,sn,sub,ab,col,del⟩:=cd
 have hdel:del=am:=by simpa using q3
 have hm':mro=.ref C' :: bm:=hm
 subst hdel hm'
 have hsl:sl=#[k0,k1,k2,k3,aa (.builtin n),k5]:=by
  apply Array.ext'
  exact hs
 subst hsl
 exact⟨bm,ns,nm,qn,bs,hd,sn,sub,ab,col,dd,k0,k1,k2,k3,k5,_,X _ _ ho,.of_isNs (W.isNs_of_in X q5),W.nsMap_none_of_in X q5 (by simpa using q6),W.tail_of_in X q4⟩
section
variable {X:Cx}{x:Str}{C:ac}{np cpos pos:Pos}{e₀:aA}{rest:List aA}{ta:TA}{E:XK}
theorem KW(hc:X.calm=af)(q:pq X.K C KU Xd=af)(hr:zcU X E)(hg:Gl X x)(hm:X.mg x=aa (.ref C))(ha:PA X (e₀ :: rest) ta)
  (he:starEach (e₀ :: rest) X.env=(am,eval e₀ X.env) :: starEach rest X.env:=by rfl) (hp:(backTo cpos (starEach rest X.env)).any (·.1)=am:=by rfl) (hd:(x == ("__debug__":Str))=am:=by lia) :
  PS X (.Raise (aa (.Call (.Name x np) (e₀ :: rest) [] cpos)) ah pos) (WL C ta E):=by
 intro pins s σ H D I h
 obtain⟨tl,N,nm,qn,bs,hdct,sn,sub,ab,col,dd,k0,k1,k2,k3,k5,mN,hC,hN,hni,T⟩:=zeH I.ok.mod.kin q
 refine wpAny_Raise_call_subT (C:=C) (nm:=nm) (q:=qn) (N:=N) (bs:=bs) (bm:=tl) (hdct:=hdct) (sn:=sn) (sub:=sub) (ab:=ab) (col:=col) (dd:=dd) (k0:=k0) (k1:=k1) (k2:=k2) (k3:=k3) (k5:=k5) (newId:=Xd)
  PySem.F.excBase_ValueError (mN:=mN) (T.hasType PySem.F.excBase_ValueError.hasBase) (I.ok.hd hc) (by rw[he];exact hp) hni (vz I hg hm ⟨rfl,?_⟩ hd)
 have hA:=ha cpos pins s σ H _ I h
 rw[he] at hA ⊢
 refine dQ (thn hA λus s2 ⟨vs,H2,I2,r2,z2,q2⟩=>?_)
 exact⟨rfl,by rw[<-r2.length];exact z2,I2.bk _ _ hC,hN.keeps I2.bk,T.keeps I2.bk,λh' e hm=>hr pins σ H2 s2 h' e _ _ I2 hm q2⟩
end
def Asc(x:Str):Prop:=∀c∈x.cps.toList,c < 128
section
variable {X:Cx}{e:aA}{te:TE}{a:Str}{j:Nat}{p1 p2 p3:Pos}
def KY(te:TE):TE:=λσ H Q=>te σ H λv H1=>∃x:Str,v=.str x/\x.length<=100000/\∀y:Str,Q (.str y) H1
theorem zbn(he:PE X e te)(hl:a.length<=1000:=by lia):PE X (.JoinedStr [.FormattedValue e (-1) ah p2,.Constant (.str a) j p1] p3) (KY te):=by
 intro pins s σ H Q I h
 refine wpAny_JoinedStr ?_
 show wpAny _ _ (eval (.FormattedValue e (-1) ah p2) X.env) _ _ s
 refine wpAny_FormattedValue_plain (thn (he pins _ σ H _ I h) λv s1 ⟨x,H1,I1,r1,z,ex,hz,q⟩=>?_)
 subst ex
 obtain⟨t,rfl⟩:=r1
 have hs:sizeLine=16777216:=bT
 have e0:(gD ++ z).length=z.length:=by rw[mo];simp[gD,iu]
 have fin:∀(t':Tok) (tk:Nat),∃y u,gQ z t'=gQ y u/\(gD ++ y).length<=sizeLine/\Joins (model X.prog X.w) X.A X.xe (evalEach [.Constant (.str a) j p1] X.env) (gD ++ y) (λout s₁=>out.length<=sizeLine/\EP X pins σ Q (.str out s₁.toks) { s₁ with toks:=s₁.toks + 1 }) { s1 with toks:=tk }:=λt' tk=>by
  refine⟨_,_,rfl,by rw[e0];lia,?_⟩
  show wpAny _ _ (eval (.Constant (.str a) j p1) X.env) _ _ _
  have hz2:(gD ++ z ++ a).length<=sizeLine:=by rw[mo,e0];lia
  refine oI ⟨a,_,rfl,hz2,hz2,.str _,H1,I1.tok _,⟨_,rfl⟩,q _⟩
 exact wpAny_formatField_str (fin _ _) (fin _ _) (by lia)
end
structure ExC(K:bx)(C:ac):Prop where
 ga:cm K (.ref C) "__getattribute__"=aa (aa (.builtin "BaseException.__getattribute__"))
 gx:cm K (.ref C) "__getattr__"=aa ah
 cl:cm K (.ref C) "__class__"=aa (aa (.builtin "object.__class__"))
 ob:rq K C (.type "object")=aa af
 be:rq K C (.type "BaseException")=aa af
 ge:pW K (.builtin "object.__class__") "__get__"=aa (aa (.builtin "getset_descriptor.__get__"))
 tk:W.takesIn K (.builtin "object.__class__")=aa af
section
variable {X:Cx}{pins:List (ac × Obj)}{σ:St}{H:Hp}{s:ag}
theorem Inv.land{cs:List ac}(hex:X.ex=[])(I:Inv X pins σ H s)(hcs:∀b∈cs,H b=ah/\X.s₀.heap.get? b=ah)(hcp:∀b∈cs,∀p∈X.pn ++ pins,p.1≠b)
  (hB:∀b o,s.heap.get? b=aa o->b ∉ frs X.stack->b ∉ cs->h2.get? b=aa o) (sm:s.heap.UpToSlots h2):Inv X pins σ H { s with heap:=h2 }:=by
 have hF:∀b o,s.heap.get? b=aa o->b∈frs X.stack->∃sl,h2.get? b=aa { o with slots:=sl }:=λb o q hb=>by
  obtain⟨o',q',nf⟩:=I.stackFields hb
  rw[q] at q';cases q'
  exact sm b o q nf
 obtain⟨r1,r2⟩:=I.behind hex hcs hB hF
 have ce:∀c v,s.heap.IsCell c v->h2.IsCell c v:=λc v ⟨o,ho,hd⟩=>by
  obtain⟨sl,q⟩:=sm c o ho λvs z=>by rw[hd] at z;cases z
  exact⟨_,q,hd⟩
 refine⟨I.ok,I.os,I.bare,by rw[hex];exact r1,?_,λx c e=>?_,I.free,I.freeC,λp hp=>?_,r2,I.len⟩
 ·obtain⟨m,hn,hl⟩:=I.loc
  refine⟨m,sm.ns hn,λi x v e1 e2 e3=>?_⟩
  obtain⟨u,r,l⟩:=hl i x v e1 e2 e3
  refine⟨u,r,?_⟩
  rcases l with l | ⟨k,c,e,z⟩
  ·exact .inl l
  ·exact .inr ⟨k,c,e,ce c _ z⟩
 ·obtain⟨v,z⟩:=I.cell x c e
  exact⟨v,ce c v z⟩
 ·obtain⟨e,n,ne,nf,d⟩:=I.pin p hp
  exact⟨hB _ _ e (λz=>(bE.mp (I.stkSub _ z)).elim ne nf) λz=>hcp _ z p hp rfl,n,ne,nf,d⟩
end
abbrev Cx.sub(X:Cx)(e:ac):Cx:={ X with A:=X.A.mark (aa (.ref e)),calm:=am,xe:=λ_ _=>False }
section
variable {X:Cx}{pins:List (ac × Obj)}{σ:St}{H:Hp}{s:ag}{e:ac}
theorem Inv.toSub(I:Inv X pins σ H s):Inv (X.sub e) pins σ H s :=
 ⟨⟨I.ok.mod,I.ok.kind,I.ok.glob,I.ok.blt,I.ok.above,I.ok.inj,I.ok.has,I.ok.cab,(by lia),I.ok.frames,I.ok.stk,I.ok.exf,I.ok.bs,I.ok.bsz,I.ok.noex,I.ok.exfs,I.ok.funs,I.ok.frf⟩,I.os,I.bare,I.base,I.loc,I.cell,I.free,I.freeC,I.pin,I.hok,I.len⟩
theorem Inv.ofSub{J:Inv X pins σ H s}{σ':St}{H':Hp}(I:Inv (X.sub e) pins σ' H' s'):Inv X pins σ' H' s':=
 ⟨J.ok,I.os,I.bare,I.base,I.loc,I.cell,I.free,I.freeC,I.pin,I.hok,I.len⟩
end
abbrev EXK:=ae->St->Hp->Prop
def PX(X:Cx)(pins:List (ac × Obj))(EX:EXK):ae->ag->Prop:=λev s'=>∃e cls σ s1 H1 H',ev=.ref e/\Inv X pins σ H1 s1/\Inv X pins σ H' s'/\XF s1.heap s'.heap H' e cls/\EX cls σ H'
def PEX(X:Cx)(ex:aA)(t:EXK->TE):Prop :=
 ∀(pins:List (ac × Obj)) (s:ag) (σ:St) (H:Hp) (Q:VK) (EX:EXK),Inv X pins σ H s->t EX σ H Q->wpAny (model X.prog X.w) X.A (eval ex X.env) (EP X pins σ Q) (PX X pins EX) s
def PSX(X:Cx)(st:ay)(t:EXK->TS):Prop :=
 ∀(pins:List (ac × Obj)) (s:ag) (σ:St) (H:Hp) (D:Wt) (EX:EXK),Inv X pins σ H s->t EX D σ H->wpAny (model X.prog X.w) X.A (exec st X.env) (SP X pins D) (PX X pins EX) s
section
variable {X:Cx}{ex:aA}{tx:EXK->TE}{pos p1:Pos}{i:Nat}{y:Str}
def zfD(tx:EXK->TE)(i:Nat)(EX:EXK):TS:=λD σ H=>tx EX σ H λv H1=>D.nx (σ.set i (aa v)) H1
theorem zeI(hN:X.N.Nodup)(hi:X.N[i]?=aa y)(hx:Loc X.env.scope y)(he:PEX X ex tx)(hs:swapsWith ex (aa (.Name y pos')) pos.line X.env=pure am:=by rfl)(hf:X.fn y=af\/X.env.scope.names.lookup y=aa .local:=by first | exact .inl rfl | exact .inr rfl | assumption) :
  PSX X (.Assign [.Name y pos'] ex pos) (zfD tx i):=by
 intro pins s σ H D EX I h
 refine wpAny_Assign_Name (thn (he pins s σ H _ EX I h) λv s1 ⟨x,H1,I1,r1,q1⟩=>?_) hs
 exact Ws I1 hN hi hx r1 (λs2 I2=>⟨_,H1,I2,q1⟩) hf
end
structure ExK(K:bx)(C:ac):Prop extends ExC K C where
 has:(W.clsIn K C).isSome=af
theorem zq :vO (CX1 P w) X E0:=λ_ _ _ _ _ _ _ h=>by
 obtain⟨_,_,_,_,_,_,_,_,_,z⟩:=h
 exact z.elim
section
variable {P:au}{w:aw}{K:bx}{mg:Str->Option ae}{base:av}
theorem Fun.ok1{x qual:Str}{st:ay}{f:ac}{fd:FuncData}{N ps:List Str}{k:Nat}{sp:Sp}(F:Fun K x qual st f fd)(S:FnScope N ps (zj st))(len:∀vs H Q E,sp vs H Q E->vs.length=ps.length)
  (hbody:∀(cdv:ae) (A:ax) (outer:List Env) (s:ag) (H:Hp) (vs:List V) (Q:VK) (E:XK),Room k (A.deeper (envOfC qual (zj st) s.heap.objs.size f cdv))->sp vs H Q E ->
   ∃t,PSs (qm (CX1 P w) P w K mg base N qual (zj st) f cdv A outer s H E) (yo st) t/\t { nx:=λ_ H'=>Q .non H',rt:=Q } (start N vs) H):FnOk P w K mg base (CX1 P w) (k + 1) f fd ps sp:=by
 obtain⟨oc,od,kV,doc,pm,an,cdv,ct,osl,rfl,lk,hcd⟩:=F.ex
 exact zfA lk hcd S len λA outer s H vs Q E hr hsp=>hbody cdv A outer s H vs Q E hr hsp
theorem Fun.ok0{x qual:Str}{st:ay}{f:ac}{fd:FuncData}{N ps:List Str}{k:Nat}{sp:Sp}(F:Fun K x qual st f fd)(S:FnScope N ps (zj st))(len:∀vs H Q E,sp vs H Q E->vs.length=ps.length)
  (hbody:∀(cdv:ae) (A:ax) (outer:List Env) (s:ag) (H:Hp) (vs:List V) (Q:VK) (E:XK),Room k (A.deeper (envOfC qual (zj st) s.heap.objs.size f cdv))->sp vs H Q E ->
   ∃t,PSs (qm (CX1 P w) P w K mg base N qual (zj st) f cdv A outer s H E).nox (yo st) t/\t { nx:=λ_ H'=>Q .non H',rt:=Q } (start N vs) H):FnOk P w K mg base (CX1 P w) (k + 1) f fd ps sp :=
 F.ok1 S len λcdv A outer s H vs Q E hr h=>let ⟨t,a,b⟩:=hbody cdv A outer s H vs Q E hr h;⟨t,a.nox,b⟩
end
theorem zgR{l:oK}{n k:Nat}{q:au}{loose:List Str}{XP:(Str->Option ae)->av->Prop}{YP:aw->av->Prop}{d:DefRec}{K:Params->bx}{sp:bx->Sp}{x:Str}
  (hn:l.most=aa n) (hn2:n<=sizeLine) (hdf:d.params.defaults=[]) (hr:Room k callerA)
  (hY:∀(w:aw) (h:av),YP w h->(K w.params).In h)
  (F:∀(w:aw) (mg:Str->Option ae) (fa:ac) (h:av),(K w.params).In h->h.Ns mainGlobals mg->mg d.name=aa (.ref fa) ->
   ∃fd:FuncData,(∀(s:ag) (u:ae),BindsTo s fd ⟨[u],[]⟩ [(x,u)]) /\
    ∀base:av,(K w.params).In base->base.Ns mainGlobals mg->FnOk l.prog w (K w.params) mg base (CX1 l.prog w) k fa fd [x] (sp (K w.params)))
  (hsp:∀(K:bx) (H:Hp) (a:ac) (ns:List Int),ns.length<=n->zax H->SqL K H a (ns.map V.int)->sp K [.ref a] H (λv _=>v=.bl af) λ_ _ _=>False) :
  rA q loose XP YP l.row.toRowW d [] (λf vs=>mh f vs) :=
 zbg (K:=K) (CX:=λw=>CX1 l.prog w) (sp:=λw=>sp (K w.params)) hn hn2 hdf hr hY F (λw H a ns h1 h2 h3=>hsp (K w.params) H a ns h1 h2 h3) λ_ _ _ _ _ z=>by
  obtain⟨_,_,_,_,_,_,_,_,_,y⟩:=z
  exact y
end L2
namespace L2
open PySem
section
variable {σ:St}{H:Hp}{nx:St->Hp->Prop}{B:V->St->Hp->(St->Hp->Prop)->Prop}
theorem vS{lo:Int}(Pv:Nat->St->Hp->Prop)(h0:Pv 0 σ H)(hs:∀i σ H,i < n->Pv i σ H->B (.int (lo + i)) σ H (Pv (i + 1)))(hd:∀σ H,Pv n σ H->nx σ H) :
  ∃W:Nat->Nat->St->Hp->Prop,(∃m,W 0 m σ H)/\∀i m σ H,W i m σ H->((Itr lo n).stop i H/\nx σ H)\/((Itr lo n).go i H/\∃N:St->Hp->Prop,(∀σ' H',N σ' H'->∃m',m' < m/\W (i + 1) m' σ' H')/\∀x H',(Itr lo n).yld i H x H'->B x σ H' N):=by
 refine⟨λi m σ H=>m=n - i/\i<=n/\Pv i σ H,⟨n,by simp,bW _,h0⟩,?_⟩
 rintro i m σ H ⟨rfl,hi,p⟩
 by_cases hlt:i < n
 ·refine .inr ⟨hlt,Pv (i + 1),λσ' H' p'=>⟨n - (i + 1),by lia,rfl,hlt,p'⟩,?_⟩
  rintro x H' ⟨rfl,rfl⟩
  exact hs i σ _ hlt p
 ·obtain rfl:i=n:=by lia
  exact .inl ⟨bh _,hd σ H p⟩
theorem vI(xs:List V)(Pv:Nat->St->Hp->Prop)(h0:Pv 0 σ H)(hl:∀i σ H,Pv i σ H->SqL K H a xs)(hs:∀i x σ H,xs[i]?=aa x->Pv i σ H->B x σ H (Pv (i + 1)))(hd:∀σ H,Pv xs.length σ H->nx σ H) :
  ∃W:Nat->Nat->St->Hp->Prop,(∃m,W 0 m σ H)/\∀i m σ H,W i m σ H->((Itl K a).stop i H/\nx σ H)\/((Itl K a).go i H/\∃N:St->Hp->Prop,(∀σ' H',N σ' H'->∃m',m' < m/\W (i + 1) m' σ' H')/\∀x H',(Itl K a).yld i H x H'->B x σ H' N):=by
 refine⟨λi m σ H=>m=xs.length - i/\i<=xs.length/\Pv i σ H,⟨xs.length,by simp,bW _,h0⟩,?_⟩
 rintro i m σ H ⟨rfl,hi,p⟩
 have q:=hl i σ H p
 by_cases hlt:i < xs.length
 ·refine .inr ⟨⟨xs,xs[i],q,by simp[hlt]⟩,Pv (i + 1),λσ' H' p'=>⟨xs.length - (i + 1),by lia,rfl,hlt,p'⟩,?_⟩
  rintro x H' ⟨rfl,y⟩
  exact hs i x σ _ (y xs q) p
 ·obtain rfl:i=xs.length:=by lia
  exact .inl ⟨⟨xs,q,bh _⟩,hd σ H p⟩
theorem zcV(xs:List V)(Pv:Nat->St->Hp->Prop)(h0:Pv 0 σ H)(hl:∀i σ H,Pv i σ H->SqT K H a xs)(hs:∀i x σ H,xs[i]?=aa x->Pv i σ H->B x σ H (Pv (i + 1)))(hd:∀σ H,Pv xs.length σ H->nx σ H) :
  ∃W:Nat->Nat->St->Hp->Prop,(∃m,W 0 m σ H)/\∀i m σ H,W i m σ H->((Itt K a).stop i H/\nx σ H)\/((Itt K a).go i H/\∃N:St->Hp->Prop,(∀σ' H',N σ' H'->∃m',m' < m/\W (i + 1) m' σ' H')/\∀x H',(Itt K a).yld i H x H'->B x σ H' N):=by
 refine⟨λi m σ H=>m=xs.length - i/\i<=xs.length/\Pv i σ H,⟨xs.length,by simp,bW _,h0⟩,?_⟩
 rintro i m σ H ⟨rfl,hi,p⟩
 have q:=hl i σ H p
 by_cases hlt:i < xs.length
 ·refine .inr ⟨⟨xs,xs[i],q,by simp[hlt]⟩,Pv (i + 1),λσ' H' p'=>⟨xs.length - (i + 1),by lia,rfl,hlt,p'⟩,?_⟩
  rintro x H' ⟨rfl,y⟩
  exact hs i x σ _ (y xs q) p
 ·obtain rfl:i=xs.length:=by lia
  exact .inl ⟨⟨xs,q,bh _⟩,hd σ H p⟩
end
theorem zcW{J:It}{D:ac}{τ₀:St}{H1:Hp}{Q:Hp->Prop}{B:V->St->Hp->(V->St->Hp->Prop)->(St->Hp->Prop)->Prop}(n:Nat)(hn:n<=1000000)(C:St->Prop)(R:Nat->V->Prop)(hC:C τ₀)
  (go:∀i H,Same H1 H->i < n->J.go i H) (stop:∀H,Same H1 H->J.stop n H) (hD:H1 D=ah)
  (hs:∀i x τ H H',C τ->Same H1 H->i < n->J.yld i H x H'->B x τ H' (λv τ' H4=>C τ'/\R i v/\Same H H4) (λ_ _=>False))
  (hd:∀ys H,ys.length=n->(∀i v,ys[i]?=aa v->R i v)->Same H1 H->H D=aa (.lst ys)->Q H) :
  ∃W:Nat->Nat->List V->St->Hp->Prop,(∃m,W 0 m [] τ₀ (upd H1 D (.lst [])))/\∀i m ys τ H,W i m ys τ H->H D=aa (.lst ys) /\
  ((J.stop i H/\Q H)\/(J.go i H/\ys.length < sizeLine/\∃N:V->St->Hp->Prop,
   (∀v τ' H',N v τ' H'->H' D=aa (.lst ys)/\∃m',m' < m/\W (i + 1) m' (ys ++ [v]) τ' (upd H' D (.lst (ys ++ [v]))))/\∃Nf:St->Hp->Prop,(∀τ' H',Nf τ' H'->∃m',m' < m/\W (i + 1) m' ys τ' H') /\
   ∀x H',J.yld i H x H'->B x τ H' N Nf)):=by
 have ext:∀ {H:Hp} {o:HO},Same H1 H->Same H1 (upd H D o):=λ{H o} h b u e=>by
  rw[zk (zC e hD)];exact h b u e
 refine⟨λi m ys τ H=>m=n - i/\i<=n/\ys.length=i/\(∀j v,ys[j]?=aa v->R j v)/\Same H1 H/\H D=aa (.lst ys)/\C τ,⟨n,by simp,bW _,rfl,by simp,ext (Same.refl _),zg,hC⟩,?_⟩
 rintro i m ys τ H ⟨rfl,hi,hl,hR,hS,hy,hc⟩
 refine⟨hy,?_⟩
 by_cases hlt:i < n
 ·refine .inr ⟨go i H hS hlt,bY (by lia:ys.length<=1000000) (by lia),(λv τ' H4=>C τ'/\R i v/\Same H H4),?_,(λ_ _=>False),λ_ _ z=>z.elim,λx H' y=>hs i x τ H H' hc hS hlt y⟩
  rintro v τ' H4 ⟨c4,r4,s4⟩
  refine⟨s4 _ _ hy,n - (i + 1),by lia,rfl,hlt,by simp[hl],λj u hj=>?_,ext (hS.trans s4),zg,c4⟩
  rcases Nat.lt_trichotomy j ys.length with h | h | h
  ·exact hR j u (by rwa [dZ h] at hj)
  ·subst h
   simp at hj
   subst hj
   rw[hl];exact r4
  ·rw[cG (by simp;lia)] at hj;cases hj
 ·obtain rfl:i=n:=by lia
  exact .inl ⟨stop H hS,hd ys H hl hR hS hy⟩
theorem JM(n d:Nat)(v:Int):max (0:Int) (min (if v < 0 then v + n else v) n)=((HT.sIx n d (aa v):Nat):Int):=by
 show _=(((if v < 0 then (v + (n:Int)).toNat else min v.toNat n):Nat):Int)
 by_cases hv:v < 0
 ·simp only[ao hv];lia
 ·simp only[ak hv];lia
theorem zeJ(a b:Nat):sliceRange (a:Int) (b:Int) 1=(eG (b - a)).map λk=>a + k:=by
 simp only[sliceRange,show ((1:Int) > 0)=True from by simp,if_true]
 by_cases hlt:(a:Int) < b
 ·have e3:(((b:Int) - a + 1 - 1) / 1).toNat=b - a:=by rw[Int.ediv_one];lia
  simp only[hlt,if_true,e3]
  refine fN λk _=>?_
  lia
 ·have:b - a=0:=by lia
  simp[hlt,this]
theorem zcX(lo hi:Option Int)(n:Nat):lB lo hi 1 n=(eG (HT.sIx n n hi - HT.sIx n 0 lo)).map λk=>HT.sIx n 0 lo + k:=by
 rw[<-zeJ]
 unfold lB
 simp only[show ((1:Int) > 0)=True from by simp,if_true]
 cases lo with
 | none =>
  cases hi with
  | none=>rfl
  | some v=>simp only[JM n n v];rfl
 | some u =>
  cases hi with
  | none=>simp only[JM n 0 u];rfl
  | some v=>simp only[JM n n v,JM n 0 u]
theorem V8(x:Str)(lo hi:Option Int):(gF x lo hi).cps.toList=(x.cps.toList.drop (HT.sIx x.length 0 lo)).take (HT.sIx x.length x.length hi - HT.sIx x.length 0 lo):=by
 have hb:=HT.sIx_le x.length x.length (bh _) hi
 have hn:x.cps.toList.length=x.length:=by simp[iu]
 unfold gF
 rw[zcX]
 split
 ·rename_i h
  have h':HT.sIx x.length x.length hi - HT.sIx x.length 0 lo=x.length:=by simpa using h
  have e0:HT.sIx x.length 0 lo=0\/x.length=0:=by lia
  rcases e0 with e0 | e0
  ·rw[e0,gG,cp]
   lia
  ·rw[cZ (by lia:x.cps.toList.length=0)];simp
 ·by_cases hab:HT.sIx x.length 0 lo<=HT.sIx x.length x.length hi
  ·have h:=StrLaws.picks x.cps.toList (HT.sIx x.length x.length hi - HT.sIx x.length 0 lo) (HT.sIx x.length 0 lo) (by lia)
   simpa using h
  ·have:HT.sIx x.length x.length hi - HT.sIx x.length 0 lo=0:=by lia
   rw[this];simp
theorem WM(x:Str)(k:Nat):(gF x (aa (k:Int)) ah).cps.toList=x.cps.toList.drop k:=by
 rw[V8,HT.sIx_none,HT.sIx_nat]
 have hn:x.cps.toList.length=x.length:=by simp[iu]
 by_cases h:k<=x.length
 ·rw[fH h,cp (by rw[cT];lia)]
 ·rw[df (by lia:x.cps.toList.length<=k),iX (by lia),df (by lia)];simp
theorem KZ(x:Str)(k:Nat):(gF x ah (aa (k:Int))).cps.toList=x.cps.toList.take k:=by
 rw[V8,HT.sIx_none,HT.sIx_nat,gG,lV]
 have hn:x.cps.toList.length=x.length:=by simp[iu]
 by_cases h:k<=x.length
 ·rw[fH h]
 ·rw[iX (by lia),cp (by lia),cp (by lia)]
theorem zeK{x y:Str}(h:x.cps.toList=y.cps.toList):x=y:=by
 obtain⟨a⟩:=x
 obtain⟨b⟩:=y
 have:a=b:=mY.mp h
 rw[this]
theorem zeL(x y:Str):(x ++ y).cps.toList=x.cps.toList ++ y.cps.toList:=by
 show (x.cps ++ y.cps).toList=_
 simp
open PySem.NumText in
section
def zhk(w:Int):Str:=bc (toString w)
theorem YD(x:Str):x.length=x.cps.toList.length:=by simp[iu]
def inF(c:Nat):Bool:=!(gT "0123456789" ⟨#[c]⟩ 0 (iu "0123456789") 1).isEmpty
def zgS(x:Str):Bool:=!decide (x="") && x.cps.toList.all inF
def inW(i:Int):Bool:=decide (-1000000000000000000000000000000<=i/\i<=1000000000000000000000000000000)
def zfE(x:Str):Str:=if (x.cps.toList.take 1 == [45])=af then gF x (aa 1) ah else x
def zcY(x:Str):Int:=(intText? x).getD 0
def zgT(x:Str):Bool:=!(decide (31 < (zfE x).length) || !zgS (zfE x)) && (inW (zcY x) && decide (zhk (zcY x)=x))
end
end L2
namespace L2
open PySem PySem.Spec PyProof.Rows
def zbo(x y:Str):Int:=match gT x y 0 x.length 1 with | i :: _=>(i:Int) | []=>-1
abbrev Xe:RM:=λx xs H Q=>∃a b,x=.str a/\xs=[.str b]/\Q (.int (zbo a b)) H
def V9(sep:Str):List Str->Str
 | [p]=>p
 | l=>mq sep l
def zcZ(sep:Str)(ls:List Str):Nat:=ls.foldl (λn p=>n + p.length + sep.length) 0
abbrev Xf(K:bx):RM:=λx xs H Q=>∃sep a ls,x=.str sep/\xs=[.ref a]/\SqL K H a (ls.map V.str)/\zcZ sep ls<=sizeLine/\Q (.str (V9 sep ls)) H
theorem JN(sep:Str):∀(ls:List Str) (k:Nat),ls.foldl (λn p=>n + p.length + sep.length) k=k + (ls.map (·.length)).sum + ls.length * sep.length
 | [],k=>by simp
 | p :: r,k=>by
  rw[eA,JN sep r,bM,i9,bR,Nat.add_mul,Nat.one_mul]
  lia
theorem zb2(sep:Str)(ls:List Str):(V9 sep ls).length<=zcZ sep ls:=by
 unfold zcZ
 rw[JN]
 have g:(mq sep ls).length<=0 + (ls.map (·.length)).sum + ls.length * sep.length:=by
  rw[size_glued]
  have:(ls.length - 1) * sep.length<=ls.length * sep.length:=Nat.mul_le_mul_right _ (by lia)
  lia
 unfold V9
 split
 ·simp only[bM,nJ,i9,List.sum_nil,bR,nI];lia
 ·exact g
theorem zc0(ls:List Str):(V9 "" ls).cps.toList=(ls.map λp=>p.cps.toList).flatten:=by
 have g:∀(r:List Str) (a:Array Nat),(r.foldl (λacc p=>acc ++ (bc "").cps ++ p.cps) a).toList=a.toList ++ (r.map λp=>p.cps.toList).flatten:=by
  intro r
  induction r with
  | nil=>intro a;simp
  | cons p r ih =>
   intro a
   have e:(bc "").cps=#[]:=by lia
   rw[eA,ih,e]
   simp
 unfold V9
 split
 ·simp
 ·unfold mq
  cases ls with
  | nil=>lia
  | cons p r=>exact g r p.cps
theorem Ja:∀ {ls:List Str} {us:List ae},Vals (ls.map V.str) us->∃l:List (Str × Tok),us=strValues l/\l.map (·.1)=ls
 | [],_,.nil=>⟨[],rfl,rfl⟩
 | x :: r,_,.cons h t=>by
  obtain⟨l,rfl,e⟩:=Ja t
  obtain⟨k,rfl⟩:=h
  exact⟨(x,k) :: l,rfl,by rw[bM,e]⟩
section
variable {X:Cx}
theorem zeM:MtR X "str.find" Xe:=by
 intro pins s σ H x xs v us Q I rx rs h
 obtain⟨a,b,rfl,rfl,q⟩:=h
 obtain⟨t,rfl⟩:=rx
 obtain⟨u,rfl,t',rfl⟩:=qu rs
 exact call_gives F.slot_str_find (nX s a t) F.entry_str_find (F.args_str_find_2 _ _) (gives_str_find a b t t') ⟨.int (zbo a b),H,I.tok _,⟨_,rfl⟩,q⟩
theorem zeN:MtR X "str.join" (Xf X.K):=by
 intro pins s σ H x xs v us Q I rx rs h
 obtain⟨sep,a,ls,rfl,rfl,hq,hl,q⟩:=h
 obtain⟨t,rfl⟩:=rx
 obtain⟨u,rfl,r1⟩:=qu rs
 cases r1
 obtain⟨its,rv,p,hz⟩:=I.list hq
 obtain⟨l,rfl,e⟩:=Ja rv
 have tl:oz ((l.map (·.1)).toArray.foldl (· + ·.length + sep.length) 0)=am:=by
  rw[e,List.foldl_toArray]
  unfold oz
  exact decide_eq_false (by unfold zcZ at hl;lia)
 have jl:=zb2 sep ls
 refine gq F.slot_str_join (nX s sep t) F.entry_str_join (F.args_str_join_2 _ _) (meets_str_join_list sep t a l tl) ⟨p.isList,?_⟩
 subst e
 match l,q,jl,hl with
 | [],q,jl,hl=>exact⟨bN jl hl,.str _,H,I.tok _,⟨_,rfl⟩,q⟩
 | [p],q,jl,hl=>exact⟨.str p.1,H,I,⟨_,rfl⟩,q⟩
 | p :: p' :: r,q,jl,hl=>exact⟨bN jl hl,.str _,H,I.tok _,⟨_,rfl⟩,q⟩
end
theorem vA(x y:Str):(x ++ y).length=x.length + y.length:=mo x y
def zfF(_ j:Int):Prop:=j≠0/\-big < j/\j < big
section
variable {X:Cx}
theorem zc1:OpR X (binaryOp .FloorDiv) (rI zfF λi j=>.int (i.fdiv j)):=opI λi j _ _ _ _ _ hc q =>
 floordiv_int hc.1 q (.inl (mm (pJ (WK (JL hc.2)) (by lia))))
end
theorem zeO(r:Room k A):A.units + 64 < cLine:=by have:=r.un;lia
def qp:V->PyData
 | .non=>.none
 | .bl b=>.bool b
 | .int i=>.int i
 | .str x=>.str x
 | _=>.none
def yH:V->Bool
 | .non=>af
 | .bl _=>af
 | .int _=>af
 | .str x=>cR x
 | _=>am
theorem Asc.flat(h:Asc x):yH (.str x)=af:=by
 unfold yH cR
 rw[Array.all_eq_true]
 intro i hi
 have:=h x.cps[i] (by simp)
 exact decide_eq_true (by lia)
def zf9:V->V->Bool
 | .bl _,.int _=>am
 | .int _,.bl _=>am
 | _,_=>af
def JO:List V->List V->Bool
 | x :: xs,y :: ys=>zf9 x y && JO xs ys
 | _,_=>af
theorem vT:∀ {xs:List V} {us:List ae},xs.all yH=af->Vals xs us->CarriedAll us (xs.map qp)
 | [],_,_,.nil=>.nil
 | x :: r,_,h,.cons rx t=>by
  rw[gp,ck] at h
  refine .cons ?_ (vT h.2 t)
  cases x with
  | non=>cases rx;exact .none
  | bl b=>cases rx;exact .bool b
  | int i=>obtain⟨t,rfl⟩:=rx;exact .int i t
  | str x=>obtain⟨t,rfl⟩:=rx;exact .str x t
  | byt b=>exact absurd h.1 (by simp[yH])
  | flt b=>exact absurd h.1 (by simp[yH])
  | ref a=>exact absurd h.1 (by simp[yH])
  | ty n=>exact absurd h.1 (by simp[yH])
theorem zc2(hx:yH x=af)(hy:yH y=af):pY (qp x) (qp y)=decide (x=y):=by
 cases x <;> cases y <;> simp_all [yH,qp,pY] <;> (rename_i a b;by_cases e:a=b <;> simp[e])
theorem qy:∀ {xs ys:List V},xs.all yH=af->ys.all yH=af->lW (xs.map qp) (ys.map qp)=decide (xs=ys)
 | [],[],_,_=>by simp[lW]
 | [],_ :: _,_,_=>by simp[lW]
 | _ :: _,[],_,_=>by simp[lW]
 | x :: r,y :: t,hx,hy=>by
  rw[gp,ck] at hx hy
  rw[bM,bM,lW,zc2 hx.1 hy.1,qy hx.2 hy.2]
  by_cases a:x=y <;> by_cases b:r=t <;> simp[a,b]
theorem zb3(hx:yH x=af)(hy:yH y=af)(h:zf9 x y=af):oA (qp x) (qp y)=af:=by
 cases x <;> cases y <;> simp_all [yH,qp,oA,zf9]
theorem ky:∀ {xs ys:List V},xs.all yH=af->ys.all yH=af->JO xs ys=af->iE (xs.map qp) (ys.map qp)=af
 | [],[],_,_,_=>by simp[iE]
 | [],_ :: _,_,_,_=>by simp[iE]
 | _ :: _,[],_,_,_=>by simp[iE]
 | x :: r,y :: t,hx,hy,h=>by
  rw[gp,ck] at hx hy
  rw[JO,ck] at h
  rw[bM,bM,iE,zb3 hx.1 hy.1 h.1,ky hx.2 hy.2 h.2]
  rfl
theorem kz{xs:List V}(h:xs.all yH=af):nM (.list (xs.map qp))=af/\nM (.tuple (xs.map qp))=af:=by
 have a:∀x,yH x=af->(qp x).canLay0=af/\(qp x).depth=0:=λx=>by cases x <;> simp[qp,on,nN,yH]
 have l:∀ys:List V,ys.all yH=af->pA (ys.map qp)=af/\gU (ys.map qp)=0:=by
  intro ys
  induction ys with
  | nil=>exact λ_=>⟨rfl,rfl⟩
  | cons y r ih =>
   intro h
   rw[gp,ck] at h
   exact⟨by rw[bM,pA,(a y h.1).1,(ih h.2).1];rfl,by rw[bM,gU,(a y h.1).2,(ih h.2).2];rfl⟩
 exact⟨by simp[nM,on,nN,(l xs h).1,(l xs h).2],by simp[nM,on,nN,(l xs h).1,(l xs h).2]⟩
abbrev zgU(K:bx)(neg:Bool):R2:=λx y H Q=>∃a b xs ys,x=.ref a/\y=.ref b/\SqL K H a xs/\SqL K H b ys/\(xs.all yH=af/\ys.all yH=af/\JO xs ys=af)/\Q (.bl (if neg then !decide (xs=ys) else decide (xs=ys))) H
section
variable {X:Cx}
theorem zga(hu:X.A.units + 64 < cLine):OpR X (compareOp .Eq) (zgU X.K am):=by
 intro pins s σ H x y v u Q I rx ry h
 obtain⟨a,b,xs,ys,rfl,rfl,ha,hb,⟨f1,f2,f3⟩,q⟩:=h
 cases rx
 cases ry
 obtain⟨us,r1,p1,_⟩:=I.list ha
 obtain⟨ws,r2,p2,_⟩:=I.list hb
 refine eq_dataH_same (mM p1.isList (vT f1 r1)) (mM p2.isList (vT f2 r2)) (kz f1).1 (kz f2).1 hu (by rw[oA];exact ky f1 f2 f3) ?_
 rw[pY,qy f1 f2]
 exact⟨.bl _,H,I,rfl,q⟩
theorem zgb(hu:X.A.units + 64 < cLine):OpR X (compareOp .NotEq) (zgU X.K af):=by
 intro pins s σ H x y v u Q I rx ry h
 obtain⟨a,b,xs,ys,rfl,rfl,ha,hb,⟨f1,f2,f3⟩,q⟩:=h
 cases rx
 cases ry
 obtain⟨us,r1,p1,_⟩:=I.list ha
 obtain⟨ws,r2,p2,_⟩:=I.list hb
 refine ne_dataH_same (mM p1.isList (vT f1 r1)) (mM p2.isList (vT f2 r2)) (kz f1).1 (kz f2).1 hu (by rw[oA];exact ky f1 f2 f3) ?_
 rw[pY,qy f1 f2]
 exact⟨.bl _,H,I,rfl,q⟩
abbrev JP(K:bx):R2:=λx y H Q=>∃a b xs,x=.ref a/\y=.ref b/\SqL K H a xs/\SqL K H b []/\Q (.bl (decide (xs=[]))) H
theorem K0(hu:X.A.units + 64 < cLine):OpR X (compareOp .Eq) (JP X.K):=by
 intro pins s σ H x y v u Q I rx ry h
 obtain⟨a,b,xs,rfl,rfl,ha,hb,q⟩:=h
 by_cases e:xs=[]
 ·subst e
  exact zga hu pins s σ H _ _ v u Q I rx ry ⟨a,b,[],[],rfl,rfl,ha,hb,⟨rfl,rfl,rfl⟩,q⟩
 ·cases rx
  cases ry
  obtain⟨us,r1,p1,_⟩:=I.list ha
  obtain⟨ws,r2,p2,_⟩:=I.list hb
  cases r2
  have e1:=r1.length
  have e2:xs.length≠0:=λz=>e (cZ z)
  refine PySem.SeqAt.eq_list_lengthsAt p1.isList p2.isList (by simp;intro z;rw[z] at e1;exact e2 e1) (by lia) ?_
  rw[decide_eq_false e] at q
  exact⟨.bl am,H,I,rfl,q⟩
end
abbrev yf:RM:=Wm
abbrev qA:RM:=zeA
def jw:List V:=[.str "plus",.str "minus",.str "times",.str "over",.str "rest",.str "under",.str "same"]
def isJ(v:V):Bool:=inV v jw
inductive Er where
 | nought | great | stuck
 deriving DecidableEq
def jj(w:Str)(a b:Int):Int :=
 if w="plus" then a + b else if w="minus" then a - b else if w="times" then a * b else if w="under" then (if a < b then 1 else 0) else if w="same" then (if a=b then 1 else 0) else if w="over" then a.fdiv b else a.fmod b
def WN(w:Str):Prop:=¬ w="plus"/\¬ w="minus"/\¬ w="times"/\¬ w="under"/\¬ w="same"
instance (w:Str):Decidable (WN w):=by unfold WN;infer_instance
def vU(w:Str)(a b:Int):Except Er Int:=if WN w/\b=0 then .error .nought else if inW (jj w a b)=af then .ok (jj w a b) else .error .great
def zaz(kvs:List (Key × V)):V->Int
 | .int i=>i
 | .str x=>(match yd kvs (.inr x) with | some (.int i)=>i | _=>0)
 | _=>0
def wF(kvs:List (Key × V))(st:List Int)(v:V):Except Er (List Int) :=
 if isJ v=af then (match v,st.reverse with | .str w,b :: a :: r=>(match vU w a b with | .ok c=>.ok (r.reverse ++ [c]) | .error e=>.error e) | _,_=>.error .stuck) else .ok (st ++ [zaz kvs v])
def wZ(kvs:List (Key × V)):List V->List Int->Except Er (List Int)
 | [],st=>.ok st
 | v :: r,st=>match wF kvs st v with | .ok st'=>wZ kvs r st' | .error e=>.error e
section
variable {kvs:List (Key × V)}
theorem qB:∀(p q:List V) (st:List Int),wZ kvs (p ++ q) st=match wZ kvs p st with | .ok st'=>wZ kvs q st' | .error e=>.error e
 | [],q,st=>rfl
 | v :: r,q,st=>by
  show (match wF kvs st v with | .ok st'=>wZ kvs (r ++ q) st' | .error e=>.error e)=match (match wF kvs st v with | .ok st'=>wZ kvs r st' | .error e=>.error e) with | .ok st'=>wZ kvs q st' | .error e=>.error e
  cases wF kvs st v with
  | error e=>rfl
  | ok st'=>exact qB r q st'
def Good(kvs:List (Key × V))(ps:List V)(r:Except Er Int):Prop:=(∀st,wZ kvs ps st=match r with | .ok i=>.ok (st ++ [i]) | .error e=>.error e)/\r≠.error .stuck
theorem zb4(h:isJ v=am):Good kvs [v] (.ok (zaz kvs v)):=by
 refine⟨λst=>?_,λz=>nomatch z⟩
 unfold wZ wF
 rw[h,ak (by lia)]
 rfl
def zfG(w:Str)(r1 r2:Except Er Int):Except Er Int:=match r1 with | .error e=>.error e | .ok a=>match r2 with | .error e=>.error e | .ok b=>vU w a b
theorem zc3(w:Str)(a b:Int):vU w a b≠.error .stuck:=by
 unfold vU
 split
 ·exact λz=>nomatch z
 ·split <;> exact λz=>nomatch z
theorem zb5{r1 r2:Except Er Int}(hw:isJ (.str w)=af)(g1:Good kvs p1 r1)(g2:Good kvs p2 r2):Good kvs (p1 ++ p2 ++ [.str w]) (zfG w r1 r2):=by
 refine⟨λst=>?_,?_⟩
 ·rw[qB,qB,g1.1]
  cases r1 with
  | error e=>rfl
  | ok a =>
   show (match wZ kvs p2 (st ++ [a]) with | .ok st'=>wZ kvs [.str w] st' | .error e=>.error e)=_
   rw[g2.1]
   cases r2 with
   | error e=>rfl
   | ok b =>
    show wZ kvs [.str w] (st ++ [a] ++ [b])=match vU w a b with | .ok i=>.ok (st ++ [i]) | .error e=>.error e
    unfold wZ wF
    rw[hw,ao rfl]
    simp only[oB,pB,pO,cz,ca,fC]
    cases vU w a b with
    | error e=>rfl
    | ok c=>simp[wZ]
 ·unfold zfG
  cases r1 with
  | error e=>exact g1.2
  | ok a =>
   cases r2 with
   | error e=>exact g2.2
   | ok b=>exact zc3 w a b
theorem zbp{st:List Int}(h:wZ kvs (ps.take i) st=.error e):wZ kvs ps st=.error e:=by
 have:=qB (kvs:=kvs) (ps.take i) (ps.drop i) st
 rw[gc,h] at this
 exact this
theorem zeP{ps:List V}{i:Nat}{st st0:List Int}(h:wZ kvs (ps.take i) st0=.ok st)(hv:ps[i]?=aa v):wZ kvs (ps.take (i + 1)) st0=wF kvs st v:=by
 rw[dq,hv]
 show wZ kvs (ps.take i ++ [v]) st0=_
 rw[qB,h]
 show (match wF kvs st v with | .ok st'=>wZ kvs [] st' | .error e=>.error e)=_
 cases wF kvs st v <;> rfl
end
def kA(v:V):Prop:=(∃i,v=.int i/\inW i=af)\/∃x:Str,v=.str x/\x.length<=1000
def yV(kvs:List (Key × V)):Prop:=∀k v,yd kvs k=aa v->∃i,v=.int i/\inW i=af
theorem K3(h:yV kvs)(hv:kA v):inW (zaz kvs v)=af:=by
 rcases hv with ⟨i,rfl,hi⟩ | ⟨x,rfl,_⟩
 ·exact hi
 ·show inW (match yd kvs (.inr x) with | some (.int i)=>i | _=>0)=af
  cases e:yd kvs (.inr x) with
  | none=>rfl
  | some u =>
   obtain⟨i,rfl,hi⟩:=h _ _ e
   exact hi
theorem inW_iff{i:Int}:inW i=af↔-1000000000000000000000000000000<=i/\i<=1000000000000000000000000000000:=by unfold inW;rw[decide_eq_true_eq]
theorem JQ{i:Int}(h:inW i=af):-big < i/\i < big:=by
 have:=inW_iff.mp h
 have hb:(1000000000000000000000000000001:Int) < big:=by lia
 lia
abbrev zc4(K:bx):RC:=λxs H Q=>∃p ys,xs=[.ref p]/\(SqL K H p ys\/SqT K H p ys)/\∀l,H l=ah->Q (.ref l) (upd H l (.lst ys))
def inL(c:Nat):Bool:=!(gT "abcdefghijklmnopqrstuvwxyz" ⟨#[c]⟩ 0 (iu "abcdefghijklmnopqrstuvwxyz") 1).isEmpty
def wl:List V:=[.str "take",.str "give",.str "let",.str "say",.str "off",.str "if",.str "else",.str "end",.str "as"]
def yI(x:Str):Bool:=!(decide (x="") || decide (6 < x.length)) && !(inV (.str x) jw || inV (.str x) wl) && x.cps.toList.all inL
theorem zeQ(c:Nat):inL c=af->97<=c/\c<=122:=by
 unfold inL
 rw[StrLaws.found_one,decide_eq_true_eq]
 exact(by lia:∀c∈(bc "abcdefghijklmnopqrstuvwxyz").cps.toList,97<=c/\c<=122) c
theorem YE(h:yI x=af):x.cps.toList≠[]/\x.length<=6/\isJ (.str x)=am/\x.cps.toList.all inL=af:=by
 unfold yI at h
 rw[ck,ck,dt,dt,i4,i4,decide_eq_false_iff_not,decide_eq_false_iff_not] at h
 refine⟨λz=>h.1.1.1 (zeK (by rw[z];lia)),by lia,h.1.2.1,h.2⟩
def zc5(w:Str):Option V:=if yI w=af then aa (.str w) else if zgT w=af then aa (.int (zcY w)) else ah
inductive Tw where
 | leaf (w:Str) | node (w:Str) (a b:Tw)
def pre:Tw->List Str
 | .leaf w=>[w]
 | .node w a b=>w :: (pre a ++ pre b)
def wfT:Tw->Prop
 | .leaf w=>isJ (.str w)=am
 | .node w a b=>isJ (.str w)=af/\wfT a/\wfT b
def okT:Tw->Bool
 | .leaf w=>(zc5 w).isSome
 | .node _ a b=>okT a && okT b
def pvw(w:Str):V:=(zc5 w).getD (.str w)
def pst:Tw->List V
 | .leaf w=>[pvw w]
 | .node w a b=>pst a ++ pst b ++ [.str w]
def zgV:List Str->Nat->Option Nat
 | _,0=>aa 0
 | [],_ + 1=>ah
 | w :: r,d + 1=>(zgV r (if isJ (.str w)=af then d + 2 else d)).map (· + 1)
def xU(st:List (List V))(w:Str):Except Bool (List (List V)) :=
 if isJ (.str w)=af then (match st.reverse with | a :: b :: r=>.ok (r.reverse ++ [a ++ b ++ [.str w]]) | _=>.error am) else (match zc5 w with | some v=>.ok (st ++ [[v]]) | none=>.error af)
def zaA:List Str->List (List V)->Except Bool (List (List V))
 | [],st=>.ok st
 | w :: r,st=>match xU st w with | .ok st'=>zaA r st' | .error e=>.error e
theorem zc6:∀(p q:List Str) (st:List (List V)),zaA (p ++ q) st=match zaA p st with | .ok st'=>zaA q st' | .error e=>.error e
 | [],q,st=>rfl
 | v :: r,q,st=>by
  show (match xU st v with | .ok st'=>zaA (r ++ q) st' | .error e=>.error e)=match (match xU st v with | .ok st'=>zaA r st' | .error e=>.error e) with | .ok st'=>zaA q st' | .error e=>.error e
  cases xU st v with
  | error e=>rfl
  | ok st'=>exact zc6 r q st'
theorem zaB :starEach (.Constant c j p :: es) env=(am,eval (.Constant c j p) env) :: starEach es env:=by
 first | rfl | simp only[starEach]
theorem kB{t:TA}(hr:PA X es t):PA X (.Constant (.str x) j p :: es) (zc (tC (.str x)) t):=za zE hr zaB
theorem zc7(h:yI x=af):Asc x:=λc hc=>by
 have:=zeQ c (List.all_eq_true.mp (YE h).2.2.2 c hc)
 lia
section
variable {P:au}{w:aw}{A:ax}{E:ae->ag->Prop}{s:ag}
theorem zc8{Q:ae->ag->Prop}(hi:s.heap.IsTupleIter it tp i)(ht:s.heap.IsTuple tp xs)
  (yes:∀x h,xs[i]?=aa x->h.IsTupleIter it tp (i + 1)->cP it s.heap h->Q x { s with heap:=h })
  (no:xs[i]?=ah->A.handled=ah/\∀h e,pZ it s.heap h->(∃o,h.get? e=aa o/\o.cls=.type "StopIteration")->E (.ref e) { s with heap:=h }) :
  wpAny (model P w) A (eo (.ref it)) Q E s:=by
 obtain⟨o,ho,hc,hd⟩:=id hi
 obtain⟨q,hq,_,n,hq2⟩:=ht
 unfold eo
 refine ba (dv (name:=bc "__next__") hi.typeIs lM (c8 lM hi.typeIs F.entry_tuple_iterator_next ?_ (F.args_tuple_iterator_next_1 _)))
 show wpAny _ _ (field (.ref it) 0 >>= _) _ _ s;refine ba (dE ho hd (x:=.ref tp) rfl ?_)
 show wpAny _ _ (if (bL tp == cL)=af then _ else _) _ _ s;rw[ak (show ¬ ((bL tp == cL)=af) from bG)]
 show wpAny _ _ (field (.ref it) 1 >>= _) _ _ s;refine ba (dE ho hd (x:=.int i 0) rfl ?_)
 show wpAny _ _ (seqItems? (.ref tp) >>= _) _ _ s;refine ba (fS hq hq2 ?_)
 cases hx:xs[i]? with
 | some x =>
  simp only[dH,hx]
  refine ba (iF ho hd (by simp) (bg ⟨x,rfl,bg (yes x _ hx ?_ (cY ..))⟩))
  refine⟨_,eC _ ho (nO (gW hd _)),(pC ..).trans hc,?_⟩;rw[gW hd];simp[rawInt]
 | none =>
  obtain⟨hh,no⟩:=no hx
  simp only[dH,hx]
  refine ba (lh (ba (iF ho hd (by simp) ?_)));show wpAny _ _ (newExc (.type "StopIteration") [] >>= _) _ _ _
  refine ba ?_;simp only[newExc,newTuple]
  refine ba (cV ?_ (by size_fits));refine ba (m:=firstArgMember _ _) (wpAny_of_eq (a:=cL) (by first | rfl | (simp only[firstArgMember];rfl)) ?_)
  refine cV ?_ (by size_fits);simp only[raiseNew]
  refine ba (oM ?_);first | rw[show A.in1.handled=ah from hh] | rw[hh]
  refine ba (bg (wpAny_throw ?_));exact no _ _ (((cY ..).extBut.push _).push _) ⟨_,bB _ rfl,rfl⟩
end
section
variable {P:au}{w:aw}{A:ax}{E:ae->ag->Prop}{s:ag}
structure Xg(z a b i j p q:ac):Prop where
 az:a≠z
 bz:b≠z
 iz:i≠z
 jz:j≠z
 ab:a≠b
 ai:a≠i
 aj:a≠j
 bi:b≠i
 bj:b≠j
 ij:i≠j
 pz:p≠z
 pb:p≠b
 pi:p≠i
 pj:p≠j
 qz:q≠z
 qb:q≠b
 qi:q≠i
 qj:q≠j
def ZT(z a b i j p q:ac)(k:Nat)(h:av):Prop:=IsZip h z a b .none/\IsPair h a (.ref i) (.ref j)/\(∃u v,IsPair h b u v)/\h.IsTupleIter i p k/\h.IsTupleIter j q k
theorem zb6{Q:ae->ag->Prop}(D:Xg z a b i j p q)(st:ZT z a b i j p q k s.heap)
  (hp:s.heap.IsTuple p xs) (hq:s.heap.IsTuple q ys) (hx:xs[k]?=aa x) (hy:ys[k]?=aa y)
  (cont:∀g h,(∀c o,c ∉ [z,b,i,j]->s.heap.get? c=aa o->g.get? c=aa o)->g.objs.size=s.heap.objs.size->IsPair g b x y->g.IsTupleIter i p (k + 1)->g.IsTupleIter j q (k + 1) ->
   cP z (g.push { cls:=.type "tuple",data:=.seq #[x,y] }) h->IsZip h z a b (rawInt g.objs.size)->Q (.ref g.objs.size) { s with heap:=h }) :
  wpAny (model P w) A (Builtin.«zip.__next__» ⟨[.ref z],[]⟩) (λr s'=>∃v,r=.done (.ret v)/\Q v s') E s:=by
 obtain⟨hz,ha,⟨u,v,hb⟩,hi,hj⟩:=st
 show wpAny _ _ (field (.ref z) 2 >>= _) _ _ _;refine ba (dE hz rfl (x:=.bool am) rfl ?_)
 show wpAny _ _ (field (.ref z) 3 >>= _) _ _ _;refine ba (dE hz rfl (x:=.ref a) rfl ?_)
 refine ba (fS ha rfl ?_);show wpAny _ _ (dF (.ref z) >>= _) _ _ _
 refine ba ?_;unfold dF
 refine ba (dE hz rfl (x:=.none) rfl (bg ?_));simp only[if_true]
 refine ba (lh ?_);refine ba (dE hz rfl (x:=.ref b) rfl ?_)
 refine ba (cX hz (by simp) λg1 z1 r1=>?_)
 replace z1:IsZip g1 z a b .ellipsis:=z1
 refine ba ?_;simp only[pP,p0,nK,List.forIn_nil]
 refine ba (ba (oN ?_));show wpAny _ _ (eo (.ref i) >>= _) _ _ _
 refine ba (zc8 (hi.extBut r1.extBut D.iz) (hp.extBut r1.extBut D.pz) (λx' g2 ex i2 r2=>bg ?_) λex=>by rw[hx] at ex;cases ex)
 obtain rfl:x'=x:=bV (ex.symm.trans hx)
 have b2:IsPair g2 b u v:=r2.extBut _ _ D.bi (r1.extBut _ _ D.bz hb)
 refine ba (fS b2 rfl ?_);refine ba (nZ b2 λg3 b3 r3=>?_)
 replace b3:IsPair g3 b x' v:=b3
 refine ba (mO (bg ?_));refine ba (ba (oN ?_));show wpAny _ _ (eo (.ref j) >>= _) _ _ _
 refine ba (zc8 (((hj.extBut r1.extBut D.jz).extBut r2.extBut D.ij.symm).extBut r3.extBut D.bj.symm) (((hq.extBut r1.extBut D.qz).extBut r2.extBut D.qi).extBut r3.extBut D.qb) (λy' g4 ey j4 r4=>bg ?_) λey=>by rw[hy] at ey;cases ey)
 obtain rfl:y'=y:=bV (ey.symm.trans hy)
 have b4:IsPair g4 b x' v:=r4.extBut _ _ D.bj b3
 refine ba (fS b4 rfl ?_);refine ba (nZ b4 λg5 b5 r5=>?_)
 replace b5:IsPair g5 b x' y':=b5
 refine ba (mO (bg (bg ?_)));refine ba (fS b5 rfl ?_);refine ba (oo ?_)
 have sz:g5.objs.size=s.heap.objs.size:=by rw[r5.1,r4.1,r3.1,r2.1,r1.1]
 have z5:IsZip g5 z a b .ellipsis:=r5.extBut _ _ D.bz.symm (r4.extBut _ _ D.jz.symm (r3.extBut _ _ D.bz.symm (r2.extBut _ _ D.iz.symm z1)))
 have k5:∀c o,c ∉ [z,b,i,j]->s.heap.get? c=aa o->g5.get? c=aa o:=λc o hc e=>by
  simp only[bE,cI,or_false,not_or] at hc
  exact r5.extBut _ _ hc.2.1 (r4.extBut _ _ hc.2.2.2 (r3.extBut _ _ hc.2.1 (r2.extBut _ _ hc.2.2.1 (r1.extBut _ _ hc.1 e))))
 have i5:g5.IsTupleIter i p (k + 1):=((i2.extBut r3.extBut D.bi.symm).extBut r4.extBut D.ij).extBut r5.extBut D.bi.symm
 have j5:g5.IsTupleIter j q (k + 1):=j4.extBut r5.extBut D.bj.symm
 show wpAny _ _ (gH (.ref z) (.ref g5.objs.size) >>= _) _ _ _;refine ba ?_;unfold gH
 have z6:IsZip (g5.push { cls:=.type "tuple",data:=.seq #[x',y'] }) z a b .ellipsis:=bd _ z5
 refine ba (cX z6 (by simp) λg7 z7 r7=>?_)
 replace z7:IsZip g7 z a b (rawInt g5.objs.size):=z7
 refine cX z7 (by simp) λg8 z8 r8=>?_
 replace z8:IsZip g8 z a b (rawInt g5.objs.size):=z8
 exact bg ⟨_,rfl,cont g5 g8 k5 sz b5 i5 j5 ⟨r8.1.trans r7.1,λc hc=>(r8.2 c hc).trans (r7.2 c hc)⟩ z8⟩
theorem zc9{Q:Fin->ag->Prop}(hh:A.handled=ah)(D:Xg z a b i j p q)(st:ZT z a b i j p q k s.heap)
  (hp:s.heap.IsTuple p xs) (hq:s.heap.IsTuple q ys) (hx:xs[k]?=ah) (hE:∀h e,(∀c o,c ∉ [z,b,i,j]->s.heap.get? c=aa o->h.get? c=aa o)->(∃o,h.get? e=aa o/\o.cls=.type "StopIteration")->E (.ref e) { s with heap:=h }) :
  wpAny (model P w) A (Builtin.«zip.__next__» ⟨[.ref z],[]⟩) Q E s:=by
 obtain⟨hz,ha,⟨u,v,hb⟩,hi,hj⟩:=st
 show wpAny _ _ (field (.ref z) 2 >>= _) _ _ _;refine ba (dE hz rfl (x:=.bool am) rfl ?_)
 show wpAny _ _ (field (.ref z) 3 >>= _) _ _ _;refine ba (dE hz rfl (x:=.ref a) rfl ?_)
 refine ba (fS ha rfl ?_);show wpAny _ _ (dF (.ref z) >>= _) _ _ _
 refine ba ?_;unfold dF
 refine ba (dE hz rfl (x:=.none) rfl (bg ?_));simp only[if_true]
 refine ba (lh ?_);refine ba (dE hz rfl (x:=.ref b) rfl ?_)
 refine ba (cX hz (by simp) λg1 z1 r1=>?_)
 replace z1:IsZip g1 z a b .ellipsis:=z1
 refine ba ?_;simp only[pP,p0,nK,List.forIn_nil]
 refine ba (ba (oN ?_));show wpAny _ _ (eo (.ref i) >>= _) _ _ _
 refine ba (zc8 (hi.extBut r1.extBut D.iz) (hp.extBut r1.extBut D.pz) (λx' g2 ex i2 r2=>by rw[hx] at ex;cases ex) λex=>⟨hh,λg2 e r2 he=>?_⟩)
 obtain⟨oe,hoe,hce⟩:=he
 have z2:IsZip g2 z a b .ellipsis:=r2 _ _ D.iz.symm z1
 have ez:e≠z:=λx=>by subst x;rw[z2] at hoe;cases hoe;simp at hce
 refine cX z2 (by simp) λg3 _ r3=>hE g3 e (λc o hc y=>?_) ⟨oe,r3.extBut _ _ ez hoe,hce⟩
 simp only[bE,cI,or_false,not_or] at hc
 exact r3.extBut _ _ hc.1 (r2 _ _ hc.2.2.1 (r1.extBut _ _ hc.1 y))
theorem zaC{Q:Option ae->ag->Prop}(D:Xg z a b i j p q)(st:ZT z a b i j p q k s.heap)
  (hp:s.heap.IsTuple p xs) (hq:s.heap.IsTuple q ys) (hx:xs[k]?=aa x) (hy:ys[k]?=aa y)
  (cont:∀g h,(∀c o,c ∉ [z,b,i,j]->s.heap.get? c=aa o->g.get? c=aa o)->g.objs.size=s.heap.objs.size->IsPair g b x y->g.IsTupleIter i p (k + 1)->g.IsTupleIter j q (k + 1) ->
   cP z (g.push { cls:=.type "tuple",data:=.seq #[x,y] }) h->IsZip h z a b (rawInt g.objs.size)->Q (aa (.ref g.objs.size)) { s with heap:=h }) :
  wpAny (model P w) A (pyNext (.ref z)) Q E s:=by
 have T:s.TypeIs (.ref z) "zip":=⟨_,st.1,rfl⟩
 unfold pyNext
 exact ba (gX (dv (name:=bc "__next__") T lE (c8 lE T F.entry_zip_next
   (zb6 D st hp hq hx hy λg h a1 a2 a3 a4 a5 a6 a7=>bg (cont g h a1 a2 a3 a4 a5 a6 a7)) (F.args_zip_next_1 _))))
theorem zb7{Q:Option ae->ag->Prop}(hh:A.handled=ah)(D:Xg z a b i j p q)(st:ZT z a b i j p q k s.heap)
  (hp:s.heap.IsTuple p xs) (hq:s.heap.IsTuple q ys) (hx:xs[k]?=ah) (cont:∀h,(∀c o,c ∉ [z,b,i,j]->s.heap.get? c=aa o->h.get? c=aa o)->Q ah { s with heap:=h }):wpAny (model P w) A (pyNext (.ref z)) Q E s:=by
 have T:s.TypeIs (.ref z) "zip":=⟨_,st.1,rfl⟩
 unfold pyNext
 refine ba (gX (dv (name:=bc "__next__") T lE (c8 lE T F.entry_zip_next (zc9 hh D st hp hq hx λh e hk he=>?_) (F.args_zip_next_1 _))))
 obtain⟨o,ho,hc⟩:=he
 exact ba (mZ (T:="StopIteration") (b:=af) ⟨o,ho,hc⟩ oq (bg (cont _ hk)))
end
abbrev zp1(h:av)(p:ac):av:=h.push { cls:=.type "tuple_iterator",data:=.fields #[.ref p,.int 0 0] }
abbrev zp3(h:av)(p q:ac):av:=(zp1 (zp1 h p) q).push { cls:=.type "tuple",data:=.seq #[.ref h.objs.size,.ref (zp1 h p).objs.size] }
abbrev zp4(h:av)(p q:ac):av:=(zp3 h p q).push { cls:=.type "tuple",data:=.seq #[.none,.none] }
abbrev zp5(h:av)(p q:ac):av:=(zp4 h p q).push { cls:=.type "zip",data:=.fields #[.none,.bool am,.bool am,.ref (zp1 (zp1 h p) q).objs.size,.ref (zp3 h p q).objs.size] }
theorem zaD(p q:ac)(xs ys:Array ae):Meets (Builtin.«zip.__new__» ⟨[.type "zip",.ref p,.ref q],[]⟩) (λ_ R s=>s.heap.IsTuple p xs/\s.heap.IsTuple q ys /\
   R (.ok (.ret (.ref (zp4 s.heap p q).objs.size))) { s with heap:=zp5 s.heap p q }) :=
 .of_wp λprog w A R s h=>by
  obtain⟨hp,g,d,tk,os⟩:=s
  obtain⟨h1,h2,h⟩:=h
  have hsub:=sub_zip
  have l1:Heap.IsTuple (Shared.heap ⟨hp,g,d,tk,os⟩) p xs:=h1
  have l2:Heap.IsTuple (Shared.heap ⟨hp.push { cls:=.type "tuple_iterator",data:=.fields #[.ref p,.int 0 0] },g,d,tk,os⟩) q ys:=Heap.IsTuple.push h2 _
  wp_walk using lR l1,lR l2
  exact⟨_,rfl,h⟩
section
variable {P:au}{w:aw}{A:ax}{E:ae->ag->Prop}{s:ag}
theorem zb8{Q:ae->ag->Prop}(hp:s.heap.IsTuple p xs)(hq:s.heap.IsTuple q ys)
  (h:∀h',ZT (s.heap.objs.size + 4) (s.heap.objs.size + 2) (s.heap.objs.size + 3) s.heap.objs.size (s.heap.objs.size + 1) p q 0 h'->(∀c o,s.heap.get? c=aa o->h'.get? c=aa o)->Q (.ref (s.heap.objs.size + 4)) { s with heap:=h' }) :
  wpAny (model P w) A (call (.type "zip") [.ref p,.ref q]) Q E s:=by
 refine callType_new F.called_zip (by lia) (F.typeCall_zip_2 _ _) (F.newCall_zip_2 _ _) (λobj=>F.args_object_init_3 obj _ _) F.entry_zip_new (zaD p q xs ys) ⟨hp,hq,?_⟩
 have e1:(zp1 s.heap p).objs.size=s.heap.objs.size + 1:=eR ..
 have e2:(zp1 (zp1 s.heap p) q).objs.size=s.heap.objs.size + 2:=by rw[eR,e1]
 have e3:(zp3 s.heap p q).objs.size=s.heap.objs.size + 3:=by rw[eR,e2]
 have e4:(zp4 s.heap p q).objs.size=s.heap.objs.size + 4:=by rw[eR,e3]
 have f5:(zp5 s.heap p q).get? (zp4 s.heap p q).objs.size=aa _:=bB _ rfl
 have f4:(zp5 s.heap p q).get? (zp3 s.heap p q).objs.size=aa _:=bd _ (bB _ rfl)
 have f3:(zp5 s.heap p q).get? (zp1 (zp1 s.heap p) q).objs.size=aa _:=bd _ (bd _ (bB _ rfl))
 have f2:(zp5 s.heap p q).get? (zp1 s.heap p).objs.size=aa _:=bd _ (bd _ (bd _ (bB _ rfl)))
 have f1:(zp5 s.heap p q).get? s.heap.objs.size=aa _:=bd _ (bd _ (bd _ (bd _ (bB _ rfl))))
 show _/\_
 rw[e2,e3,e4] at f5
 rw[e1,e2] at f3
 rw[e3] at f4
 rw[e1] at f2
 rw[e4]
 exact⟨⟨_,f5,rfl⟩,h _ ⟨f5,f3,⟨_,_,f4⟩,⟨_,f1,rfl,rfl⟩,⟨_,f2,rfl,rfl⟩⟩ λc o x=>bd _ (bd _ (bd _ (bd _ (bd _ x))))⟩
end
theorem Inv.turnedL{pins:List (ac × Obj)}{σ:St}{H:Hp}{s:ag}{h':av}{t':Nat}{ch:List ac}(I:Inv X pins σ H s)(k:∀b o,b ∉ ch->s.heap.get? b=aa o->h'.get? b=aa o)(hf:∀b∈ch,ql X pins H b) :
  Inv X pins σ H { s with heap:=h',toks:=t' }:=by
 have nit:∀b u,H b=aa u->b ∉ ch:=λb u e z=>by rw[(hf b z).1] at e;cases e
 refine I.step (g':=s.gens) (d':=s.drawn) (ch:=ch) (λb hb=>?_) (λb o _ _ hc e _=>k b o hc e) (λb o _ _ hc e _=>⟨o.slots,k b o hc e⟩) (λ_ _ _ _ n=>n) (λb o hc e=>⟨o,k b o hc e⟩) (λ_ _ e=>e) (λ_ _ _ e=>e) (λb ps e=>⟨#[],by rw[e];simp⟩) (λm hm=>?_) (λb u e=>?_) I.bare
 ·obtain⟨f0,f1,f2,f3,f4,f5⟩:=hf b hb
  exact⟨f3,f1,f4,f5⟩
 ·obtain⟨o,es,ep,ho,r⟩:=hm
  exact⟨o,es,ep,k _ o (λz=>(hf _ z).2.1 rfl) ho,r⟩
 ·refine(I.hok b u e).stay (λc v hc q=>k c v ?_ q) (λ_ q=>q) λ_ _ q=>q
  rcases hc with z | z
  ·rw[z];exact nit b u e
  ·exact nit c _ z
def Itz(K:bx)(p q:ac)(xs ys:List V):It:=⟨λi H=>i < xs.length/\SqT K H p xs/\SqT K H q ys,λi H x H'=>∃T u v,x=.ref T/\H T=ah/\H'=upd H T (.tup [u,v])/\xs[i]?=aa u/\ys[i]?=aa v,λi H=>xs.length<=i/\SqT K H p xs/\SqT K H q ys⟩
theorem zda{P:au}{w:aw}{K:bx}{elts:List aA}{x1}{pos:Pos}{z a b i j p q:ac}{xs ys:List V}(D:Xg z a b i j p q)(hl:xs.length=ys.length) :
  zaj P w K (.Tuple elts x1 pos) (Itz K p q xs ys) [z,a,b,i,j] z (ZT z a b i j p q) where
 mem:=by simp
 obj:=λk h st c hc=>by
  obtain⟨hz,ha,⟨u,v,hb⟩,⟨oi,hi,ci,di⟩,⟨oj,hj,cj,dj⟩⟩:=st
  simp only[bE,cI,or_false] at hc
  rcases hc with rfl | rfl | rfl | rfl | rfl
  ·exact⟨_,hz,λv z=>by cases z⟩
  ·exact⟨_,ha,λv z=>by cases z⟩
  ·exact⟨_,hb,λv z=>by cases z⟩
  ·exact⟨_,hi,λv z=>by rw[di] at z;cases z⟩
  ·exact⟨_,hj,λv z=>by rw[dj] at z;cases z⟩
 keep:=λk h h' st kk=>by
  obtain⟨hz,ha,⟨u,v,hb⟩,⟨oi,hi,ci⟩,⟨oj,hj,cj⟩⟩:=st
  exact⟨kk z (by simp) _ hz,kk a (by simp) _ ha,⟨u,v,kk b (by simp) _ hb⟩,⟨oi,kk i (by simp) _ hi,ci⟩,⟨oj,kk j (by simp) _ hj,cj⟩⟩
 item:=by
  intro X hP hw hK hc k pins s σ H E I hf st hg
  subst hP hw hK
  obtain⟨hlt,h1,h2⟩:=hg
  obtain⟨us,r1,p1,_⟩:=I.tuple h1
  obtain⟨vs,r2,p2,_⟩:=I.tuple h2
  obtain⟨u,hu,ru⟩:=r1.get (i:=k) (x:=xs[k]) (bb hlt)
  obtain⟨v,hv,rv⟩:=r2.get (i:=k) (x:=ys[k]'(hl ▸ hlt)) (bb (hl ▸ hlt))
  have sub:∀c∈[z,b,i,j],c∈[z,a,b,i,j]:=λc hc=>by
   simp only[bE,cI,or_false] at hc ⊢
   rcases hc with h | h | h | h <;> simp[h]
  refine zaC D st (show s.heap.IsTuple p us.toArray from p1) (show s.heap.IsTuple q vs.toArray from p2) (x:=u) (y:=v) (by simpa using hu) (by simpa using hv) λg h k5 sz b5 i5 j5 sb z8=>?_
  have I5:Inv X pins σ H { s with heap:=g }:=I.turnedL (t':=s.toks) k5 λc hc=>hf c (sub c hc)
  have I6:Inv X pins σ (upd H g.objs.size (.tup [xs[k],ys[k]'(hl ▸ hlt)])) { s with heap:=g.push { cls:=.type "tuple",data:=.seq #[u,v] } } :=
   I5.laid (a:=g.objs.size) (o:=.tup [xs[k],ys[k]'(hl ▸ hlt)]) (t':=s.toks) (λb u e=>bd _ e) (bh _) ⟨by show 2<=sizeLine;decide,[u,v],.cons ru (.cons rv .nil),⟨_,bB _ rfl,rfl,_,rfl⟩⟩
  have zlt:z < s.heap.objs.size:=bH st.1
  have old:∀c∈[z,a,b,i,j],c≠g.objs.size:=λc hc=>by
   obtain⟨hz,ha,⟨u,v,hb⟩,⟨oi,hi,ci⟩,⟨oj,hj,cj⟩⟩:=st
   rw[sz]
   simp only[bE,cI,or_false] at hc
   rcases hc with rfl | rfl | rfl | rfl | rfl
   ·exact bU (bH hz)
   ·exact bU (bH ha)
   ·exact bU (bH hb)
   ·exact bU (bH hi)
   ·exact bU (bH hj)
  have free:∀c∈[z,a,b,i,j],upd H g.objs.size (HO.tup [xs[k],ys[k]'(hl ▸ hlt)]) c=ah:=λc hc=>by rw[zk (old c hc)];exact(hf c hc).1
  have fz:ql X pins (upd H g.objs.size (HO.tup [xs[k],ys[k]'(hl ▸ hlt)])) z:=⟨free z (by simp),(hf z (by simp)).2⟩
  refine⟨.ref g.objs.size,rfl,lY z8 λh2 z9 sb2=>?_⟩
  have up:∀c o,c≠z->g.get? c=aa o->h2.get? c=aa o:=λc o hc e=>by
   rw[show h2.get? c=h.get? c from sb2.2 c hc,sb.2 c hc]
   exact bd _ e
  have I7:Inv X pins σ (upd H g.objs.size (.tup [xs[k],ys[k]'(hl ▸ hlt)])) { s with heap:=h2 }:=I6.turnedL (s:={ s with heap:=g.push { cls:=.type "tuple",data:=.seq #[u,v] } }) (t':=s.toks) (ch:=[z]) (λc o hc e=>by
   have hc:c≠z:=by simpa using hc
   rw[show h2.get? c=h.get? c from sb2.2 c hc,sb.2 c hc]
   exact e) λc hc=>by
    have:c=z:=by simpa using hc
    rw[this];exact fz
  refine⟨.ref g.objs.size,_,I7,rfl,⟨_,_,_,rfl,by have:=I5.hok.fresh (bh g.objs.size);exact this,rfl,bb hlt,bb (hl ▸ hlt)⟩,?_,free⟩
  have ka:g.get? a=_:=k5 a _ (by simp[D.az,D.ab,D.ai,D.aj]) st.2.1
  obtain⟨oi,hi,ci⟩:=i5
  obtain⟨oj,hj,cj⟩:=j5
  exact⟨z9,up a _ D.az ka,⟨_,_,up b _ D.bz b5⟩,⟨oi,up i _ D.iz hi,ci⟩,⟨oj,up j _ D.jz hj,cj⟩⟩
 done:=by
  intro X hP hw hK hc k pins s σ H E I hf st hg
  subst hP hw hK
  obtain⟨hlt,h1,h2⟩:=hg
  obtain⟨us,r1,p1,_⟩:=I.tuple h1
  obtain⟨vs,r2,p2,_⟩:=I.tuple h2
  have hl1:=r1.length
  refine zb7 (I.ok.hd hc) D st (show s.heap.IsTuple p us.toArray from p1) (show s.heap.IsTuple q vs.toArray from p2) (by simp;lia) λh hk=>⟨rfl,I.turnedL (t':=s.toks) hk λc hc=>hf c ?_⟩
  simp only[bE,cI,or_false] at hc ⊢
  rcases hc with h | h | h | h <;> simp[h]
 self:=λ_ _ _ _ _ st h=>iY st.1 h
section
variable {σ:St}{H:Hp}{nx:St->Hp->Prop}{B:V->St->Hp->(St->Hp->Prop)->Prop}
theorem zdb{K:bx}(xs ys:List V)(Pv:Nat->St->Hp->Prop)(h0:Pv 0 σ H)(hl:∀i σ H,Pv i σ H->SqT K H p xs/\SqT K H q ys)
  (hs:∀i u v T σ H,xs[i]?=aa u->ys[i]?=aa v->H T=ah->Pv i σ H->B (.ref T) σ (upd H T (.tup [u,v])) (Pv (i + 1))) (hd:∀σ H,Pv xs.length σ H->nx σ H) :
  ∃W:Nat->Nat->St->Hp->Prop,(∃m,W 0 m σ H)/\∀i m σ H,W i m σ H->((Itz K p q xs ys).stop i H/\nx σ H)\/((Itz K p q xs ys).go i H/\∃N:St->Hp->Prop,(∀σ' H',N σ' H'->∃m',m' < m/\W (i + 1) m' σ' H')/\∀x H',(Itz K p q xs ys).yld i H x H'->B x σ H' N):=by
 refine⟨λi m σ H=>m=xs.length - i/\i<=xs.length/\Pv i σ H,⟨xs.length,by simp,bW _,h0⟩,?_⟩
 rintro i m σ H ⟨rfl,hi,pv⟩
 by_cases hlt:i < xs.length
 ·refine .inr ⟨⟨hlt,hl i σ H pv⟩,Pv (i + 1),λσ' H' p'=>⟨xs.length - (i + 1),by lia,rfl,hlt,p'⟩,?_⟩
  rintro x H' ⟨T,u,v,rfl,hT,rfl,hu,hv⟩
  exact hs i u v T σ H hu hv hT pv
 ·obtain rfl:i=xs.length:=by lia
  exact .inl ⟨⟨bh _,hl _ σ H pv⟩,hd σ H pv⟩
end
abbrev zgW(K:bx):RC:=λxs H Q=>∃p ys,xs=[.ref p]/\((SqL K H p ys/\∀l,H l=ah->Q (.ref l) (upd H l (.tup ys)))\/(SqT K H p ys/\Q (.ref p) H))
def zbq(st:List (List V))(v:V):Option (List (List V)):=if isJ v=af then (match st.reverse with | b :: a :: r=>aa (r.reverse ++ [v :: (a ++ b)]) | _=>ah) else aa (st ++ [[v]])
def zaE:List V->List (List V)->Option (List (List V))
 | [],st=>aa st
 | v :: r,st=>(zbq st v).bind (zaE r)
theorem zdc:∀(p q:List V) (st:List (List V)),zaE (p ++ q) st=(zaE p st).bind (zaE q)
 | [],q,st=>rfl
 | v :: r,q,st=>by
  show (zbq st v).bind (zaE (r ++ q))=((zbq st v).bind (zaE r)).bind (zaE q)
  cases zbq st v with
  | none=>rfl
  | some st'=>exact zdc r q st'
end L2
namespace L2
open PySem PySem.W PyProof.Rows
section
variable {α β:Type}{lt:Nat->Nat->Bool}{n:Nat}
def kOk(lt:Nat->Nat->Bool)(n:Nat):KasT α->(α->Prop)->Prop
 | .ret a,R=>R a
 | .ask i j k,R=>i < n/\j < n/\i≠j/\kOk lt n (k (lt i j)) R
theorem jV:∀ {t:KasT α} {f:α->KasT β} {R:β->Prop},kOk lt n t (λa=>kOk lt n (f a) R)->kOk lt n (t.bind f) R
 | .ret _,_,_,h=>h
 | .ask _ _ _,_,_,h=>⟨h.1,h.2.1,h.2.2.1,jV h.2.2.2⟩
theorem va:∀ {t:KasT α} {R R':α->Prop},kOk lt n t R->(∀a,R a->R' a)->kOk lt n t R'
 | .ret _,_,_,h,m=>m _ h
 | .ask _ _ _,_,_,h,m=>⟨h.1,h.2.1,h.2.2.1,va h.2.2.2 m⟩
structure SO(lt:Nat->Nat->Bool)(n:Nat):Prop where
 irr:∀i,i < n->lt i i=am
 trans:∀i j k,i < n->j < n->k < n->lt i j=af->lt j k=af->lt i k=af
 tot:∀i j,i < n->j < n->i≠j->lt i j=am->lt j i=af
def PP(n:Nat)(p:Array Nat):Prop:=p.Perm (eG n).toArray
def gt(p:Array Nat)(k:Nat):Nat:=p.getD k 0
theorem jW(h:k < p.size):p[k]?=aa (gt p k):=by
 unfold gt
 rw[Array.getD_eq_getD_getElem?,cF h]
 rfl
theorem PP.size(h:PP n p):p.size=n:=by
 have:=h.size_eq
 simpa using this
theorem PP.blt(h:PP n p)(hk:k < n):gt p k < n:=by
 have hs:=h.size
 have m:gt p k∈p:=Array.mem_of_getElem? (jW (by lia))
 have m2:gt p k∈(eG n).toArray:=(oO h).mp m
 simpa using m2
theorem PP.inj(h:PP n p)(hi:i < n)(hj:j < n)(e:gt p i=gt p j):i=j:=by
 have hs:=h.size
 have nd:p.toList.Nodup:=by
  have:p.toList.Perm (eG n):=by
   have:=gA.mp h
   simpa using this
  exact this.nodup_iff.mpr List.nodup_range
 have e1:=jW (p:=p) (k:=i) (by lia)
 have e2:=jW (p:=p) (k:=j) (by lia)
 rw[<-e] at e2
 have e1':p.toList[i]?=aa (gt p i):=by simpa using e1
 have e2':p.toList[j]?=aa (gt p i):=by simpa using e2
 obtain⟨a1,b1⟩:=bq.mp e1'
 obtain⟨a2,b2⟩:=bq.mp e2'
 exact(gJ nd).mp (b1.trans b2.symm)
def ZC(lt:Nat->Nat->Bool)(p:Array Nat)(m:Nat):Prop:=∀i j,i < j->j < m->lt (gt p i) (gt p j)=af
def zgc(lt:Nat->Nat->Bool)(p:Array Nat)(m:Nat):Prop:=∀i j,i < j->j < m->lt (gt p j) (gt p i)=af
theorem zaF(S:SO lt n){p:Array Nat}(hp:PP n p):∀(f a:Nat),1<=a->a + f<=n->ZC lt p a->kOk lt n (kas_asc p f a) λm=>a<=m/\m<=a + f/\ZC lt p m/\(m < a + f->lt (gt p m) (gt p (m - 1))=af)
 | 0,a,h1,h2,hr=>⟨bh _,bh _,hr,λz=>absurd z (fK _)⟩
 | f + 1,a,h1,h2,hr=>by
  refine⟨hp.blt (by lia),hp.blt (by lia),(λz=>by have:=hp.inj (by lia) (by lia) z;lia),?_⟩
  show kOk lt n (if lt (gt p a) (gt p (a - 1))=af then .ret a else kas_asc p f (a + 1)) _
  by_cases c:lt (gt p a) (gt p (a - 1))=af
  ·rw[ao c]
   exact⟨bh _,by lia,hr,λ_=>c⟩
  ·rw[ak c]
   have up:lt (gt p (a - 1)) (gt p a)=af:=S.tot _ _ (hp.blt (by lia)) (hp.blt (by lia)) (λz=>by have:=hp.inj (by lia) (by lia) z;lia) (iA.mpr c)
   refine va (zaF S hp f (a + 1) (by lia) (by lia) λi j hij hj=>?_) λm ⟨x1,x2,x3,x4⟩=>⟨by lia,by lia,x3,λz=>x4 (by lia)⟩
   by_cases hja:j < a
   ·exact hr i j hij hja
   ·obtain rfl:j=a:=by lia
    by_cases hi:i=j - 1
    ·rw[hi];exact up
    ·exact S.trans _ _ _ (hp.blt (by lia)) (hp.blt (by lia)) (hp.blt (by lia)) (hr i (j - 1) (by lia) (by lia)) up
theorem zbr(S:SO lt n){p:Array Nat}(hp:PP n p):∀(f a:Nat),1<=a->a + f<=n->zgc lt p a->kOk lt n (kas_desc f p a 0) λr=>r.1=p/\r.2.2=0/\a<=r.2.1/\r.2.1<=a + f/\zgc lt p r.2.1
 | 0,a,h1,h2,hr=>⟨rfl,rfl,bh _,bh _,hr⟩
 | f + 1,a,h1,h2,hr=>by
  refine⟨hp.blt (by lia),hp.blt (by lia),(λz=>by have:=hp.inj (by lia) (by lia) z;lia),?_⟩
  show kOk lt n (if lt (gt p a) (gt p (a - 1))=af then (if 0 > 0 then _ else kas_desc f p (a + 1) 0) else .ask (gt p (a - 1)) (gt p a) λd=>if d=af then .ret (p,a,0) else kas_desc f p (a + 1) (0 + 1)) _
  by_cases c:lt (gt p a) (gt p (a - 1))=af
  ·rw[ao c,ak (by lia)]
   refine va (zbr S hp f (a + 1) (by lia) (by lia) λi j hij hj=>?_) λm ⟨x1,x2,x3,x4,x5⟩=>⟨x1,x2,by lia,by lia,x5⟩
   by_cases hja:j < a
   ·exact hr i j hij hja
   ·obtain rfl:j=a:=by lia
    by_cases hi:i=j - 1
    ·rw[hi];exact c
    ·exact S.trans _ _ _ (hp.blt (by lia)) (hp.blt (by lia)) (hp.blt (by lia)) c (hr i (j - 1) (by lia) (by lia))
  ·rw[ak c]
   have up:lt (gt p (a - 1)) (gt p a)=af:=S.tot _ _ (hp.blt (by lia)) (hp.blt (by lia)) (λz=>by have:=hp.inj (by lia) (by lia) z;lia) (iA.mpr c)
   refine⟨hp.blt (by lia),hp.blt (by lia),(λz=>by have:=hp.inj (by lia) (by lia) z;lia),?_⟩
   show kOk lt n (if lt (gt p (a - 1)) (gt p a)=af then .ret (p,a,0) else _) _
   rw[ao up]
   exact⟨rfl,rfl,bh _,fh _ _,hr⟩
theorem zdd(hm:m<=p.size)(hk:k < m):gt (kas_rev p 0 m) k=gt p (m - 1 - k):=by
 have e:=getElem?_mirror_all (xs:=p) (i:=0) (j:=m) hm k
 rw[ao ⟨bW _,hk⟩] at e
 have e1:=jW (p:=kas_rev p 0 m) (k:=k) (by unfold kas_rev;rw[mirror_size];lia)
 have e2:=jW (p:=p) (k:=m - 1 - k) (by lia)
 unfold kas_rev at e1 ⊢
 rw[e,show 0 + m - 1 - k=m - 1 - k by lia,e2] at e1
 exact(bV e1).symm
theorem PP.rev(h:PP n p)(m:Nat):PP n (kas_rev p 0 m):=pQ (mirror_perm _ _ _ _) h
theorem zeR(S:SO lt n)(hp:PP n p)(h1:1<=m)(h2:m<=n)(hf:zgc lt p m):kOk lt n (kas_tail3 m n p) λr=>PP n r.2/\ZC lt r.2 r.1/\1<=r.1/\r.1<=n:=by
 refine jV (va (zaF S (hp.rev m) (n - m) m h1 (by lia) λi j hij hj=>?_) λa ⟨x1,x2,x3,_⟩=>⟨hp.rev m,x3,by lia,by lia⟩)
 have hs:=hp.size
 rw[zdd (by lia) (by lia),zdd (by lia) hj]
 exact hf _ _ (by lia) (by lia)
theorem zde(S:SO lt n)(hp:PP n p)(hn:1<=n):kOk lt n (kas_count n p) λr=>PP n r.2/\ZC lt r.2 r.1/\1<=r.1/\r.1<=n:=by
 refine jV (va (zaF S hp (n - 1) 1 (bh _) (by lia) λi j hij hj=>by lia) λm ⟨x1,x2,x3,x4⟩=>?_)
 by_cases e:(m == n)=af
 ·rw[ao e]
  exact⟨hp,x3,x1,by lia⟩
 ·rw[ak e]
  have ne:m≠n:=by simpa using e
  by_cases h:m > 1
  ·rw[ao h]
   refine⟨hp.blt (by lia),hp.blt (by lia),(λz=>by have:=hp.inj (by lia) (by lia) z;lia),?_⟩
   show kOk lt n (if lt (gt p 0) (gt p (m - 1))=af then .ret (m,p) else _) _
   rw[ao (x3 0 (m - 1) (by lia) (by lia))]
   exact⟨hp,x3,x1,by lia⟩
  ·rw[ak h]
   obtain rfl:m=1:=by lia
   have c:=x4 (by lia)
   refine jV (va (zbr S hp (n - 2) 2 (by lia) (by lia) λi j hij hj=>?_) λr ⟨y1,y2,y3,y4,y5⟩=>?_)
   ·obtain rfl:j=1:=by lia
    obtain rfl:i=0:=by lia
    exact c
   ·rw[ak (by lia),y1]
    exact zeR S hp (by lia) (by lia) y5
theorem WO(S:SO lt n){p:Array Nat}(hp:PP n p){k:Nat}(hk:k < n)(hr:ZC lt p k):∀(f l r:Nat),l<=r->r<=k->r - l<=f->(∀i,i < l->lt (gt p i) (gt p k)=af)->(∀i,r<=i->i < k->lt (gt p k) (gt p i)=af) ->
  kOk lt n (nP p k f l r) λm=>m<=k/\(∀i,i < m->lt (gt p i) (gt p k)=af)/\∀i,m<=i->i < k->lt (gt p k) (gt p i)=af
 | 0,l,r,h1,h2,h3,h4,h5=>⟨by lia,h4,λi hi hik=>h5 i (by lia) hik⟩
 | f + 1,l,r,h1,h2,h3,h4,h5=>by
  unfold nP
  by_cases c:l >= r
  ·rw[ao c]
   exact⟨by lia,h4,λi hi hik=>h5 i (by lia) hik⟩
  ·rw[ak c]
   refine⟨hp.blt (by lia),hp.blt (by lia),(λz=>by have:=hp.inj (by lia) (by lia) z;lia),?_⟩
   show kOk lt n (if lt (gt p k) (gt p ((l + r) / 2))=af then _ else _) _
   by_cases d:lt (gt p k) (gt p ((l + r) / 2))=af
   ·rw[ao d]
    refine WO S hp hk hr f l ((l + r) / 2) (by lia) (by lia) (by lia) h4 λi hi hik=>?_
    by_cases e:i=(l + r) / 2
    ·rw[e];exact d
    ·exact S.trans _ _ _ (hp.blt (by lia)) (hp.blt (by lia)) (hp.blt (by lia)) d (hr _ i (by lia) hik)
   ·rw[ak d]
    have up:lt (gt p ((l + r) / 2)) (gt p k)=af:=S.tot _ _ (hp.blt (by lia)) (hp.blt (by lia)) (λz=>by have:=hp.inj (by lia) (by lia) z;lia) (iA.mpr d)
    refine WO S hp hk hr f ((l + r) / 2 + 1) r (by lia) (by lia) (by lia) (λi hi=>?_) h5
    by_cases e:i=(l + r) / 2
    ·rw[e];exact up
    ·exact S.trans _ _ _ (hp.blt (by lia)) (hp.blt (by lia)) (hp.blt (by lia)) (hr i _ (by lia) (by lia)) up
theorem zdf(hk:k < p.size)(hd:d<=k)(hj:j < p.size):gt (bubble p k d) j=if j=k - d then gt p k else if k - d < j/\j<=k then gt p (j - 1) else gt p j:=by
 have e:=getElem?_bubble hk d hd j
 rw[jW (p:=bubble p k d) (k:=j) (by rw[bubble_size];exact hj)] at e
 by_cases h1:j=k - d
 ·rw[ao h1,jW hk] at e
  rw[ao h1];exact bV e
 ·rw[ak h1] at e ⊢
  by_cases h2:k - d < j/\j<=k
  ·rw[ao h2,jW (by lia)] at e
   rw[ao h2];exact bV e
  ·rw[ak h2,jW hj] at e
   rw[ak h2];exact bV e
theorem zdg(S:SO lt n):∀(f:Nat) {p:Array Nat} (k:Nat),PP n p->k + f=n->ZC lt p k->kOk lt n (kas_bin f p k) λp'=>PP n p'/\ZC lt p' n
 | 0,p,k,hp,hk,hr=>⟨hp,by rw[<-hk];exact hr⟩
 | f + 1,p,k,hp,hk,hr=>by
  have hs:=hp.size
  refine jV (va (WO S hp (by lia) hr k 0 k (bW _) (bh _) (by lia) (λi hi=>by lia) (λi h1 h2=>by lia)) λl ⟨x1,x2,x3⟩=>?_)
  refine zdg S f (k + 1) (pQ (bubble_perm _ _ _) hp) (by lia) λi j hij hj=>?_
  rw[zdf (by lia) (by lia) (by lia),zdf (by lia) (by lia) (by lia)]
  have e:k - (k - l)=l:=by lia
  rw[e]
  by_cases hi:i=l
  ·rw[ao hi,ak (by lia),ao (by lia)]
   exact x3 _ (by lia) (by lia)
  ·rw[ak hi]
   by_cases hi2:l < i/\i<=k
   ·rw[ao hi2,ak (by lia),ao (by lia)]
    exact hr _ _ (by lia) (by lia)
   ·rw[ak hi2]
    by_cases hj1:j=l
    ·rw[ao hj1]
     exact x2 _ (by lia)
    ·rw[ak hj1]
     by_cases hj2:l < j/\j<=k
     ·rw[ao hj2]
      by_cases hij2:i < j - 1
      ·exact hr _ _ hij2 (by lia)
      ·lia
     ·rw[ak hj2]
      exact hr _ _ hij (by lia)
theorem zeS(S:SO lt n)(hn:1<=n):kOk lt n (kas_sort n) λp=>PP n p/\ZC lt p n:=by
 refine jV (va (zde S (p:=pK (eG n)) (p8 _) hn) λr ⟨x1,x2,x3,x4⟩=>?_)
 by_cases h:r.1 < n
 ·rw[ao h,Nat.max_eq_left x3]
  exact zdg S _ _ x1 (by lia) x2
 ·rw[ak h]
  obtain e:r.1=n:=by lia
  exact⟨x1,by rw[<-e];rw[e] at x2 ⊢;exact x2⟩
end
theorem zdh{α:Type}{lt:Nat->Nat->Bool}{n:Nat}{s:ag}{cmp:Nat->Nat->(Bool->ag->Prop)->ag->Prop}(hc:∀i j C,i < n->j < n->i≠j->C (lt i j) s->cmp i j C s):∀ {t:KasT α} {R:α->Prop} {Q:α->ag->Prop},kOk lt n t R->(∀a,R a->Q a s)->t.kasWp cmp Q s
 | .ret _,_,_,h,m=>m _ h
 | .ask _ _ _,_,_,h,m=>hc _ _ _ h.1 h.2.1 h.2.2.1 (zdh hc h.2.2.2 m)
def Kp(a:ac)(h h':av):Prop:=∀b o,b≠a->h.get? b=aa o->h'.get? b=aa o
def vx(vs:List ae)(p:Array Nat):List ae:=p.toList.map λi=>vs.getD i cL
theorem K4(vs:List ae):vx vs (pK (eG vs.length))=vs:=by
 unfold vx
 apply eV
 intro i
 simp only[bw]
 by_cases h:i < vs.length
 ·rw[bb (l:=vs) h]
  simp[lF h,h]
 ·rw[cG (by lia:vs.length<=i)]
  simp
  lia
section
variable {P:au}{w:aw}{A:ax}{E:ae->ag->Prop}{s:ag}
theorem WP{a:ac}{vs:List ae}{n:Nat}{κ:SortKind}{lt:Nat->Nat->Bool}{R:PySem.Fin->ag->Prop}(ho:s.heap.get? a=aa (seqObj "list" vs.toArray n))(h64:vs.length < 64)
  (hk:2<=vs.length->∀(h:av) (Q:SortKind->ag->Prop),Kp a s.heap h->Q κ { s with heap:=h }->wpAny (model P w) A (keyKind' vs.toArray) Q (λ_ _=>False) { s with heap:=h })
  (hc:∀(h:av) i j C,Kp a s.heap h->i < vs.length->j < vs.length->i≠j->C (lt i j) { s with heap:=h }->kas_ask P w A κ vs i j C { s with heap:=h }) (S:SO lt vs.length)
  (fin:∀h p c,Kp a s.heap h->h.get? a=aa (seqObj "list" (vx vs p).toArray c)->PP vs.length p->ZC lt p vs.length->R (.done (.ret .none)) { s with heap:=h }) :
  wpAny (model P w) A (Builtin.«list.sort» ⟨[.ref a],[]⟩) R E s:=by
 have ha:a < s.heap.objs.size:=bH ho
 obtain⟨e1,o1⟩:∃e1,(s.heap.update a (dI λ_=>(#[]:Array ae))).get? a=aa (seqObj "list" #[] e1):=⟨_,get?_update_seq ho λ_=>#[]⟩
 have k1:Kp a s.heap (((s.heap.update a (dI λ_=>(#[]:Array ae))).push (seqObj "tuple" vs.toArray 0)).push (seqObj "list" #[] 0)):=λb o hb e =>
  bd _ (bd _ ((dW _ _ (fc hb)).trans e))
 have o3:(((s.heap.update a (dI λ_=>(#[]:Array ae))).push (seqObj "tuple" vs.toArray 0)).push (seqObj "list" #[] 0)).get? a=aa (seqObj "list" #[] e1):=bd _ (bd _ o1)
 have last:∀out:List ae,out.length=vs.length->∃c,((((s.heap.update a (dI λ_=>(#[]:Array ae))).push (seqObj "tuple" vs.toArray 0)).push (seqObj "list" #[] 0)).update a (dI λ_=>out.toArray)).get? a=aa (seqObj "list" out.toArray c):=λout _=>⟨_,get?_update_seq o3 λ_=>out.toArray⟩
 have keep2:∀out:List ae,Kp a s.heap ((((s.heap.update a (dI λ_=>(#[]:Array ae))).push (seqObj "tuple" vs.toArray 0)).push (seqObj "list" #[] 0)).update a (dI λ_=>out.toArray)):=λout b o hb e =>
  (dW _ _ (fc hb)).trans (k1 b o hb e)
 rw[list_sort_plain];refine ba (listItems_at ho rfl ?_)
 refine ba (oP ho rfl ?_ (by rw[bK,bT];lia) (bW _));refine ba (seqEpoch_at o1 rfl ?_)
 refine ba (oo ?_ (by show vs.length<=_;rw[bT];lia));refine ba (oQ ?_ (bW _));refine eO ?_
 show wpAny (model P w) A _ R E { s with heap:=((s.heap.update a (dI λ_=>(#[]:Array ae))).push (seqObj "tuple" vs.toArray 0)).push (seqObj "list" #[] 0) }
 generalize hH:((s.heap.update a (dI λ_=>(#[]:Array ae))).push (seqObj "tuple" vs.toArray 0)).push (seqObj "list" #[] 0)=g at *
 dsimp only
 have up:∀out:List ae,out.length=vs.length->∀p,out=vx vs p->PP vs.length p->ZC lt p vs.length->R (.done (.ret .none)) { s with heap:=g.update a (dI λ_=>out.toArray) }:=λout hl p e hp hr=>by
  obtain⟨c,hcc⟩:=last out hl
  refine fin _ p c (keep2 out) ?_ hp hr
  rw[<-e];exact hcc
 by_cases h2:vs.toArray.size < 2
 ·have hl2:vs.length < 2:=by simpa using h2
  rw[ao h2,ao h2];refine ba (bg ?_);rw[StateT.run_pure];refine ba (bg ?_)
  dsimp only
  have ez:((vs.toArray.zip vs.toArray).map (·.2))=vs.toArray:=by
   apply mY.mp
   rw[Array.toList_map,Array.toList_zip]
   simp[List.map_snd_zip]
  refine ba (seqEpoch_at o3 rfl ?_)
  rw[show (arrOf (SortSt.mk' general' (vs.toArray.zip vs.toArray) #[] 7 ah))=vs.toArray.zip vs.toArray from rfl,ez]
  refine ba (oP o3 rfl ?_ (bW _) (by rw[bK,bT];lia))
  simp only[bne_self_eq_false,cC,if_false]
  exact bg (up vs rfl _ (K4 vs).symm (p8 _) λi j hij hj=>by lia)
 ·have hl2:2<=vs.length:=by simpa using h2
  rw[ak h2,ak h2];refine ba (dG (hk hl2 g (λκ' s'=>κ'=κ/\s'={ s with heap:=g }) k1 ⟨rfl,rfl⟩) (λκ' s' hs=>?_) λ_ _ x=>x.elim)
  obtain⟨rfl,rfl⟩:=hs
  have run:=zdh (s:={ s with heap:=g }) (cmp:=kas_ask P w A κ' vs) (λi j C hi hj hij hC=>hc g i j C k1 hi hj hij hC) (zeS S (by lia)) (Q:=λp s'=>s'={ s with heap:=g }/\PP vs.length p/\ZC lt p vs.length) λp hp=>⟨rfl,hp⟩
  refine ba (dG (kat_run (ks:=vs) (Q:=λst s'=>∃p:Array Nat,arrOf st=p.map (kas_item (vs.toArray.zip vs.toArray))/\failedOf st=ah/\s'={ s with heap:=g }/\PP vs.length p/\ZC lt p vs.length) rfl hl2 h64 (λp st s' _ a2 a3 a4=>⟨p,a2,a3,a4⟩) run) ?_ λ_ _ e=>e)
  rintro⟨⟨⟩,st⟩ s' ⟨p,har,hf,rfl,hp,hr⟩
  dsimp only
  have out:=kat_snds (ks:=vs) rfl har
  have ol:(vx vs p).length=vs.length:=by unfold vx;rw[bo,cr,hp.size]
  rw[out];refine ba (seqEpoch_at o3 rfl ?_)
  refine ba (oP o3 rfl ?_ (bW _) (by show (pK (vx vs p)).size<=_;rw[bK,ol,bT];lia));rw[hf]
  simp only[bne_self_eq_false,cC,if_false]
  exact bg (up (vx vs p) ol p rfl hp hr)
theorem XL{l:ac}{vs:List ae}{κ:SortKind}{lt:Nat->Nat->Bool}{Q:ae->ag->Prop}(h64:vs.length < 64)(S:SO lt vs.length)
  (coll:∀R:List ae->ag->Prop,(∀(h:av) (tk:Nat),(∀b o,s.heap.get? b=aa o->h.get? b=aa o)->R vs { s with heap:=h,toks:=tk })->wpAny (model P w) A.in1 (collect (.ref l)) R E s)
  (hk:2<=vs.length->∀(h:av) (tk:Nat) (Q:SortKind->ag->Prop),(∀b o,s.heap.get? b=aa o->h.get? b=aa o)->Q κ { s with heap:=h,toks:=tk }->wpAny (model P w) A.in1.in1 (keyKind' vs.toArray) Q (λ_ _=>False) { s with heap:=h,toks:=tk })
  (hc:∀(h:av) (tk:Nat) i j C,(∀b o,s.heap.get? b=aa o->h.get? b=aa o)->i < vs.length->j < vs.length->i≠j->C (lt i j) { s with heap:=h,toks:=tk }->kas_ask P w A.in1.in1 κ vs i j C { s with heap:=h,toks:=tk })
  (fin:∀(h:av) (tk:Nat) (h':av) (p:Array Nat) (c:Nat),(∀b o,s.heap.get? b=aa o->h.get? b=aa o)->(∀b o,h.get? b=aa o->h'.get? b=aa o)->h'.get? h.objs.size=aa (seqObj "list" (vx vs p).toArray c)->PP vs.length p->ZC lt p vs.length->Q (.ref h.objs.size) { s with heap:=h',toks:=tk }) :
  wpAny (model P w) A (call (.builtin "sorted") [.ref l]) Q E s:=by
 refine lZ kind_sorted plain_sorted entry_sorted (args_sorted1 _) ?_;unfold Builtin.«sorted»
 refine ba (m:=checkCount "sorted" 1 1 _) (bg ?_);refine ba (coll _ λh tk hk1=>?_)
 refine ba (oQ ?_ (by rw[bT];lia))
 have hoL:(h.push (seqObj "list" vs.toArray 0)).get? h.objs.size=aa (seqObj "list" vs.toArray 0):=bB _ rfl
 have kept:∀h',Kp h.objs.size (h.push (seqObj "list" vs.toArray 0)) h'->∀b o,h.get? b=aa o->h'.get? b=aa o:=λh' k b o e=>k b o (bU (bH e)) (bd _ e)
 refine ba (eO (c8 slot_list_sort ⟨_,hoL,rfl⟩ entry_list_sort (WP (s:={ s with heap:=h.push (seqObj "list" vs.toArray 0),toks:=tk }) hoL h64 (κ:=κ) (lt:=lt) (λh2 h' Q' k q=>?_) (λh' i j C k hi hj hij q=>?_) S λh' p c k ho hp hr=>?_) (args_list_sort _)))
 ·exact hk h2 h' tk Q' (λb o e=>kept h' k b o (hk1 b o e)) q
 ·exact hc h' tk i j C (λb o e=>kept h' k b o (hk1 b o e)) hi hj hij q
 ·exact⟨_,rfl,bg ⟨_,rfl,fin h tk h' p c hk1 (kept h' k) ho hp hr⟩⟩
end
section
variable {lt:Nat->Nat->Bool}{n:Nat}
theorem PP.ask(h:PP n p)(hi:i < n)(hj:j < n)(hij:i≠j):gt p i < n/\gt p j < n/\gt p i≠gt p j:=⟨h.blt hi,h.blt hj,λz=>hij (h.inj hi hj z)⟩
theorem Jb{p:Array Nat}(hp:PP n p){k:Nat}(hk:k < n):∀(f l r:Nat),l<=r->r<=k->kOk lt n (nP p k f l r) λm=>m<=k
 | 0,l,r,h1,h2=>bN h1 h2
 | f + 1,l,r,h1,h2=>by
  unfold nP
  split
  ·exact bN h1 h2
  ·obtain⟨x,y,z⟩:=hp.ask (i:=k) (j:=(l + r) / 2) (by lia) (by lia) (by lia)
   refine⟨x,y,z,?_⟩
   show kOk lt n (if lt (gt p k) (gt p ((l + r) / 2))=af then nP p k f l ((l + r) / 2) else nP p k f ((l + r) / 2 + 1) r) _
   split
   ·exact Jb hp hk f l _ (by lia) (by lia)
   ·exact Jb hp hk f _ r (by lia) (by lia)
end
def yj(a b:Str × Int):Bool:=if a.1=b.1 then decide (a.2 < b.2) else decide (a.1.cps.toList < b.1.cps.toList)
def PlAt(h:av)(v:ae)(q:Str × Int):Prop:=∃a o t u n,v=.ref a/\h.get? a=aa o/\o.cls=.type "tuple"/\o.data=.seq #[.str q.1 t,.int q.2 u] n
section
variable {P:au}{w:aw}{A:ax}{E:ae->ag->Prop}{s:ag}
theorem zeT{Q:Bool->ag->Prop}(h:Q (decide (a.cps.toList < c.cps.toList)) s):wpAny (model P w) A (oneLt' af (.str a t) (.str c u)) Q E s:=by
 rw[<-keyLt'_oneType]
 exact kas_lt_str h
theorem zeU{a c:Int}{Q:Bool->ag->Prop}(h:Q (decide (a < c)) s):wpAny (model P w) A (oneLt' am (.int a t) (.int c u)) Q E s:=
 kat_one _ _ (ou (show W.BoolBack Q (.bool (decide (a < c))) s from h))
theorem zb9{a b:Str × Int}{Q:Bool->ag->Prop}(hx:PlAt s.heap x a)(hy:PlAt s.heap y b)(h:Q (yj a b) s)(hn:a≠b):wpAny (model P w) A (keyLt' (tuples' af) x y) Q E s:=by
 obtain⟨p,o,t,u,n,rfl,ho,hc,hd⟩:=hx
 obtain⟨p2,o2,t2,u2,n2,rfl,ho2,hc2,hd2⟩:=hy
 refine kat_lt ho hd ho2 hd2 (kat_cons (wpAny_eqBool_str (kat_go (λe=>kat_yes (kat_cons (wpAny_eqBool_int (kat_go (λe2=>?_) λe2=>kat_no ?_)))) λe=>kat_no ?_)))
 ·exact absurd (rB (of_decide_eq_true e) (by simpa using e2)) hn
 ·have e:=of_decide_eq_true e
  unfold yj at h
  rw[ao e] at h
  exact zeU h
 ·have e:=of_decide_eq_false e
  unfold yj at h
  rw[ak e] at h
  exact zeT h
theorem zaG{vs:List ae}{qs:List (Str × Int)}{Q:SortKind->ag->Prop}(hl:vs.length=qs.length)(hv:∀(i:Nat) (v:ae) (q:Str × Int),vs[i]?=aa v->qs[i]?=aa q->PlAt s.heap v q)(h2:0 < vs.length)(h:Q (tuples' af) s) :
  wpAny (model P w) A (keyKind' vs.toArray) Q E s:=by
 have T:∀(vs:List ae) (qs:List (Str × Int)),vs.length=qs.length->(∀(i:Nat) (v:ae) (q:Str × Int),vs[i]?=aa v->qs[i]?=aa q->PlAt s.heap v q)->∃fs,KatTups s.heap vs fs/\fs.length=vs.length/\∀v∈fs,∃x t,v=gQ x t:=by
  intro vs
  induction vs with
  | nil=>exact λqs _ _=>⟨[],trivial,rfl,λ_ z=>nomatch z⟩
  | cons v r ih =>
   intro qs hl hv
   match qs,hl with
   | q :: qr,hl =>
    obtain⟨fs,k,kl,kf⟩:=ih qr (by simpa using hl) λi v' q' e1 e2=>hv (i + 1) v' q' (by simpa using e1) (by simpa using e2)
    obtain⟨a,o,t,u,n,rfl,ho,hc,hd⟩:=hv 0 v q rfl rfl
    refine⟨.str q.1 t :: fs,rE ho hc hd rfl k,by simp[kl],λz hz=>?_⟩
    rcases bE.mp hz with rfl | hz
    ·exact⟨_,_,rfl⟩
    ·exact kf z hz
 obtain⟨fs,k,kl,kf⟩:=T vs qs hl hv
 refine kat_kind (T:=.type "str") k (by lia) (λv hv=>?_) (by lia) h
 obtain⟨x,t,rfl⟩:=kf v hv
 exact Looks.of_pure rfl
end
theorem K7{x y:Str}(h:x.cps.toList=y.cps.toList):x=y:=by
 obtain⟨a⟩:=x
 obtain⟨b⟩:=y
 have:a=b:=mY.mp h
 rw[this]
theorem WQ{qs:List (Str × Int)}(hn:qs.Nodup):SO (λi j=>yj (qs.getD i ("",0)) (qs.getD j ("",0))) qs.length where
 irr:=λi _=>by
  unfold yj
  rw[ao rfl]
  exact decide_eq_false (by lia)
 trans:=λi j k _ _ _ h1 h2=>by
  generalize qs.getD i ("",0)=a at *
  generalize qs.getD j ("",0)=b at *
  generalize qs.getD k ("",0)=c at *
  unfold yj at *
  by_cases e1:a.1=b.1
  ·rw[ao e1] at h1
   by_cases e2:b.1=c.1
   ·rw[ao e2] at h2
    rw[ao (e1.trans e2)]
    have h1:=of_decide_eq_true h1
    have h2:=of_decide_eq_true h2
    exact decide_eq_true (by lia)
   ·rw[ak e2] at h2
    rw[ak (by rw[e1];exact e2),e1]
    exact h2
  ·rw[ak e1] at h1
   have h1:=of_decide_eq_true h1
   by_cases e2:b.1=c.1
   ·rw[ak (by rw[<-e2];exact e1),<-e2]
    exact decide_eq_true h1
   ·rw[ak e2] at h2
    have h2:=of_decide_eq_true h2
    have h3:=List.lt_trans h1 h2
    rw[ak (λz=>by rw[z] at h3;exact List.lt_irrefl _ h3)]
    exact decide_eq_true h3
 tot:=λi j hi hj hij h=>by
  have ne:qs.getD i ("",0)≠qs.getD j ("",0):=λz=>hij (by
   rw[bC,bC,bb hi,bb hj] at z
   exact(gJ hn).mp z)
  generalize qs.getD i ("",0)=a at *
  generalize qs.getD j ("",0)=b at *
  unfold yj at *
  by_cases e:a.1=b.1
  ·rw[ao e] at h
   rw[ao e.symm]
   have h:=of_decide_eq_false h
   have:a.2≠b.2:=λz=>ne (rB e z)
   exact decide_eq_true (by lia)
  ·rw[ak e] at h
   rw[ak (λz=>e z.symm)]
   have h:=of_decide_eq_false h
   refine decide_eq_true ?_
   rcases List.le_iff_lt_or_eq.mp (List.not_lt.mp h) with z | z
   ·exact z
   ·exact absurd (K7 z.symm) e
end L2
namespace L2
open PySem
def RawD(h:av)(d:ac)(es:Array DictEntry)(ep:Nat):Prop:=∃o,h.get? d=aa o/\o.ExactDict/\o.data=.dict es ep
section
variable {P:au}{w:aw}{A:ax}{E:ae->ag->Prop}{s:ag}
theorem RawD.type(x:RawD s.heap d es ep):s.TypeIs (.ref d) "dict":=let ⟨o,ho,hc,_⟩:=x;⟨o,ho,hc.1⟩
theorem RawD.at(x:RawD h d es ep)(e:∀o,h.get? d=aa o->h'.get? d=aa o):RawD h' d es ep:=let ⟨o,ho,r⟩:=x;⟨o,e _ ho,r⟩
theorem K8{Q:ae->ag->Prop}(lo:(d == sysModules)=am)(hm:RawD s.heap d es ep)
  (q:Q (.ref s.heap.objs.size) { s with heap:=s.heap.push { cls:=.type "dict_keyiterator",data:=.fields #[.ref d,.int 0 0,.int es.size 0,.int ep 0] } }):wpAny (model P w) A (pyIter (.ref d)) Q E s:=by
 have T:=hm.type
 obtain⟨o,ho,hc,hd⟩:=id hm
 refine wpAny_pyIter_slot T F.slot_dict_iter (c8 F.slot_dict_iter T F.entry_dict_iter ?_ (F.args_dict_iter_1 _));unfold Builtin.«dict.__iter__»
 refine ba ?_;unfold Builtin.Dict.dictSlotNone;refine ba (fm T ?_)
 show wpAny _ _ (pure (bL d)) _ _ s;refine bg ?_
 show wpAny _ _ (gg d >>= _) _ _ s;unfold gg
 rw[ak (by rw[lo];exact bG)];refine ba (bg ?_)
 refine ba (dJ ho hd ?_);refine ba (gh ho hd ?_)
 refine ba (cV (bg ⟨_,rfl,"dict_keyiterator",_,⟨_,bB _ rfl,rfl⟩,F.slot_dict_keyiterator_next.lookup,?_⟩));simpa[rawInt] using q
theorem K9{Q:Option ae->ag->Prop}(hit:s.heap.IsKeyIter it d i es.size ep)(hm:RawD s.heap d es ep)(hx:es[i]?=aa e)
  (q:∀h,h.IsKeyIter it d (i + 1) es.size ep->cP it s.heap h->Q (aa e.key) { s with heap:=h }):wpAny (model P w) A (pyNext (.ref it)) Q E s:=by
 obtain⟨o,ho,hc,hd⟩:=id hit
 obtain⟨od,hod,hcd,hdd⟩:=id hm
 have lt:i < es.size:=by
  rcases fo i es.size with h | h
  ·exact h
  ·rw[ig h] at hx;cases hx
 unfold pyNext
 refine ba (gX (dv (name:=bc "__next__") hit.typeIs eQ (c8 eQ hit.typeIs iZ ?_ (iN _))))
 refine ba (bg ?_);refine ba ?_;refine ba ?_
 first | (refine ba (eL hit.typeIs (bg ?_))) | (refine ba (fI hit.typeIs (bg ?_)))
 refine ba (l7 ho hd ?_);have own:dL "dict_keyiterator"=am:=by lia
 simp only[own,cC,if_false];show wpAny _ _ (if (bL d == cL)=af then _ else _) _ _ s
 rw[ak (show ¬ ((bL d == cL)=af) from bG)];refine ba (bg ?_);refine ba (dJ hod hdd ?_)
 rw[ak (by simp)];refine ba (bg ?_);refine ba (gh hod hdd ?_);rw[ak (by simp)];refine bg ?_
 simp only[show ¬ ((i:Int) < 0) from by lia,if_false,dH,hx]
 refine ba ?_
 first | (refine ba (eL hit.typeIs (bg ?_))) | (refine ba (fI hit.typeIs (bg ?_)))
 refine ba (nQ hit.typeIs ?_);show wpAny _ _ (setField (.ref it) 1 (rawInt ((i:Int) + 1)) >>= _) _ _ s
 refine ba (iF ho hd (by simp) ?_)
 have next:(s.heap.update it (Obj.mapFields (·.setIfInBounds 1 (rawInt ((i:Int) + 1))))).IsKeyIter it d (i + 1) es.size ep:=by
  refine⟨_,eC _ ho (nO (gW hd _)),(pC ..).trans hc,?_⟩;rw[gW hd];simp[rawInt]
 refine ba (eO ?_)
 refine ba (nQ (s:={ s with heap:=s.heap.update it (Obj.mapFields (·.setIfInBounds 1 (rawInt ((i:Int) + 1)))) }) next.typeIs ?_);show wpAny _ _ (pure e.key) _ _ _
 exact bg (bg ⟨_,rfl,bg (q _ next (cY ..))⟩)
theorem zbs{Q:Option ae->ag->Prop}(hh:A.handled=ah)(hit:s.heap.IsKeyIter it d i es.size ep)(hm:RawD s.heap d es ep)(hx:es.size<=i)
  (q:∀h,pZ it s.heap h->Q ah { s with heap:=h }):wpAny (model P w) A (pyNext (.ref it)) Q E s:=by
 obtain⟨o,ho,hc,hd⟩:=id hit
 obtain⟨od,hod,hcd,hdd⟩:=id hm
 unfold pyNext
 refine ba (gX (dv (name:=bc "__next__") hit.typeIs eQ (c8 eQ hit.typeIs iZ ?_ (iN _))))
 refine ba (bg ?_);refine ba ?_;refine ba ?_
 first | (refine ba (eL hit.typeIs (bg ?_))) | (refine ba (fI hit.typeIs (bg ?_)))
 refine ba (l7 ho hd ?_);have own:dL "dict_keyiterator"=am:=by lia
 simp only[own,cC,if_false];show wpAny _ _ (if (bL d == cL)=af then _ else _) _ _ s
 rw[ak (show ¬ ((bL d == cL)=af) from bG)];refine ba (bg ?_);refine ba (dJ hod hdd ?_)
 rw[ak (by simp)];refine ba (bg ?_);refine ba (gh hod hdd ?_);rw[ak (by simp)];refine bg ?_
 simp only[show ¬ ((i:Int) < 0) from by lia,if_false,dH,ig hx]
 refine ba ?_
 first | (refine ba (eL hit.typeIs (bg ?_))) | (refine ba (fI hit.typeIs (bg ?_)))
 show wpAny _ _ (setField (.ref it) 0 .none >>= _) _ _ s;refine ba (iF ho hd (by simp) ?_)
 show wpAny _ _ (newExc (.type "StopIteration") [] >>= _) _ _ _;refine ba ?_;simp only[newExc,newTuple]
 refine ba (cV ?_ (by size_fits));refine ba (m:=firstArgMember _ _) (wpAny_of_eq (a:=cL) (by first | rfl | (simp only[firstArgMember];rfl)) ?_)
 refine cV ?_ (by size_fits);simp only[raiseNew]
 refine ba (oM ?_);rw[show A.in1.handled=ah from hh];refine ba (bg (wpAny_throw ?_))
 exact ba (mZ (T:="StopIteration") (b:=af) ⟨_,bB _ rfl,rfl⟩ oq (bg (q _ (((cY ..).extBut.push _).push _))))
theorem zca(hh:A.handled=ah)(I d:ac)(hne:d≠I)(es:Array DictEntry)(ep:Nat) :
  Walks P w A I [I,d] [I] es.size (λi v=>∃e,es[i]?=aa e/\v=e.key) (λi h=>h.IsKeyIter I d i es.size ep/\RawD h d es ep) where
 sub:=λb hb=>by simp at hb;simp[hb]
 frame:=λ_ _ _ st hk=>⟨st.1.at λo e=>hk I (by simp) o e,st.2.at λo e=>hk d (by simp) o e⟩
 item:=λi s Q E hi st hQ=>by
  refine K9 st.1 st.2 (cF hi) λh' hit' hs'=>?_
  exact hQ _ h' s.toks ⟨_,cF hi,rfl⟩ ⟨hit',st.2.at λo e=>hs'.extBut d o hne e⟩ λb o hb e=>hs'.extBut b o (λh=>hb (by simp[h])) e
 done:=λs Q E st hQ=>zbs hh st.1 st.2 (bh _) λh' he'=>hQ h' s.toks λb o hb e=>he' b o (λh=>hb (by simp[h])) e
 self:=λ_ _ _ _ st hQ=>n0 st.1 hQ
end
end L2
namespace L2
open PySem PySem.Spec PyProof.Rows
section
open PySem.SeqAt
open PySem.AutoSeq1 (wpAny_loadPart')
open PySem.MeetsSeq PySem.MeetsSeq2 PySem.MeetsSeq3
theorem WR(l b:ac)(x y:Str)(i j:Int)(t u t2 u2:Tok)(n n2:Nat)(dd dd2:Option ac)(sl sl2:Array (Option ae)) :
  Meets (Builtin.«tuple.__lt__» ⟨[.ref l,.ref b],[]⟩) (λ_ R s=>s.heap.get? l=aa { cls:=.type "tuple",dict:=dd,data:=.seq #[.str x t,.int i u] n,slots:=sl } /\
   s.heap.get? b=aa { cls:=.type "tuple",dict:=dd2,data:=.seq #[.str y t2,.int j u2] n2,slots:=sl2 }/\R (.ok (.ret (.bool (yj (x,i) (y,j))))) s) :=
 .of_wp λprog w A R s h=>by
  obtain⟨hp,g,d,tk,os⟩:=s;obtain⟨hl,hb,h⟩:=h
  have f2:=AutoSeq1.sub_tuple_tuple
  have lt1:∀(E:ae->ag->Prop) (Q:ae->ag->Prop) (s:ag),Q (.bool (decide (x.cps.toList < y.cps.toList))) s->wpAny (model prog w) A.in1 (richCompare .Lt (.str x t) (.str y t2)) Q E s:=λE Q s q=>(PyProof.Rows.lt_str q:wpAny (model prog w) A.in1 (compareOp .Lt (.str x t) (.str y t2)) Q E s)
  have lt2:=HT.rcLt_int A.in1 ⟨hp,g,d,tk,os⟩ i u j u2 prog w
  by_cases e:x=y
  ·subst e
   have eq1:=lU (A:=A.in1) (s:=⟨hp,g,d,tk,os⟩) x t x t2 prog w
   rw[beq_self_eq_true] at eq1
   unfold yj at h
   rw[ao rfl] at h
   by_cases e2:i=j
   ·subst e2
    have eq2:=lS (A:=A.in1) (s:=⟨hp,g,d,tk,os⟩) i u i u2 prog w
    rw[beq_self_eq_true] at eq2
    wp_walk using gj hl,gj hb,eq1,eq2
    exact⟨_,rfl,by simpa[Builtin.Tuple.tupleCompareSizes] using h⟩
   ·have eq2:=lS (A:=A.in1) (s:=⟨hp,g,d,tk,os⟩) i u j u2 prog w
    rw[show (i == j)=am from by simpa using e2] at eq2
    wp_walk using gj hl,gj hb,eq1,eq2,lt2
    exact⟨_,rfl,by simpa using h⟩
  ·have eq1:=lU (A:=A.in1) (s:=⟨hp,g,d,tk,os⟩) x t y t2 prog w
   rw[show (x == y)=am from by simpa using e] at eq1
   unfold yj at h
   rw[ak e] at h
   wp_walk using gj hl,gj hb,eq1,lt1
   exact⟨_,rfl,by simpa using h⟩
end
section
variable {P:au}{w:aw}{A:ax}{E:ae->ag->Prop}{s:ag}
theorem RawD.lt(x:RawD h d es ep):d < h.objs.size:=let ⟨_,ho,_⟩:=x;bH ho
theorem JR{d:ac}{es:Array DictEntry}{ep:Nat}(lo:(d == sysModules)=am):W.KdlSrc P w "dict" d d es.size (λi v=>∃e,es[i]?=aa e/\v=e.key) (λh=>RawD h d es ep) where
 type:=λ_ hm=>hm.type
 there:=λ_ hm=>⟨hm.lt,hm.lt⟩
 keep:=λ_ _ hm hk=>hm.at λo e=>hk d (.inl rfl) o e
 notList:=by lia
 notTuple:=by lia
 hint:=λ_ _ _ _ hm hq=>W.kdl_hint_dict hm.type hq
 iter:=λ_ _ hh hm=>⟨_,_,(λ_ _ hq=>K8 lo hm hq),zca hh _ d (bU hm.lt) es ep,⟨⟨_,bB _ rfl,rfl,rfl⟩,hm.at λo e=>bd _ e⟩⟩
theorem XM{G:Nat->ae->Prop}{OK:av->Prop}{R:List ae->ag->Prop}(K:W.KdlSrc P w T r d n G OK)(hh:A.handled=ah)(hok:OK s.heap)(hn:n<=sizeLine)
  (h:∀(h':av) (tk:Nat) (vs:List ae),(∀b o,s.heap.get? b=aa o->h'.get? b=aa o)->vs.length=n->(∀j v,vs[j]?=aa v->G j v)->R vs { s with heap:=h',toks:=tk }) :
  wpAny (model P w) A (collect (.ref r)) R E s:=by
 obtain⟨lr,ld⟩:=K.there _ hok
 unfold collect
 refine ba (wpAny_runValue (eZ n9 ?_));rw[dy lG _]
 show wpAny _ A.in1 (newList [] >>= λl=>again (.builtin "list.__iadd__" ⟨[l,.ref r],[]⟩)) _ _ s;refine ba (cV ?_)
 refine bg ⟨gy fO _,eZ entry_list_iadd' ?_⟩;rw[dy fO _]
 have hS:(s.heap.push { cls:=.type "list",data:=.seq ([]:List ae).toArray }).get? s.heap.objs.size=aa { cls:=.type "list",data:=.seq #[] }:=bB _ rfl
 show wpAny _ A.in1 (dn (.ref s.heap.objs.size) (.ref r) (.ref s.heap.objs.size)) _ _ _
 have key:=W.kdl_extend (A:=A) (s:={ s with heap:=s.heap.push { cls:=.type "list",data:=.seq ([]:List ae).toArray } }) (R:=λ(q:aC) (s':ag)=>∃(h':av) (tk:Nat) (acc:Array ae) (c:Nat),q=.ok (.ret (.ref s.heap.objs.size))/\s'={ s with heap:=h',toks:=tk } /\
   (∀b o,s.heap.get? b=aa o->h'.get? b=aa o)/\h'.get? s.heap.objs.size=aa { cls:=.type "list",dict:=ah,data:=.seq acc c,slots:=#[] }/\ItemsOf G acc n) K hh (K.keep _ _ hok λb _ o e=>bd _ e) s.heap.objs.size (fj lr) (fj ld) (.ref s.heap.objs.size) 0 hS
  (λh' tk acc c hk hS' hacc=>⟨h',tk,acc,c,rfl,rfl,λb o e=>hk b o (bU (bH e)) (bd _ e),hS',hacc⟩) hn
 refine dG key (λfin s' x=>?_) λe s' x=>?_
 ·cases fin with
  | done f =>
   obtain⟨h',tk,acc,c,e,rfl,hk,hS',hacc⟩:=x
   cases e
   show wpAny _ A (load s.heap.objs.size >>= _) _ _ _;refine ba (nW hS' ?_)
   exact bg (h h' tk acc.toList hk (by rw[cr];exact hacc.1) λj v e=>hacc.2 j v (by rw[<-cQ];exact e))
  | again c =>
   refine⟨x.1,fY x.2 λq s' x=>?_⟩
   obtain⟨h',tk,acc,c,rfl,rfl,hk,hS',hacc⟩:=x
   show wpAny _ A (load s.heap.objs.size >>= _) _ _ _;refine ba (nW hS' ?_)
   exact bg (h h' tk acc.toList hk (by rw[cr];exact hacc.1) λj v e=>hacc.2 j v (by rw[<-cQ];exact e))
 ·obtain⟨h',tk,acc,c,e',_⟩:=x
  cases e'
end
def zy(q:Str × Int):List Key:=[.inr q.1,.inl q.2]
abbrev Qa:RC:=λxs H Q=>∃(a:ac) (kvs:List (List Key × V)) (qs:List (Str × Int)),xs=[.ref a]/\H a=aa (.dT kvs)/\kvs.map (·.1)=qs.map zy/\kvs.length < 64 /\
 ∀(l:ac) (ps:List (ac × (Str × Int))),H l=ah->(ps.map (·.2)).Perm qs->(ps.map (·.2)).Pairwise (λa b=>yj a b=af)->(∀n∈ps,H n.1=aa (.tup [.str n.2.1,.int n.2.2]))->Q (.ref l) (upd H l (.lst (ps.map λn=>V.ref n.1)))
theorem yv{α β:Type}{F:α->β->Prop}:∀ {l₁:List α} {l₂:List β},Paired F l₁ l₂->∀ {i:Nat} {a:α} {b:β},l₁[i]?=aa a->l₂[i]?=aa b->F a b
 | _,_,.nil,i,a,b,h,_=>by simp at h
 | _,_,.cons x r,0,a,b,h1,h2=>by
  simp only[bf,bu] at h1 h2
  subst h1 h2
  exact x
 | _,_,.cons x r,i + 1,a,b,h1,h2=>yv r (by simpa using h1) (by simpa using h2)
theorem PlAt.keep{q:Str × Int}(x:PlAt h v q)(k:∀b o,h.get? b=aa o->h'.get? b=aa o):PlAt h' v q:=by
 obtain⟨a,o,t,u,n,e,ho,r⟩:=x
 exact⟨a,o,t,u,n,e,k _ _ ho,r⟩
section
variable {X:Cx}
theorem Qb{σ:St}{H:Hp}{s:ag}{a:ac}{q:Str × Int}(I:Inv X pins σ H s)(h:H a=aa (.tup [.str q.1,.int q.2])):PlAt s.heap (.ref a) q:=by
 obtain⟨its,rv,⟨o,ho,hc,n,hd⟩,_⟩:=I.tuple (SqT.of h)
 cases rv with
 | cons r1 rr =>
  cases rr with
  | cons r2 rn =>
   cases rn
   obtain⟨t,rfl⟩:=r1
   obtain⟨u,rfl⟩:=r2
   exact⟨a,o,t,u,n,rfl,ho,hc,hd⟩
theorem xL{α β:Type}{f:α->β}:∀ {l:List α},(l.map f).Nodup->l.Nodup
 | [],_=>ef
 | a :: r,h=>by
  rw[bM,cO] at h
  exact cO.mpr ⟨λz=>h.1 (bX z),xL h.2⟩
theorem YF(hc:X.calm=af):jQ X (.builtin "sorted") Qa:=by
 intro pins s σ H xs us Q I r h
 obtain⟨a,kvs,qs,rfl,ha,hk,h64,q⟩:=h
 obtain⟨u,rfl,ru⟩:=qu r
 cases ru
 obtain⟨hz,lo,xs,rel,o,es,ep,ho,hx,hd,he,hn⟩:=(show ObjOk X.prog X.w H s.heap a (.dT kvs) from I.hok a _ ha)
 have hh:X.A.handled=ah:=I.ok.hd hc
 have lk:kvs.length=qs.length:=by have:=congrArg b8 hk;simpa using this
 have lx:kvs.length=xs.length:=bF rel
 have les:es.size=xs.length:=by rw[<-cr,he,bo]
 -- the keys in their order
 have key:∀(i:Nat) (x:List Key × ac × ae),xs[i]?=aa x->∃q,qs[i]?=aa q/\x.1=zy q/\H x.2.1=aa (.tup [.str q.1,.int q.2]):=λi x hx=>by
  have hi:=(bq.mp hx).1
  obtain⟨kv,hkv⟩:∃kv,kvs[i]?=aa kv:=⟨_,bb (by lia)⟩
  obtain⟨q,hq⟩:∃q,qs[i]?=aa q:=⟨_,bb (by lia)⟩
  have rl:=yv rel hkv hx
  have e1:kv.1=zy q:=by
   have e1:(kvs.map (·.1))[i]?=aa kv.1:=by rw[bw,hkv];rfl
   have e2:(qs.map zy)[i]?=aa (zy q):=by rw[bw,hq];rfl
   rw[hk,e2] at e1
   exact(bV e1).symm
  refine⟨q,hq,by rw[<-rl.1,e1],?_⟩
  have:=rl.2.1
  rw[e1] at this
  exact this
 have nq:qs.Nodup:=by
  refine xL (f:=zy) ?_
  have e:xs.map (·.1)=qs.map zy:=by
   rw[<-hk]
   apply eV
   intro i
   rw[bw,bw]
   cases hx:xs[i]? with
   | none =>
    have:xs.length<=i:=by simpa using hx
    rw[cG (by lia:kvs.length<=i)]
    rfl
   | some x =>
    have hi:=(bq.mp hx).1
    have hkv:kvs[i]?=aa kvs[i]:=bb (by lia)
    rw[hkv]
    have:=(yv rel hkv hx).1
    simp[this]
  rw[<-e];exact hn
 have vv:∀(i:Nat) (v:ae) (q:Str × Int),(xs.map λx=>bL x.2.1)[i]?=aa v->qs[i]?=aa q->PlAt s.heap v q:=λi v q hv hq=>by
  rw[bw] at hv
  obtain⟨x,hx,rfl⟩:=cy.mp hv
  obtain⟨q',hq',_,hH⟩:=key i x hx
  rw[hq] at hq'
  cases hq'
  exact Qb I hH
 have lv:(xs.map λx=>bL x.2.1).length=qs.length:=by rw[bo];lia
 have vat:∀i,i < qs.length->PlAt s.heap ((xs.map λx=>bL x.2.1).getD i cL) (qs.getD i ("",0)):=λi hi=>by
  refine vv i _ _ ?_ ?_
  ·rw[bC,bb (by rw[lv];exact hi)];rfl
  ·rw[bC,bb hi];rfl
 have S:=WQ nq
 rw[<-lv] at S
 refine XL (vs:=xs.map λx=>bL x.2.1) (κ:=tuples' af) (by rw[bo];lia) S (λR hR=>?_) (λh2 h tk Q' kp q'=>?_) (λh tk i j C kp hi hj hij q'=>?_) λh tk h' p c k1 k2 hD hp hr=>?_
 ·refine XM (JR (ep:=ep) (es:=es) lo) hh ⟨o,ho,hx,hd⟩ (by rw[les];lia) λh' tk vs kp hl hG=>?_
  have ev:vs=xs.map λx=>bL x.2.1:=by
   apply eV
   intro i
   by_cases hi:i < vs.length
   ·obtain⟨e,hes,ek⟩:=hG i vs[i] (bb hi)
    have e2:es.toList[i]?=aa e:=by rw[cQ];exact hes
    rw[he,bw] at e2
    obtain⟨x,hxx,ex⟩:=cy.mp e2
    rw[bb hi,ek,bw,hxx,<-ex]
    rfl
   ·rw[cG (by lia),cG (by rw[bo];lia)]
  rw[ev]
  exact hR h' tk kp
 ·exact zaG (s:={ s with heap:=h,toks:=tk }) lv (λi v q hv hq=>(vv i v q hv hq).keep kp) (by lia) q'
 ·rw[lv] at hi hj
  refine zb9 (s:={ s with heap:=h,toks:=tk }) ((vat i hi).keep kp) ((vat j hj).keep kp) q' λz=>hij ?_
  rw[bC,bC,bb hi,bb hj] at z
  exact(gJ nq).mp z
 ·have I1:Inv X pins σ H { s with heap:=h,toks:=tk }:=I.kept k1
  have ps:∃ps:List (ac × (Str × Int)),ps.map (λn=>bL n.1)=vx (xs.map λx=>bL x.2.1) p/\ps.map (·.2)=p.toList.map (λi=>qs.getD i ("",0))/\∀n∈ps,H n.1=aa (.tup [.str n.2.1,.int n.2.2]):=by
   have pl:∀i∈p.toList,i < xs.length:=λi hi=>by
    have:i∈p:=by simpa using hi
    have:=(oO hp).mp this
    rw[bo] at this
    simpa using this
   refine⟨p.toList.map λi=>((xs.getD i ([],0,.none)).2.1,qs.getD i ("",0)),?_,by rw[gm];rfl,λn hn=>?_⟩
   ·unfold vx
    rw[gm]
    refine fN λi hi=>?_
    have:=pl i hi
    simp[bC,bw,bb this]
   ·obtain⟨i,hi,rfl⟩:=bP.mp hn
    have hl:=pl i hi
    obtain⟨q,hq,_,hH⟩:=key i xs[i] (bb hl)
    have e1:xs.getD i ([],0,.none)=xs[i]:=by rw[bC,bb hl];rfl
    have e2:qs.getD i ("",0)=q:=by rw[bC,hq];rfl
    show H (xs.getD i ([],0,.none)).2.1=aa (.tup [.str (qs.getD i ("",0)).1,.int (qs.getD i ("",0)).2])
    rw[e1,e2]
    exact hH
  obtain⟨ps,e1,e2,hps⟩:=ps
  have vr:Vals (ps.map λn=>V.ref n.1) (ps.map λn=>bL n.1):=by
   clear e1 e2 hps
   induction ps with
   | nil=>exact .nil
   | cons n r ih=>exact .cons rfl ih
  have psz:p.size=xs.length:=by have:=hp.size;rw[bo] at this;exact this
  have pln:ps.length=xs.length:=by have:=congrArg b8 e1;unfold vx at this;simpa[psz] using this
  have I2:Inv X pins σ (upd H h.objs.size (.lst (ps.map λn=>V.ref n.1))) { s with heap:=h',toks:=tk }:=I1.laid (s:={ s with heap:=h,toks:=tk }) (a:=h.objs.size) (o:=.lst (ps.map λn=>V.ref n.1)) (t':=tk) k2 (bh _)
   ⟨by rw[bo];lia,ps.map λn=>bL n.1,c,vr,by rw[e1];exact hD⟩
  refine⟨.ref h.objs.size,_,I2,rfl,q _ ps (I1.hok.fresh (bh _)) ?_ ?_ hps⟩
  ·rw[e2]
   have pr:p.toList.Perm (eG qs.length):=by
    have:=gA.mp hp
    rw[lv] at this
    simpa using this
   refine(pr.map _).trans ?_
   have:(eG qs.length).map (λi=>qs.getD i ("",0))=qs:=by
    apply eV
    intro i
    rw[bw]
    by_cases hi:i < qs.length
    ·rw[lF hi,bb hi]
     simp[bC,bb hi]
    ·rw[cG (by simpa using hi),cG (by lia)]
     rfl
   rw[this]
  ·rw[e2,fJ,fq]
   intro i j hi hj hij
   rw[cr] at hi hj
   have g1:=jW hi
   have g2:=jW hj
   have r:=hr i j hij (by rw[bo];lia)
   have x1:p.toList[i]=gt p i:=by
    rw[cF hi] at g1
    simpa using g1
   have x2:p.toList[j]=gt p j:=by
    rw[cF hj] at g2
    simpa using g2
   rw[x1,x2]
   exact r
end
def Itd(a:ac)(o:Obj)(kvs:List (List Key × V)):It :=
 ⟨λi H=>H a=aa (.frz o (.dT kvs))/\i < kvs.length,λi H x H'=>H'=H/\∃k v p,kvs[i]?=aa (k,v)/\x=.ref p/\H p=aa (.tup (k.map kV)),λi H=>H a=aa (.frz o (.dT kvs))/\kvs.length<=i⟩
section
variable {X:Cx}
theorem JS{σ:St}{H:Hp}{s:ag}{a:ac}{o:Obj}{kvs:List (List Key × V)}(I:Inv X pins σ H s)(ha:H a=aa (.frz o (.dT kvs))) :
  (a == sysModules)=am/\∃(es:Array DictEntry) (ep:Nat),o.data=.dict es ep/\RawD s.heap a es ep/\es.size=kvs.length/\∀(i:Nat) (e:DictEntry),es[i]?=aa e->∃(k:List Key) (v:V) (p:ac),kvs[i]?=aa (k,v)/\e.key=bL p/\H p=aa (.tup (k.map kV)):=by
 obtain⟨hg,hz,lo,xs,rel,o',es,ep,ho,hx,hd,he,hn⟩:=(show ObjOk X.prog X.w H s.heap a (.frz o (.dT kvs)) from I.hok a _ ha)
 rw[hg] at ho
 cases ho
 have lx:kvs.length=xs.length:=bF rel
 have les:es.size=xs.length:=by rw[<-cr,he,bo]
 refine⟨lo,es,ep,hd,⟨o,hg,hx,hd⟩,by lia,λi e hi=>?_⟩
 have e2:es.toList[i]?=aa e:=by rw[cQ];exact hi
 rw[he,bw] at e2
 obtain⟨x,hxx,ex⟩:=cy.mp e2
 have hl:=(bq.mp hxx).1
 have hk:kvs[i]?=aa kvs[i]:=bb (by lia)
 have rl:=yv rel hk hxx
 refine⟨kvs[i].1,kvs[i].2,x.2.1,hk,by rw[<-ex];rfl,rl.2.1⟩
theorem zaH{P:au}{w:aw}{K:bx}{tg:aA}{a it:ac}{o:Obj}{kvs:List (List Key × V)}{es:Array DictEntry}{ep:Nat}(hd:o.data=.dict es ep) :
  zaj P w K tg (Itd a o kvs) [it] it (λi h=>h.IsKeyIter it a i es.size ep) where
 mem:=by simp
 obj:=λi h st b hb=>by
  have e:b=it:=by simpa using hb
  subst e
  obtain⟨o,e,c,d⟩:=st
  exact⟨o,e,λv z=>by rw[d] at z;cases z⟩
 keep:=λi h h' st k=>st.at λo e=>k it (by simp) o e
 item:=by
  intro X hP hw hK hc i pins s σ H E I hf st hg
  subst hP hw hK
  obtain⟨ha,hi⟩:=hg
  obtain⟨lo,es',ep',hd',raw,hs,key⟩:=JS I ha
  rw[hd] at hd'
  cases hd'
  obtain⟨f0,f1,f2,f3,f4,f5⟩:=hf it (by simp)
  have hx:es[i]?=aa es[i]:=cF (by lia)
  obtain⟨k,v,p,hk,ek,hp⟩:=key i _ hx
  refine K9 st raw hx λh' st' sb=>?_
  have I1:Inv X pins σ H { s with heap:=h' }:=I.turned (t':=s.toks) (λb o hb e=>(sb.2 b hb).trans e) f0 f1 f3 f4 f5
  obtain⟨o',e,c,d⟩:=id st'
  exact⟨_,rfl,zba (s:={ s with heap:=h' }) e c d (by lia) ⟨.ref p,H,I1,by rw[ek];rfl,⟨rfl,k,v,p,hk,rfl,hp⟩,st',λb hb=>(hf b hb).1⟩⟩
 done:=by
  intro X hP hw hK hc i pins s σ H E I hf st hg
  subst hP hw hK
  obtain⟨ha,hi⟩:=hg
  obtain⟨lo,es',ep',hd',raw,hs,key⟩:=JS I ha
  rw[hd] at hd'
  cases hd'
  obtain⟨f0,f1,f2,f3,f4,f5⟩:=hf it (by simp)
  exact zbs (I.ok.hd hc) st raw (by lia) λh' eb=>⟨rfl,I.turned (t':=s.toks) (λb o hb e=>eb b o hb e) f0 f1 f3 f4 f5⟩
 self:=λ_ _ _ _ _ st h=>n0 st h
def iDT(tl:TE):TI:=λσ H R=>tl σ H λx H1=>∃a o kvs,x=.ref a/\H1 a=aa (.frz o (.dT kvs))/\R (Itd a o kvs) H1
theorem zdi{tl:TE}(hl:PE X l tl):PI X tg l (iDT tl):=by
 intro pins s σ H R I h
 refine thn (hl pins s σ H _ I h) λv s1 ⟨x,H1,I1,r1,q1⟩=>?_
 obtain⟨a,o,kvs,e,ha,q⟩:=q1
 subst e
 cases r1
 obtain⟨lo,es,ep,hd,raw,hs,key⟩:=JS I1 ha
 refine K8 lo raw ?_
 refine⟨s1.heap.objs.size,[s1.heap.objs.size],_,_,H1,rfl,I1.kept (t':=s1.toks) λb o e=>bd _ e,zaH hd,⟨_,bB _ rfl,rfl,rfl⟩,λb hb=>?_,q⟩
 have e:b=s1.heap.objs.size:=by simpa using hb
 subst e
 exact I1.fpOk (bh _) (I1.hok.fresh (bh _))
def zdj:HO->Prop
 | .tup _=>False
 | .own _=>False
 | .tbl _=>False
 | _=>True
theorem Inv.relab{σ:St}{H:Hp}{s:ag}{a:ac}{u u':HO}(I:Inv X pins σ H s)(ha:H a=aa u)(hp:zdj u)(hf:∀o z,X.H₀ a≠aa (.frz o z))(ho:ObjOk X.prog X.w (upd H a u') s.heap a u'):Inv X pins σ (upd H a u') s:=by
 have nn:∀b,H b=ah->b≠a:=λb n z=>by subst z;rw[n] at ha;cases ha
 have ntup:∀b xs,H b=aa (.tup xs)->b≠a:=λb xs q z=>by subst z;rw[ha] at q;cases q;exact hp
 have nown:∀b y,H b=aa (.own y)->b≠a:=λb y q z=>by subst z;rw[ha] at q;cases q;exact hp
 have ntbl:∀b y,H b=aa (.tbl y)->b≠a:=λb y q z=>by subst z;rw[ha] at q;cases q;exact hp
 refine⟨I.ok,I.os,I.bare,⟨I.base.keep,I.base.slot,λb o q n hb=>?_,I.base.there,λb xs q=>?_,λb o z q=>?_,λb ps q=>?_⟩,I.loc,I.cell,?_,λx c e=>?_,λp hp=>?_,λb v q=>?_,I.len⟩
 ·have:=I.base.free b o q n hb
  rw[zk (nn b this)];exact this
 ·have:=I.base.tups b xs q
  rw[zk (ntup b xs this)];exact this
 ·have:=I.base.frzs b o z q
  rw[zk (λe=>hf o z (by rw[<-e];exact q))];exact this
 ·obtain⟨m,e⟩:=I.base.tbls b ps q
  exact⟨m,by rw[zk (ntbl b _ e)];exact e⟩
 ·rw[zk (nn _ I.free)];exact I.free
 ·have:=I.freeC x c e
  rw[zk (nn _ this)];exact this
 ·obtain⟨h1,h2,h3⟩:=I.pin p hp
  exact⟨h1,by rw[zk (nn _ h2)];exact h2,h3⟩
 ·by_cases hb:b=a
  ·subst hb
   rw[zg] at q;cases q;exact ho
  ·rw[zk hb] at q
   exact(I.hok b v q).stay (λ_ _ _ r=>r) (λc r=>by rw[zk (nown c b r)];exact r) λc xs r=>by rw[zk (ntup c xs r)];exact r
def zgd(t:TS):TS:=λD σ H=>∃a u0 kvs,H a=aa u0/\(u0=.dT kvs\/∃o,u0=.frz o (.dT kvs))/\∀o,t
 ⟨λσ' H'=>H' a=aa (.frz o (.dT kvs))/\D.nx σ' (upd H' a u0),λv H'=>H' a=aa (.frz o (.dT kvs))/\D.rt v (upd H' a u0),λσ' H'=>H' a=aa (.frz o (.dT kvs))/\D.bk σ' (upd H' a u0),λσ' H'=>H' a=aa (.frz o (.dT kvs))/\D.ct σ' (upd H' a u0)⟩ σ (upd H a (.frz o (.dT kvs)))
theorem ObjOk.upd_dT{H:Hp}(ha:H a=aa u)(hp:zdj u)(x:ObjOk P w H h a (.dT kvs)):ObjOk P w (upd H a u') h a (.dT kvs):=by
 refine x.stay (λ_ _ _ r=>r) (λc r=>?_) λc xs r=>?_
 ·rw[zk λz=>by subst z;rw[ha] at r;cases r;exact hp];exact r
 ·rw[zk λz=>by subst z;rw[ha] at r;cases r;exact hp];exact r
theorem zge{st:ay}{t:TS}(hst:PS X st t):PS X st (zgd t):=by
 rintro pins s σ H D I ⟨a,u0,kvs,ha,hu,h⟩
 have pl:zdj u0:=by rcases hu with rfl | ⟨o,rfl⟩ <;> trivial
 -- the object as it stands
 have ob:∃o,s.heap.get? a=aa o/\(u0=.dT kvs\/u0=.frz o (.dT kvs)):=by
  rcases hu with rfl | ⟨o,rfl⟩
  ·obtain⟨hz,lo,xs,rel,o,es,ep,ho,_⟩:=(show ObjOk X.prog X.w H s.heap a (.dT kvs) from I.hok a _ ha)
   exact⟨o,ho,.inl rfl⟩
  ·exact⟨o,(show ObjOk X.prog X.w H s.heap a (.frz o (.dT kvs)) from I.hok a _ ha).1,.inr rfl⟩
 obtain⟨o,ho,hu⟩:=ob
 have I1:Inv X pins σ (upd H a (.frz o (.dT kvs))) s:=by
  rcases hu with rfl | rfl
  ·refine I.relab ha trivial (λo' z q=>?_) ⟨ho,ObjOk.upd_dT ha trivial (I.hok a _ ha)⟩
   have:=I.base.frzs a o' z q
   rw[ha] at this;cases this
  ·have e:upd H a (.frz o (.dT kvs))=H:=by
    funext b;unfold upd;split
    ·next z=>rw[z];exact ha.symm
    ·rfl
   rw[e];exact I
 have back:∀ {σ':St} {H':Hp} {s':ag},Inv X pins σ' H' s'->H' a=aa (.frz o (.dT kvs))->Inv X pins σ' (upd H' a u0) s':=λ{σ' H' s'} I' ha'=>by
  rcases hu with rfl | rfl
  ·refine I'.relab ha' trivial (λo' z q=>?_) (ObjOk.upd_dT ha' trivial (show ObjOk X.prog X.w H' s'.heap a (.frz o (.dT kvs)) from I'.hok a _ ha').2)
   have:=I.base.frzs a o' z q
   rw[ha] at this;cases this
  ·have e:upd H' a (.frz o (.dT kvs))=H':=by
    funext b;unfold upd;split
    ·next z=>rw[z];exact ha'.symm
    ·rfl
   rw[e];exact I'
 refine thn (hst pins s σ _ _ I1 (h o)) λf s' q=>?_
 cases f with
 | next=>obtain⟨σ',H',I',ha',q⟩:=q;exact⟨σ',_,back I' ha',q⟩
 | brk=>obtain⟨σ',H',I',ha',q⟩:=q;exact⟨σ',_,back I' ha',q⟩
 | cont=>obtain⟨σ',H',I',ha',q⟩:=q;exact⟨σ',_,back I' ha',q⟩
 | ret v=>obtain⟨x,σ',H',I',r,ha',q⟩:=q;exact⟨x,σ',_,back I' ha',r,q⟩
end
section
variable {σ:St}{H:Hp}{nx:St->Hp->Prop}{B:V->St->Hp->(St->Hp->Prop)->Prop}
theorem zaI(Pv:Nat->St->Hp->Prop)(h0:Pv 0 σ H)(hl:∀i σ H,Pv i σ H->H a=aa (.frz o (.dT kvs)))
  (hs:∀i k v p σ H,kvs[i]?=aa (k,v)->H p=aa (.tup (k.map kV))->Pv i σ H->B (.ref p) σ H (Pv (i + 1))) (hd:∀σ H,Pv kvs.length σ H->nx σ H) :
  ∃W:Nat->Nat->St->Hp->Prop,(∃m,W 0 m σ H)/\∀i m σ H,W i m σ H->((Itd a o kvs).stop i H/\nx σ H)\/((Itd a o kvs).go i H/\∃N:St->Hp->Prop,(∀σ' H',N σ' H'->∃m',m' < m/\W (i + 1) m' σ' H')/\∀x H',(Itd a o kvs).yld i H x H'->B x σ H' N):=by
 refine⟨λi m σ H=>m=kvs.length - i/\i<=kvs.length/\Pv i σ H,⟨kvs.length,by simp,bW _,h0⟩,?_⟩
 rintro i m σ H ⟨rfl,hi,pv⟩
 by_cases hlt:i < kvs.length
 ·refine .inr ⟨⟨hl i σ H pv,hlt⟩,Pv (i + 1),λσ' H' p'=>⟨kvs.length - (i + 1),by lia,rfl,hlt,p'⟩,?_⟩
  rintro x H' ⟨rfl,k,v,p,hk,rfl,hp⟩
  exact hs i k v p σ _ hk hp pv
 ·obtain rfl:i=kvs.length:=by lia
  exact .inl ⟨⟨hl _ σ H pv,bh _⟩,hd σ H pv⟩
end
mutual
inductive Dat (K:bx) (H:Hp):V->PyData->Prop
 | non:Dat K H .non .none
 | bl (b:Bool):Dat K H (.bl b) (.bool b)
 | int (i:Int):Dat K H (.int i) (.int i)
 | str (x:Str):Dat K H (.str x) (.str x)
 | lst {a:ac} {xs:List V} {ds:List PyData}:SqL K H a xs->Xh K H xs ds->Dat K H (.ref a) (.list ds)
 | tup {a:ac} {xs:List V} {ds:List PyData}:SqT K H a xs->Xh K H xs ds->Dat K H (.ref a) (.tuple ds)
inductive Xh (K:bx) (H:Hp):List V->List PyData->Prop
 | nil:Xh K H [] []
 | cons {x:V} {d:PyData} {xs:List V} {ds:List PyData}:Dat K H x d->Xh K H xs ds->Xh K H (x :: xs) (d :: ds)
end
section
variable {K:bx}{H H':Hp}
theorem SqL.mono(k:Same H H')(h:SqL K H a xs):SqL K H' a xs:=by
 rcases h with (h | ⟨o,h⟩) | h
 ·exact .inl (.inl (k _ _ h))
 ·exact .inl (.inr ⟨o,k _ _ h⟩)
 ·exact .inr h
end
mutual
def zaJ:PyData->Bool
 | .none=>af
 | .int _=>af
 | .str x=>cR x
 | .list xs=>Zv xs
 | .tuple xs=>Zv xs
 | .bool _=>am
 | .dict _=>am
def Zv:List PyData->Bool
 | []=>af
 | x :: xs=>zaJ x && Zv xs
end
abbrev Vr(neg:Bool):R2:=λx y H Q=>∃a o,y=.ref a/\DGet H a x o/\Q (.bl (if neg then !o.isSome else o.isSome)) H
section
variable {X:Cx}
theorem Wo(hu:X.A.units + 1 < cLine):OpR X (compareOp .In) (Vr am):=by
 intro pins s σ H x y v u Q I rx ry h
 obtain⟨a,o,rfl,g,q⟩:=h
 cases ry
 exact zhh hu I g rx λs' I'=>⟨.bl _,H,I',rfl,q⟩
theorem WS(hu:X.A.units + 1 < cLine):OpR X (compareOp .NotIn) (Vr af):=by
 intro pins s σ H x y v u Q I rx ry h
 obtain⟨a,o,rfl,g,q⟩:=h
 cases ry
 exact zeC hu I g rx λs' I'=>⟨.bl _,H,I',rfl,q⟩
end
end L2
namespace L2
open PySem
abbrev Pl:=Str × Int
abbrev Row:=Pl × Int
def zx:List Row->Pl->Option Int
 | [],_=>ah
 | r :: t,p=>(zx t p).or (if r.1=p then aa r.2 else ah)
def YG(kvs:List (List Key × V))(q:Row):List (List Key × V):=yC kvs (zy q.1) (.int q.2)
def dOf(rows:List Row):List (List Key × V):=rows.foldl YG []
theorem yN{p q:Pl}(h:zy p=zy q):p=q:=by
 unfold zy at h
 simp only[bQ,Sum.inr.injEq,Sum.inl.injEq,and_true] at h
 exact rB h.1 h.2
theorem Qc:∀(rows:List Row) (kvs:List (List Key × V)) (p:Pl),yd (rows.foldl YG kvs) (zy p)=((zx rows p).map V.int).or (yd kvs (zy p))
 | [],_,_=>rfl
 | r :: t,kvs,p=>by
  rw[eA,Qc t,zx]
  show _=_
  rw[YG,WC]
  cases zx t p with
  | some w=>rfl
  | none =>
   by_cases e:r.1=p
   ·subst e;simp
   ·rw[ak (λz=>e (yN z).symm)];simp[e]
theorem xA(rows:List Row)(p:Pl):yd (dOf rows) (zy p)=(zx rows p).map V.int:=by
 unfold dOf
 rw[Qc,zcL]
 cases zx rows p <;> rfl
theorem qC(rows:List Row)(q:Row):dOf (rows ++ [q])=yC (dOf rows) (zy q.1) (.int q.2):=by
 unfold dOf
 rw[List.foldl_append];rfl
def OkKv(kvs:List (List Key × V)):Prop:=(kvs.map (·.1)).Nodup/\∀kv∈kvs,∃(p:Pl) (w:Int),kv=(zy p,.int w)
theorem OkKv.put(h:OkKv kvs)(p:Pl)(w:Int):OkKv (yC kvs (zy p) (.int w)):=by
 cases e:yd kvs (zy p) with
 | none =>
  refine⟨zeE _ h.1 e,λkv hk=>?_⟩
  rw[qv _ e] at hk
  rcases bJ.mp hk with hk | hk
  ·exact h.2 kv hk
  ·exact⟨p,w,bI.mp hk⟩
 | some v =>
  have q:(kvs.any λkv=>decide (kv.1=zy p))=af:=by rw[wW,e];rfl
  unfold yC
  rw[ao q]
  constructor
  ·rw[gm]
   have:((λx:List Key × V=>x.1) ∘ λkv:List Key × V=>if kv.1=zy p then (kv.1,V.int w) else kv)=λx=>x.1:=by
    funext kv
    show (if kv.1=zy p then (kv.1,V.int w) else kv).1=kv.1
    split <;> rfl
   rw[this];exact h.1
  ·intro kv hk
   obtain⟨z,hz,rfl⟩:=bP.mp hk
   by_cases e:z.1=zy p
   ·exact⟨p,w,by rw[ao e,e]⟩
   ·rw[ak e];exact h.2 z hz
theorem Jc:∀(rows:List Row) (kvs:List (List Key × V)),OkKv kvs->OkKv (rows.foldl YG kvs)
 | [],_,h=>h
 | r :: t,kvs,h=>Jc t _ (h.put r.1 r.2)
theorem vV(rows:List Row):OkKv (dOf rows):=Jc rows [] ⟨ef,λ_ h=>nomatch h⟩
theorem zeV(kvs:List (List Key × V))(k:List Key)(v:V):(yC kvs k v).length<=kvs.length + 1:=by
 unfold yC
 split
 ·rw[bo];lia
 ·rw[bn];simp
theorem Qd:∀(rows:List Row) (kvs:List (List Key × V)),(rows.foldl YG kvs).length<=kvs.length + rows.length
 | [],_=>by simp
 | r :: t,kvs=>by
  have:=Qd t (YG kvs r)
  have:=zeV kvs (zy r.1) (.int r.2)
  rw[eA,bR]
  unfold YG at *
  lia
theorem wj(rows:List Row):(dOf rows).length<=rows.length:=by have:=Qd rows [];simpa[dOf] using this
theorem JT{kvs:List (List Key × V)}:(kvs.map (·.1)).Nodup->∀kv∈kvs,yd kvs kv.1=aa kv.2:=by
 induction kvs with
 | nil=>exact λ_ kv h=>nomatch h
 | cons a r ih =>
  intro hn kv hk
  rw[bM,cO] at hn
  rcases bE.mp hk with rfl | hk
  ·exact yW rfl
  ·rw[yX λz=>hn.1 (by rw[z];exact bX hk)]
   exact ih hn.2 kv hk
theorem mem_dOf :kv∈dOf rows↔∃p w,kv=(zy p,.int w)/\zx rows p=aa w:=by
 constructor
 ·intro h
  obtain⟨p,w,rfl⟩:=(vV rows).2 kv h
  have:=JT (vV rows).1 _ h
  rw[xA] at this
  obtain⟨w',e1,e2⟩:=cy.mp this
  cases e2
  exact⟨p,w,rfl,e1⟩
 ·rintro⟨p,w,rfl,h⟩
  have e:yd (dOf rows) (zy p)=aa (.int w):=by rw[xA,h];rfl
  obtain⟨kv,hk,e1⟩:=bP.mp (zbh e)
  have:=JT (vV rows).1 _ hk
  rw[e1,e] at this
  have e2:kv=(zy p,V.int w):=rB e1 (bV this).symm
  rw[<-e2];exact hk
theorem jk(a:Pl):yj a a=am:=by
 unfold yj
 rw[ao rfl]
 exact decide_eq_false (by lia)
theorem Vs{a b c:Pl}(h1:yj a b=af)(h2:yj b c=af):yj a c=af:=by
 unfold yj at *
 by_cases e1:a.1=b.1
 ·rw[ao e1] at h1
  by_cases e2:b.1=c.1
  ·rw[ao e2] at h2
   rw[ao (e1.trans e2)]
   have h1:=of_decide_eq_true h1
   have h2:=of_decide_eq_true h2
   exact decide_eq_true (by lia)
  ·rw[ak e2] at h2
   rw[ak (by rw[e1];exact e2),e1]
   exact h2
 ·rw[ak e1] at h1
  have h1:=of_decide_eq_true h1
  by_cases e2:b.1=c.1
  ·rw[ak (by rw[<-e2];exact e1),<-e2]
   exact decide_eq_true h1
  ·rw[ak e2] at h2
   have h2:=of_decide_eq_true h2
   have h3:=List.lt_trans h1 h2
   rw[ak (λz=>by rw[z] at h3;exact List.lt_irrefl _ h3)]
   exact decide_eq_true h3
def Rising(l:List Row):Prop:=l.Pairwise λa b=>yj a.1 b.1=af
def YH(rows out:List Row):Prop:=Rising out/\∀p w,(p,w)∈out↔zx rows p=aa w/\w≠0
theorem Rising.nd(h:Rising l):(l.map (·.1)).Nodup:=by
 unfold gP
 rw[fJ]
 exact mv (λ{a b} h z=>by rw[z,jk] at h;cases h) h
theorem Jd{p:Pl}:∀ {l:List Row},(∀r∈l,r.1≠p)->zx l p=ah
 | [],_=>rfl
 | r :: t,h=>by
  rw[zx,Jd λr hr=>h r (br _ hr),ak (h r bt)];rfl
theorem YI{p:Pl}{w:Int}:∀ {l:List Row},(l.map (·.1)).Nodup->(zx l p=aa w↔(p,w)∈l)
 | [],_=>by simp[zx]
 | r :: t,hn=>by
  rw[bM,cO] at hn
  have ih:=YI (p:=p) (w:=w) hn.2
  by_cases e:r.1=p
  ·have z:zx t p=ah:=Jd λq hq zz=>hn.1 (by rw[e,<-zz];exact bX hq)
   rw[zx,z,ao e]
   constructor
   ·intro h
    have:r.2=w:=by simpa using h
    rw[<-e,<-this];exact bt
   ·intro h
    rcases bE.mp h with h | h
    ·rw[<-h];rfl
    ·exact absurd (bX (f:=(·.1)) h) (by rw[<-e];exact hn.1)
  ·rw[zx,ak e,rh,ih,bE]
   constructor
   ·exact .inr
   ·rintro(h | h)
    ·exact absurd (by rw[<-h]) e
    ·exact h
theorem zeW(h:YH rows out)(p:Pl):(zx out p).getD 0=(zx rows p).getD 0:=by
 have k:=λw=>YI (p:=p) (w:=w) h.1.nd
 cases e:zx rows p with
 | none =>
  cases e':zx out p with
  | none=>rfl
  | some w =>
   have:=(h.2 p w).mp ((k w).mp e')
   rw[e] at this;cases this.1
 | some w =>
  by_cases hw:w=0
  ·subst hw
   cases e':zx out p with
   | none=>rfl
   | some w' =>
    have:=(h.2 p w').mp ((k w').mp e')
    rw[e] at this
    cases this.1
    exact absurd rfl this.2
  ·rw[(k w).mpr ((h.2 p w).mpr ⟨e,hw⟩)]
theorem WT:∀ {a b:List Row},Rising a->Rising b->(∀x,x∈a↔x∈b)->a=b
 | [],[],_,_,_=>rfl
 | [],y :: _,_,_,h=>absurd ((h y).mpr bt) (by simp)
 | x :: _,[],_,_,h=>absurd ((h x).mp bt) (by simp)
 | x :: a,y :: b,ha,hb,h=>by
  unfold Rising at ha hb
  rw[oR] at ha hb
  have e:x=y:=by
   rcases bE.mp ((h x).mp bt) with e | e
   ·exact e
   ·rcases bE.mp ((h y).mpr bt) with e' | e'
    ·exact e'.symm
    ·have:=Vs (ha.1 y e') (hb.1 x e)
     rw[jk] at this;cases this
  subst e
  have nx:x ∉ a:=λz=>by have:=ha.1 x z;rw[jk] at this;cases this
  have ny:x ∉ b:=λz=>by have:=hb.1 x z;rw[jk] at this;cases this
  rw[WT ha.2 hb.2 λz=>?_]
  constructor
  ·intro hz
   rcases bE.mp ((h z).mp (br _ hz)) with e | e
   ·subst e;exact absurd hz nx
   ·exact e
  ·intro hz
   rcases bE.mp ((h z).mpr (br _ hz)) with e | e
   ·subst e;exact absurd hz ny
   ·exact e
theorem vJ{α:Type} [DecidableEq α]:∀ {a b:List α},a.Nodup->(∀x∈a,x∈b)->a.length<=b.length
 | [],_,_,_=>bW _
 | x :: a,b,hn,h=>by
  rw[cO] at hn
  have hx:=h x bt
  have:=vJ (a:=a) (b:=b.erase x) hn.2 λy hy=>(List.mem_erase_of_ne λz=>hn.1 (by rw[<-z];exact hy)).mpr (h y (br _ hy))
  rw[List.length_erase_of_mem hx] at this
  have:0 < b.length:=List.length_pos_of_mem hx
  rw[bR];lia
def nzV(kv:List Key × V):Bool:=decide (kv.2≠.int 0)
theorem zeX(h:YH rows out):((dOf rows).filter nzV).length=out.length:=by
 have n1:(((dOf rows).filter nzV).map (·.1)).Nodup:=gY (i3 _ gL) (vV rows).1
 have n2:((out.map (·.1)).map zy).Nodup:=by
  have:=h.1.nd
  unfold gP at *
  rw[fJ]
  exact this.imp λ{a b} hab z=>hab (yN z)
 have sub1:∀k∈((dOf rows).filter nzV).map (·.1),k∈(out.map (·.1)).map zy:=λk hk=>by
  obtain⟨kv,hkv,rfl⟩:=bP.mp hk
  rw[List.mem_filter] at hkv
  obtain⟨p,w,rfl,e⟩:=mem_dOf.mp hkv.1
  have hw:w≠0:=λz=>by have:=of_decide_eq_true hkv.2;rw[z] at this;exact this rfl
  exact bX (bX (f:=(·.1)) ((h.2 p w).mpr ⟨e,hw⟩))
 have sub2:∀k∈(out.map (·.1)).map zy,k∈((dOf rows).filter nzV).map (·.1):=λk hk=>by
  obtain⟨p,hp,rfl⟩:=bP.mp hk
  obtain⟨⟨p,w⟩,hr,rfl⟩:=bP.mp hp
  obtain⟨e,hw⟩:=(h.2 p w).mp hr
  exact bP.mpr ⟨(zy p,.int w),eW.mpr ⟨mem_dOf.mpr ⟨p,w,rfl,e⟩,decide_eq_true (by simpa using hw)⟩,rfl⟩
 have l1:=vJ n1 sub1
 have l2:=vJ n2 sub2
 simp only[bo] at l1 l2
 lia
end L2
namespace L2
open PySem PySem.Spec PyProof.Rows
def ZL(z a b i j p q:ac)(k:Nat)(h:av):Prop:=IsZip h z a b .none/\IsPair h a (.ref i) (.ref j)/\(∃u v,IsPair h b u v)/\h.IsListIter i p k/\h.IsListIter j q k
def zdk(K:bx)(p q:ac)(xs ys:List V):It:=⟨λi H=>i < xs.length/\SqL K H p xs/\SqL K H q ys,λi H x H'=>∃T u v,x=.ref T/\H T=ah/\H'=upd H T (.tup [u,v])/\xs[i]?=aa u/\ys[i]?=aa v,λi H=>xs.length<=i/\SqL K H p xs/\SqL K H q ys⟩
theorem zcb{P:au}{w:aw}{K:bx}{elts:List aA}{x1}{pos:Pos}{z a b i j p q:ac}{xs ys:List V}(D:ZipApart z a b i j p q)(hl:xs.length=ys.length) :
  zaj P w K (.Tuple elts x1 pos) (zdk K p q xs ys) [z,a,b,i,j] z (ZL z a b i j p q) where
 mem:=by simp
 obj:=λk h st c hc=>by
  obtain⟨hz,ha,⟨u,v,hb⟩,⟨oi,hi,ci,di⟩,⟨oj,hj,cj,dj⟩⟩:=st
  simp only[bE,cI,or_false] at hc
  rcases hc with rfl | rfl | rfl | rfl | rfl
  ·exact⟨_,hz,λv z=>by cases z⟩
  ·exact⟨_,ha,λv z=>by cases z⟩
  ·exact⟨_,hb,λv z=>by cases z⟩
  ·exact⟨_,hi,λv z=>by rw[di] at z;cases z⟩
  ·exact⟨_,hj,λv z=>by rw[dj] at z;cases z⟩
 keep:=λk h h' st kk=>by
  obtain⟨hz,ha,⟨u,v,hb⟩,⟨oi,hi,ci⟩,⟨oj,hj,cj⟩⟩:=st
  exact⟨kk z (by simp) _ hz,kk a (by simp) _ ha,⟨u,v,kk b (by simp) _ hb⟩,⟨oi,kk i (by simp) _ hi,ci⟩,⟨oj,kk j (by simp) _ hj,cj⟩⟩
 item:=by
  intro X hP hw hK hc k pins s σ H E I hf st hg
  subst hP hw hK
  obtain⟨hlt,h1,h2⟩:=hg
  obtain⟨us,r1,p1,_⟩:=I.list h1
  obtain⟨vs,r2,p2,_⟩:=I.list h2
  obtain⟨u,hu,ru⟩:=r1.get (i:=k) (x:=xs[k]) (bb hlt)
  obtain⟨v,hv,rv⟩:=r2.get (i:=k) (x:=ys[k]'(hl ▸ hlt)) (bb (hl ▸ hlt))
  have sub:∀c∈[z,b,i,j],c∈[z,a,b,i,j]:=λc hc=>by
   simp only[bE,cI,or_false] at hc ⊢
   rcases hc with h | h | h | h <;> simp[h]
  have old:∀c∈[z,a,b,i,j],c≠s.heap.objs.size:=λc hc=>by
   obtain⟨hz,ha,⟨u,v,hb⟩,⟨oi,hi,ci⟩,⟨oj,hj,cj⟩⟩:=st
   simp only[bE,cI,or_false] at hc
   rcases hc with rfl | rfl | rfl | rfl | rfl
   ·exact bU (bH hz)
   ·exact bU (bH ha)
   ·exact bU (bH hb)
   ·exact bU (bH hi)
   ·exact bU (bH hj)
  obtain⟨hz,ha,⟨u0,v0,hb⟩,hi,hj⟩:=st
  refine wpAny_pyNext_zip_item D hz ha hb hi hj p1.isList p2.isList (x:=u) (y:=v) (by simpa using hu) (by simpa using hv) λh z8 b5 i5 j5 t5 sz k5=>?_
  have I6:Inv X pins σ (upd H s.heap.objs.size (.tup [xs[k],ys[k]'(hl ▸ hlt)])) { s with heap:=s.heap.push { cls:=.type "tuple",data:=.seq #[u,v] } } :=
   I.laid (a:=s.heap.objs.size) (o:=.tup [xs[k],ys[k]'(hl ▸ hlt)]) (t':=s.toks) (λb u e=>bd _ e) (bh _) ⟨by show 2<=sizeLine;decide,[u,v],.cons ru (.cons rv .nil),⟨_,bB _ rfl,rfl,_,rfl⟩⟩
  have free:∀c∈[z,a,b,i,j],upd H s.heap.objs.size (HO.tup [xs[k],ys[k]'(hl ▸ hlt)]) c=ah:=λc hc=>by rw[zk (old c hc)];exact(hf c hc).1
  have fz:∀c∈[z,a,b,i,j],ql X pins (upd H s.heap.objs.size (HO.tup [xs[k],ys[k]'(hl ▸ hlt)])) c:=λc hc=>⟨free c hc,(hf c hc).2⟩
  refine⟨.ref s.heap.objs.size,rfl,lY z8 λh2 z9 sb2=>?_⟩
  have up:∀c o,c≠z->h.get? c=aa o->h2.get? c=aa o:=λc o hc e=>by
   rw[show h2.get? c=h.get? c from sb2.2 c hc];exact e
  have I7:Inv X pins σ (upd H s.heap.objs.size (.tup [xs[k],ys[k]'(hl ▸ hlt)])) { s with heap:=h2 }:=I6.turnedL (s:={ s with heap:=s.heap.push { cls:=.type "tuple",data:=.seq #[u,v] } }) (t':=s.toks) (ch:=[z,b,i,j]) (λc o hc e=>by
   simp only[bE,cI,or_false,not_or] at hc
   refine up c o hc.1 ?_
   rcases og (show (s.heap.push { cls:=.type "tuple",data:=.seq #[u,v] }).get? c=aa o from e) with ⟨rfl,rfl⟩ | e
   ·exact t5
   ·exact k5 c o hc.1 hc.2.1 hc.2.2.1 hc.2.2.2 e) λc hc=>fz c (sub c hc)
  refine⟨.ref s.heap.objs.size,_,I7,rfl,⟨_,_,_,rfl,I.hok.fresh (bh _),rfl,bb hlt,bb (hl ▸ hlt)⟩,?_,free⟩
  have ka:h.get? a=_:=k5 a _ D.TIz D.TITO D.TIi1 D.TIi2 ha
  obtain⟨oi,hi,ci⟩:=i5
  obtain⟨oj,hj,cj⟩:=j5
  exact⟨z9,up a _ D.TIz ka,⟨_,_,up b _ D.TOz b5⟩,⟨oi,up i _ D.i1z hi,ci⟩,⟨oj,up j _ D.i2z hj,cj⟩⟩
 done:=by
  intro X hP hw hK hc k pins s σ H E I hf st hg
  subst hP hw hK
  obtain⟨hlt,h1,h2⟩:=hg
  obtain⟨us,r1,p1,_⟩:=I.list h1
  obtain⟨vs,r2,p2,_⟩:=I.list h2
  have hl1:=r1.length
  obtain⟨hz,ha,⟨u0,v0,hb⟩,hi,hj⟩:=st
  refine wpAny_pyNext_zip_end (I.ok.hd hc) D hz ha hb hi hj p1.isList p2.isList (.inl (by simp;lia)) λh hk=>⟨rfl,I.turnedL (t':=s.toks) (ch:=[z,b,i,j]) (λc o hc e=>?_) λc hc=>hf c ?_⟩
  ·simp only[bE,cI,or_false,not_or] at hc
   exact hk c o hc.1 hc.2.1 hc.2.2.1 hc.2.2.2 e
  ·simp only[bE,cI,or_false] at hc ⊢
   rcases hc with h | h | h | h <;> simp[h]
 self:=λ_ _ _ _ _ st h=>iY st.1 h
section
variable {σ:St}{H:Hp}{nx:St->Hp->Prop}{B:V->St->Hp->(St->Hp->Prop)->Prop}
theorem zcc{K:bx}(xs ys:List V)(Pv:Nat->St->Hp->Prop)(h0:Pv 0 σ H)(hl:∀i σ H,Pv i σ H->SqL K H p xs/\SqL K H q ys)
  (hs:∀i u v T σ H,xs[i]?=aa u->ys[i]?=aa v->H T=ah->Pv i σ H->B (.ref T) σ (upd H T (.tup [u,v])) (Pv (i + 1))) (hd:∀σ H,Pv xs.length σ H->nx σ H) :
  ∃W:Nat->Nat->St->Hp->Prop,(∃m,W 0 m σ H)/\∀i m σ H,W i m σ H->((zdk K p q xs ys).stop i H/\nx σ H)\/((zdk K p q xs ys).go i H/\∃N:St->Hp->Prop,(∀σ' H',N σ' H'->∃m',m' < m/\W (i + 1) m' σ' H')/\∀x H',(zdk K p q xs ys).yld i H x H'->B x σ H' N):=by
 refine⟨λi m σ H=>m=xs.length - i/\i<=xs.length/\Pv i σ H,⟨xs.length,by simp,bW _,h0⟩,?_⟩
 rintro i m σ H ⟨rfl,hi,pv⟩
 by_cases hlt:i < xs.length
 ·refine .inr ⟨⟨hlt,hl i σ H pv⟩,Pv (i + 1),λσ' H' p'=>⟨xs.length - (i + 1),by lia,rfl,hlt,p'⟩,?_⟩
  rintro x H' ⟨T,u,v,rfl,hT,rfl,hu,hv⟩
  exact hs i u v T σ H hu hv hT pv
 ·obtain rfl:i=xs.length:=by lia
  exact .inl ⟨⟨bh _,hl _ σ H pv⟩,hd σ H pv⟩
end
theorem Zw:plainId "dict.update.loop"=af:=by lia
theorem Je:entryFor table "dict.update.loop"=aa Builtin.«dict.update.loop»:=entryFor_of_fast (by kernel_rfl)
section
variable {X:Cx}{A:ax}{R:aC->ag->Prop}
def PrAt(H:Hp)(v:V)(q:Row):Prop:=∃r p,v=.ref r/\H r=aa (.tup [.ref p,.int q.2])/\H p=aa (.tup [.str q.1.1,.int q.1.2])
theorem zcd{σ:St}{H:Hp}{s:ag}{d b:ac}{kvs:List (List Key × V)}{k:List Key}{v:V}{u:ae}{E:ae->ag->Prop}{Q:Unit->ag->Prop}(hu:A.units + 1 < cLine)(I:Inv X pins σ H s)(e:H d=aa (.dT kvs))(eb:H b=aa (.tup (k.map kV)))(l:kvs.length < sizeLine)(rv:RelV v u)
  (h:∀h' tk,Inv X pins σ (upd H d (.dT (yC kvs k v))) { s with heap:=h',toks:=tk }->cP d s.heap h'->Q () { s with heap:=h',toks:=tk }):wpAny (model X.prog X.w) A.in1 (dictSet d (.ref b) u) Q E s:=by
 obtain⟨z,hd,xs,rel,dd⟩:=KL I.hok e
 have hz:xs.length<=sizeLine:=by rw[<-bF rel];exact z
 have hl:(yC kvs k v).length<=sizeLine:=by have:=xT kvs k v;lia
 refine wpAny_dictSet_heap (hsz:=hz) (dM hu) (kq I.hok eb) dd λh' dd' hs=>h _ _ ?_ hs
 obtain⟨q,es,ep,hq,h2,h3,h4,_,h5⟩:=dd'
 refine Zs I (by rw[e];exact eJ) hs ⟨q,hq⟩ ⟨hl,hd,_,(rel.put k eb rv).keeps λc ys ec=>?_,q,es,ep,hq,h2,h3,h4,h5⟩
 rw[zk (zT ec e (by lia))]
 exact ec
theorem zdl{σ:St}{H:Hp}{d it l:ac}{xs:List V}{rows:List Row}{res:ae}(hu:A.units + 1 < cLine)(hh:A.handled=ah)(hd:H d=ah)(hl:H l=aa (.lst xs))(hr:Paired (PrAt H) xs rows)(h63:rows.length<=1000)(dit:it≠d)(lit:l≠it) :
  ∀(k i:Nat) (s:ag),rows.length - i=k->i<=rows.length->Inv X pins σ (upd H d (.dT (dOf (rows.take i)))) s->s.heap.IsListIter it l i->(∀u,ql X pins (upd H d u) it) ->
  (∀s',Inv X pins σ (upd H d (.dT (dOf rows))) s'->R (.ok (.ret res)) s') ->
  codeAny (model X.prog X.w) A (.builtin "dict.update.loop" ⟨[.ref d,.ref it,rawInt i,res],[]⟩) R s:=by
 have lx:xs.length=rows.length:=bF hr
 have S:∀u:HO,Same H (upd H d u):=λu=>isV (o:=u) d hd
 intro k
 induction k with
 | zero =>
  intro i s hk hi I st hf fin
  have e:i=rows.length:=by lia
  subst e
  refine eZ Je ?_
  rw[dy Zw _]
  show wpAny _ A.in1 (pyNext (.ref it) >>= _) _ _ s
  obtain⟨its,rv,p,hz⟩:=I.list (SqL.of (S _ _ _ hl))
  obtain⟨f0,f1,f2,f3,f4,f5⟩:=hf (.dT (dOf (rows.take rows.length)))
  have hl2:=rv.length
  refine ba (nD hh st p.isList (by simp;lia) λh' eb=>?_)
  have I1:=I.turned (t':=s.toks) (λb o hb e=>eb b o hb e) f0 f1 f3 f4 f5
  rw[fi] at I1
  show wpAny _ A.in1 (Builtin.Dict.addKeywords d [] >>= _) _ _ _
  exact ba (bg (bg (fin _ I1)))
 | succ k ih =>
  intro i s hk hi I st hf fin
  have hlt:i < rows.length:=by lia
  refine eZ Je ?_
  rw[dy Zw _]
  show wpAny _ A.in1 (pyNext (.ref it) >>= _) _ _ s
  obtain⟨its,rv,p,hz⟩:=I.list (SqL.of (S _ _ _ hl))
  obtain⟨f0,f1,f2,f3,f4,f5⟩:=hf (.dT (dOf (rows.take i)))
  have hx:xs[i]?=aa xs[i]:=bb (by lia)
  have hq:rows[i]?=aa rows[i]:=bb hlt
  obtain⟨r,pl,e1,t1,u1⟩:=yv hr hx hq
  obtain⟨u,hu',ru⟩:=rv.get hx
  rw[e1] at ru
  cases ru
  refine ba (m4 st p.isList (x:=.ref r) (by simpa using hu') λh' st' sb=>?_)
  have I1:=I.turned (t':=s.toks) (λb o hb e=>(sb.2 b hb).trans e) f0 f1 f3 f4 f5
  obtain⟨tis,tv,⟨o,ho,hc,n,hdt⟩,_⟩:=I1.tuple (SqT.of (S _ _ _ t1))
  cases tv with
  | cons r1 rr =>
   cases rr with
   | cons r2 rn =>
    cases rn
    cases r1
    obtain⟨tk,rfl⟩:=r2
    refine ba (eO ?_)
    have T:({ s with heap:=h' }:ag).TypeIs (.ref r) "tuple":=⟨o,ho,hc⟩
    refine ba (wpAny_tryCatch ?_)
    unfold Builtin.Dict.pairItems
    refine ba (pL T ?_)
    rw[ao (by lia)]
    refine ba ?_
    unfold seqItems?
    refine ba (nW ho ?_)
    rw[hdt]
    refine bg (bg ?_)
    show wpAny _ _ (holding [.ref pl,.int rows[i].2 tk] (dictSet d (.ref pl) (.int rows[i].2 tk))) _ _ _
    refine eO ?_
    have tk2:dOf (rows.take (i + 1))=yC (dOf (rows.take i)) (zy rows[i].1) (.int rows[i].2):=by rw[dq,hq,<-qC];rfl
    have l2:(dOf (rows.take i)).length < sizeLine:=by
     have h1:=wj (rows.take i)
     have h2:=List.length_take_le' i rows
     exact bY (by lia:_<=1000) (by lia)
    refine zcd (k:=zy rows[i].1) (v:=.int rows[i].2) hu I1 zg (S _ _ _ u1) l2 ⟨tk,rfl⟩ λh2 tk3 I2 sb2=>?_
    rw[Ys,<-tk2] at I2
    refine bg ⟨gy Zw _,ih (i + 1) _ (by lia) hlt I2 (st'.at λo e=>(sb2.2 it dit).trans e) hf fin⟩
end
theorem JU:typeLookup (.type "list") "keys"=pure ah:=by rw[typeLookup_type,builtinLookup_eq_fast];kernel_rfl
section
variable {prog:au}{w:aw}{A:ax}{E:ae->ag->Prop}{s:ag}{a:ac}{o:Obj}{xs:Array ae}{k:Nat}
theorem WU{Q:Option ae->ag->Prop}(hx:s.heap.get? a=aa o)(hc:o.cls=.type "list")(hdat:o.data=.seq xs k)(hd:o.dict=ah)(hA:A.handled=ah)
  (h:∀h' tk,(∀b ob,s.heap.get? b=aa ob->h'.get? b=aa ob)->Q ah { s with heap:=h',toks:=tk }):wpAny (model prog w) A (getAttr? (.ref a) "keys") Q E s:=by
 obtain⟨c,dct,dat,sl⟩:=o;simp only at hc hdat hd;subst hc hdat hd
 obtain⟨hp,g,d,tk,os⟩:=s;have hT:∀tk',(⟨hp,g,d,tk',os⟩:ag).TypeIs (.ref a) "list":=λ_=>⟨_,hx,rfl⟩
 have f1:=sub_AttributeError;have f3:=F.slot_list_getattribute.lookup;have f4:=F.slot_list_getattribute.bind (.ref a);have f5:=am_list_getattr_none
 unfold getAttr? getAttrBy? getAttrBy
 repeat (any_goals (first | assumption | exact hT _ | ((with_reducible show wpAny _ _ (call (Value.builtin "list.__getattribute__") _ _) _ _ _);refine gq F.slot_list_getattribute (hT _) am_entry_list_getattribute (F.args_list_getattribute_2 _ _) (meets_getattribute_miss_list a xs k sl "keys" _ JU (by lia) (by lia)) ⟨hx,hA,λh' tk' e hx'=>?_⟩) | wp_step))
 obtain⟨t',u',he⟩:=hx'.there;have kp:=hx'.keeps
 show wpAny _ _ (getattributeRaised _ _ _ _ _ _ _) _ _ _;unfold getattributeRaised
 repeat (any_goals (first | assumption | wp_step))
 all_goals exact h _ _ λb ob e=>kp b ob e
end
theorem hu3(r:Room k A):A.units + 3 < cLine:=by have:=zeO r;lia
abbrev YJ:RC:=λvs H Q=>∃(a:ac) (xs:List V) (rows:List Row),vs=[.ref a]/\H a=aa (.lst xs)/\Paired (PrAt H) xs rows/\rows.length<=1000/\∀p,H p=ah->Q (.ref p) (upd H p (.dT (dOf rows)))
section
variable {X:Cx}
theorem xM(hc:X.calm=af)(hu:X.A.units + 3 < cLine):jQ X (.type "dict") YJ:=by
 intro pins s σ H vs us Q I r h
 obtain⟨a,xs,rows,rfl,ha,hr,hl,q⟩:=h
 obtain⟨u,rfl,ru⟩:=qu r
 cases ru
 have hh:X.A.handled=ah:=I.ok.hd hc
 refine callType_codes (Q₁:=λobj s₁=>obj=.ref s.heap.objs.size/\s₁={ s with heap:=s.heap.push { cls:=.type "dict",data:=.dict #[] } }) F.kt_called_dict (F.kt_typeCall_dict_1 _) F.entry_dict_init (kt_code_dict_new _ ⟨rfl,rfl⟩) ?_;rintro obj s₁ ⟨rfl,rfl⟩
 have T0:({ s with heap:=s.heap.push { cls:=.type "dict",data:=.dict #[] } }:ag).TypeIs (.ref s.heap.objs.size) "dict":=⟨_,bB _ rfl,rfl⟩
 refine⟨T0,F.args_dict_init_2 _ _,?_⟩;unfold Builtin.«dict.__init__»;refine ba ?_;unfold Builtin.Dict.selfAndRest
 refine ba (fm T0 ?_);show wpAny _ _ (pure (s.heap.objs.size,[bL a])) _ _ _;refine bg ?_
 show wpAny _ _ (mP "dict.__init__" s.heap.objs.size (.ref a) [] .none) _ _ _;unfold mP
 have hn:H s.heap.objs.size=ah:=I.hok.fresh (bh _)
 have S:∀u:HO,Same H (upd H s.heap.objs.size u):=λu=>isV (o:=u) _ hn
 have I1:Inv X pins σ (upd H s.heap.objs.size (.dT [])) { s with heap:=s.heap.push { cls:=.type "dict",data:=.dict #[] } } :=
  I.laid (a:=s.heap.objs.size) (o:=.dT []) (t':=s.toks) (λb o z=>bd _ z) (bh _) (KN s.heap I.big)
 obtain⟨its,rv,pl,_⟩:=I1.list (SqL.of (S _ _ _ ha))
 obtain⟨o,n,ho,oc,od,odat⟩:=id pl
 have T1:({ s with heap:=s.heap.push { cls:=.type "dict",data:=.dict #[] } }:ag).TypeIs (.ref a) "list":=⟨o,ho,oc⟩
 refine ba (pL T1 ?_);rw[ao (by lia)]
 refine ba (WU ho oc odat od (by exact hh) λh2 tk2 k2=>?_);rw[ao (show (ah:Option ae).isNone=af from rfl)]
 refine ba (lh ?_)
 have I2:Inv X pins σ (upd H s.heap.objs.size (.dT [])) { s with heap:=h2,toks:=tk2 }:=I1.kept k2
 obtain⟨its2,rv2,pl2,_⟩:=I2.list (SqL.of (S _ _ _ ha))
 refine ba (wpAny_pyIter_list pl2.isList ?_)
 have I3:Inv X pins σ (upd H s.heap.objs.size (.dT (dOf (rows.take 0)))) { s with heap:=h2.push { cls:=.type "list_iterator",data:=.fields #[.ref a,.int 0 0] },toks:=tk2 }:=I2.kept (t':=tk2) λb o e=>bd _ e
 refine bg ⟨gy Zw _,?_⟩
 have lt:s.heap.objs.size < h2.objs.size:=bH (k2 s.heap.objs.size _ (bB _ rfl))
 have la:a < h2.objs.size:=by obtain⟨_,_,z,_⟩:=pl2;exact bH z
 refine zdl (A:=X.A.in1) (H:=H) (d:=s.heap.objs.size) (it:=h2.objs.size) (l:=a) (xs:=xs) (rows:=rows) (res:=.none) ?_ hh hn ha hr hl (fj lt) (bU la) rows.length 0 _ (by lia) (bW _) I3 ⟨_,bB _ rfl,rfl,rfl⟩ (λu=>?_) λs' I'=>⟨rfl,.ref s.heap.objs.size,_,I',rfl,q _ hn⟩
 ·have e:X.A.in1.units=X.A.units + 1:=rfl
  lia
 ·refine I2.fpOk (bh _) ?_
  rw[zk (fj lt)]
  have:=I2.hok.fresh (bh h2.objs.size)
  rw[zk (fj lt)] at this
  exact this
end
section
variable {X:Cx}{k:Nat}{f C:ac}{fd:FuncData}{ps:List Str}{sp:Sp}{m:Str}{pos apos:Pos}{e o:aA}{es:List aA}{ta:TE}{t:TA}
def JV(C:ac)(m:Str)(sp:Sp)(ta:TE)(t:TA)(EX:EXK):TE:=λσ H Q=>ta σ H λx H1=>∃a dx fs,x=.ref a/\H1 a=aa (.ins C dx fs)/\fs.lookup m=ah /\
 t σ H1 λvs H2=>sp (x :: (vs ++ [])) H2 Q λcls _ H3=>EX cls σ H3
theorem Qe{pl:Sem Bool}(he:PE X.nox o ta)(c:Cls X.K C)(hm:zan X.K C m f)(F:FnOk X.prog X.w X.K X.mg X.base (CX1 X.prog X.w) k f fd ps sp)(hr:Room k X.A)(hb:Binds X.K fd ps [])(ha:PA X.nox (e :: es) t)
  (hst:starEach (e :: es) X.env=(am,eval e X.env) :: starEach es X.env:=by rfl) (hpl:(backTo pos (starEach es X.env)).any (·.1)=am:=by rfl)
  (ht:eval (.Call (.Attribute o m apos) (e :: es) [] pos) X.env=(do
   let ov <-eval o X.env
   standAt apos.atName
   let (f,first) <-holding [ov] (getMethod ov m pl)
   callWith pos f first (backTo pos (starEach (e :: es) X.env)) (backToKw pos (keywordEach [] X.env))):=by rfl) :
  PEX X (.Call (.Attribute o m apos) (e :: es) [] pos) (JV C m sp ta t):=by
 intro pins s σ H Q EX I h
 refine nG (pl:=pl) (dG (he pins s σ H _ (I.wish _) h) (λu s1 ⟨x,H1,I1',rx,a,dx,fs,ex,ea,l,q⟩=>?_) λ_ _ z=>c9 z) ht
 subst ex
 obtain rfl:u=bL a:=rx
 have I1:=I1'.unwish
 refine Z0 I1 ea c hm l ?_
 refine nF (first:=[.ref a]) (h₀:=X.base) I.ok.mod.kin hm.kp (dG (ha pos pins s1 σ H1 _ (I1.wish _) q) (λus s2 ⟨vs,H2,I2',r,q2⟩=>⟨I2'.kIn,?_⟩) λ_ _ z=>c9 z) hst hpl
 have I2:=I2'.unwish
 have r2:Vals (V.ref a :: (vs ++ [])) (bL a :: (us ++ [])):=.cons rfl (r.append .nil)
 have hl:((bL a :: us) ++ []).length=ps.length:=by
  have e:=r2.length
  rw[F.len _ _ _ _ q2] at e
  exact e.symm
 refine oZ (fY (F.run X.A X.stack s2 H2 ⟨.ref a :: us,[]⟩ ((.ref a :: us) ++ []) (.ref a :: (vs ++ [])) _ _ hr I2.env0 (hb s2 (.ref a :: us) I2.kIn hl) r2 q2) λr s' hq=>?_)
 cases r with
 | error ev =>
  obtain⟨e,cls,H',rfl,os,bare,un,hok,xf,hE⟩:=hq
  exact⟨e,cls,σ,s2,H2,H',rfl,I2,I2.call' (ch:=[]) os un hok bare (λb z=>nomatch z),xf,hE⟩
 | ok fl =>
  cases fl with
  | ret u=>exact I2.after hq
  | next=>exact c9 hq
  | brk=>exact c9 hq
  | cont=>exact c9 hq
end
def zaK(K:bx)(tb:EXK->TS)(C1:ac)(th1:TS)(C2:ac)(th2:TS):TS:=λD σ H=>tb (λcls σ1 H1=>∃C,cls=.ref C /\
 ((iG K (.ref C) (.ref C1)=aa af/\th1 D σ1 H1)\/(iG K (.ref C) (.ref C1)=aa am/\iG K (.ref C) (.ref C2)=aa af/\th2 D σ1 H1))) D σ H
section
variable {X:Cx}{st b₀ b₁:ay}{suite suite1:List ay}{tb:EXK->TS}{th1 th2:TS}{c1 c2:Str}{C1 C2:ac}{np hpos np2 hpos2 pos:Pos}
theorem zdm(hst:X.stack=X.env :: X.outer/\X.env.frame=aa X.env.locals)(hex:X.ex=[])(hb:PSX X st tb)(hg1:Gl X c1)(hm1:X.mg c1=aa (.ref C1))(hg2:Gl X c2)(hm2:X.mg c2=aa (.ref C2))
  (hs1:∀e,PSs (X.sub e) (b₀ :: suite) th1) (hs2:∀e,PSs (X.sub e) (b₁ :: suite1) th2) (hdb1:(c1 == ("__debug__":Str))=am:=by lia) (hdb2:(c2 == ("__debug__":Str))=am:=by lia) :
  PS X (.Try [st] [.ExceptHandler (aa (.Name c1 np)) ah (b₀ :: suite) hpos,.ExceptHandler (aa (.Name c2 np2)) ah (b₁ :: suite1) hpos2] [] [] pos) (zaK X.K tb C1 th1 C2 th2):=by
 intro pins s σ H D I h
 refine wpAny_Try_except (iU (dG (hb pins s σ H D _ I h) (λf s1 q=>?_) λev s1 q=>?_))
 ·cases f with
  | next=>exact eX (eX q)
  | ret v=>exact q
  | brk=>exact q
  | cont=>exact q
 obtain⟨e,cls,σ1,s0,H0,H1,rfl,I0,I1,xf,C,rfl,hth⟩:=q
 obtain⟨oe,vs,a0,T,oT,ts,h1,h2,h3,h4,h5,h6,h7,h8,h9,h10,h11,h12⟩:=xf
 have fr:s1.heap.FunFrames (gC s1.heap (frs X.stack ++ [e,T])) (X.env :: X.outer):=by
  have q:=iW (as:=frs X.stack ++ [e,T]) I1.stack λenv he a ha=>dP _ (fT.mpr ⟨env,he,ha⟩)
  rw[hst.1] at q ⊢
  exact q
 have two:∀b∈[e,T],s0.heap.get? b=ah/\H1 b=ah:=λb z=>by
  have z':b=e\/b=T:=by simpa using z
  rcases z' with rfl | rfl
  ·exact⟨h9,h11⟩
  ·exact⟨h10,h12⟩
 have hcs:∀b∈[e,T],H1 b=ah/\X.s₀.heap.get? b=ah:=λb z=>⟨(two b z).2,jU (I0.there0 hex) (two b z).1⟩
 have hcp:∀b∈[e,T],∀p∈X.pn ++ pins,p.1≠b:=λb z p hp q=>by
  have:=(I0.pin p hp).1
  rw[q,(two b z).1] at this;cases this
 refine wpAny_looks_onW (base:=gC s1.heap (frs X.stack ++ [e,T])) (a0:=a0) (cls:=.ref C) (by rw[I1.ok.frames,hst.1]) hst.2
  ⟨λb o q=>lQ _ q,fR _ (b6 _ (by simp)),fr,oe,vs,T,oT,ts,h1,h2,h3,h4,fR _ (b6 _ (by simp)),h5,h6,h7,h8⟩ λg4 held4 sm4=>?_
 refine wpAny_landsW held4 λg5 fly5 sm5=>?_
 have hB:∀ {g:av},(gC s1.heap (frs X.stack ++ [e,T])).StaysIn g->∀b o,s1.heap.get? b=aa o->b ∉ frs X.stack->b ∉ [e,T]->g.get? b=aa o :=
  λ{g} k b o q n1 n2=>k b o (i7 _ q λz=>(bJ.mp z).elim n1 n2)
 have I5:Inv X pins σ1 H1 { s1 with heap:=g5 }:=I1.land hex hcs hcp (hB fly5.1) (sm4.trans sm5)
 have K5:=I5.kIn
 have ty5:ro (model X.prog X.w) g5 (typeOf (.ref e)) (.ref C):=by
  obtain⟨o,p1,p2⟩:=fly5.there
  exact p2 ▸ (pD p1).andThen .now
 have run:∀ {b₂:ay} {su:List ay} {th:TS} {hp:Pos} {R:aC->ag->Prop},(∀e,PSs (X.sub e) (b₂ :: su) th)->th D σ1 H1->(∀f s',SP X pins D f s'->R (.ok f) s') ->
   codeAny (model X.prog X.w) (X.A.mark (aa (.ref e))) (.handlers (.ref e) [.ExceptHandler ah ah (b₂ :: su) hp] X.env) R { s1 with heap:=g5 }:=λ{b₂ su th hp R} hs hth hR=>by
  refine m8 (lands_againW fly5 λg6 fly6 sm6=>?_)
  have I6:Inv X pins σ1 H1 { s1 with heap:=g6 }:=I1.land hex hcs hcp (hB fly6.1) ((sm4.trans sm5).trans sm6)
  refine dG (hs e pins _ σ1 H1 D I6.toSub hth) (λf s9 q=>hR f s9 ?_) λ_ _ z=>c9 z
  cases f with
  | next=>obtain⟨σ9,H9,J,z⟩:=q;exact⟨σ9,H9,Inv.ofSub (J:=I) J,z⟩
  | brk=>obtain⟨σ9,H9,J,z⟩:=q;exact⟨σ9,H9,Inv.ofSub (J:=I) J,z⟩
  | cont=>obtain⟨σ9,H9,J,z⟩:=q;exact⟨σ9,H9,Inv.ofSub (J:=I) J,z⟩
  | ret u=>obtain⟨v,σ9,H9,J,r,z⟩:=q;exact⟨v,σ9,H9,Inv.ofSub (J:=I) J,r,z⟩
 refine lH (iO ?_) (by intro q;cases q)
 refine vz (X:=X.sub e) (I5.toSub (e:=e)) hg1 hm1 ?_ hdb1
 rcases hth with ⟨hx,ht⟩ | ⟨hx,hx2,ht⟩
 ·refine(W.exm_one K5 ty5 hx).here ?_
  exact run hs1 ht λf s' q=>q
 ·refine(W.exm_one K5 ty5 hx).here ?_
  show wpAny _ _ (handleBy (.ref e) X.env _) _ _ _
  refine lH (iO ?_) (by intro q;cases q)
  refine vz (X:=X.sub e) (I5.toSub (e:=e)) hg2 hm2 ?_ hdb2
  refine(W.exm_one K5 ty5 hx2).here ?_
  exact run hs2 ht λf s' q=>q
end
end L2
namespace L2
open PySem
def rk(kvs:List (Key × V))(ps:List V):Except Er Int:=match wZ kvs ps [] with
 | .ok [i]=>.ok i
 | .ok _=>.error .stuck
 | .error e=>.error e
theorem Good.rk{r:Except Er Int}(h:Good kvs ps r):L2.rk kvs ps=r:=by
 unfold L2.rk
 rw[h.1 []]
 cases r <;> rfl
theorem zdn(hs:yV kvs)(hv:kA v){st st':List Int}(h:∀x∈st,inW x=af)(e:wF kvs st v=.ok st'):∀x∈st',inW x=af:=by
 unfold wF at e
 split at e
 ·split at e
  ·rename_i w b a r hr hj
   unfold vU at e
   by_cases c1:WN w/\b=0
   ·rw[ao c1] at e;cases e
   ·rw[ak c1] at e
    by_cases c2:inW (jj w a b)=af
    ·rw[ao c2] at e
     cases e
     intro x hx
     rcases bJ.mp hx with hx | hx
     ·refine h x (pR.mp ?_)
      rw[hr]
      exact br _ (br _ (pR.mp hx))
     ·rw[bI.mp hx];exact c2
    ·rw[ak c2] at e;cases e
  ·cases e
 ·cases e
  intro x hx
  rcases bJ.mp hx with hx | hx
  ·exact h x hx
  ·rw[bI.mp hx];exact K3 hs hv
theorem zbt{kvs:List (Key × V)}(hs:yV kvs):∀ {ps:List V} {st st':List Int},(∀v∈ps,kA v)->(∀x∈st,inW x=af)->wZ kvs ps st=.ok st'->∀x∈st',inW x=af
 | [],st,st',_,h,e=>by cases e;exact h
 | v :: r,st,st',hp,h,e=>by
  unfold wZ at e
  split at e
  ·rename_i st1 e1
   exact zbt hs (λv hv=>hp v (br _ hv)) (zdn hs (hp v bt) h e1) e
  ·cases e
theorem zdo(hs:yV kvs)(hp:∀v∈ps,kA v){i:Int}(e:rk kvs ps=.ok i):inW i=af:=by
 unfold rk at e
 split at e
 ·rename_i j hj
  cases e
  exact zbt hs hp (λ_ z=>absurd z cI) hj i bt
 ·cases e
 ·cases e
def TermOk(e:List V):Prop:=(∀kvs,∃r,Good kvs e r)/\(∀v∈e,kA v)/\e.length<=1000
theorem TermOk.good(h:TermOk e)(kvs:List (Key × V)):Good kvs e (rk kvs e):=by
 obtain⟨r,g⟩:=h.1 kvs
 rw[g.rk];exact g
mutual
inductive Rw where
 | take (sh:Str) (e:List V) (sl:Str)
 | give (sh:Str) (e f:List V)
 | lt (sl:Str) (e:List V)
 | say (e:List V)
 | off (e:List V)
 | iff (e:List V) (a b:Rws)
inductive Rws where
 | nil
 | cons (r:Rw) (rs:Rws)
end
set_option genSizeOf false in
set_option genInjectivity false in
structure Sta where
 sl:List (Key × V)
 wo:List Row
 sa:List Int
inductive Res where
 | go (s:Sta)
 | off
 | er (e:Er)
mutual
def goR:Rw->Sta->Res
 | .take sh e sl,s=>match rk s.sl e with
  | .ok n=>.go { s with sl:=yC s.sl (.inr sl) (.int ((zx s.wo (sh,n)).getD 0)) }
  | .error x=>.er x
 | .give sh e f,s=>match rk s.sl e with
  | .ok n=>(match rk s.sl f with
   | .ok w=>.go { s with wo:=s.wo ++ [((sh,n),w)] }
   | .error x=>.er x)
  | .error x=>.er x
 | .lt sl e,s=>match rk s.sl e with
  | .ok n=>.go { s with sl:=yC s.sl (.inr sl) (.int n) }
  | .error x=>.er x
 | .say e,s=>match rk s.sl e with
  | .ok n=>.go { s with sa:=s.sa ++ [n] }
  | .error x=>.er x
 | .off e,s=>match rk s.sl e with
  | .ok n=>if n=0 then .go s else .off
  | .error x=>.er x
 | .iff e a b,s=>match rk s.sl e with
  | .ok n=>if n=0 then zeY b s else zeY a s
  | .error x=>.er x
def zeY:Rws->Sta->Res
 | .nil,s=>.go s
 | .cons r rs,s=>match goR r s with
  | .go s'=>zeY rs s'
  | x=>x
end
mutual
def RwAt(F:ac->Prop)(H:Hp)(v:V):Rw->Prop
 | .take sh e sl=>∃r te,v=.ref r/\F r/\F te/\H r=aa (.tup [.str "take",.str sh,.ref te,.str sl])/\H te=aa (.tup e)
 | .give sh e f=>∃r te tf,v=.ref r/\F r/\F te/\F tf/\H r=aa (.tup [.str "give",.str sh,.ref te,.ref tf])/\H te=aa (.tup e)/\H tf=aa (.tup f)
 | .lt sl e=>∃r te,v=.ref r/\F r/\F te/\H r=aa (.tup [.str "let",.str sl,.ref te])/\H te=aa (.tup e)
 | .say e=>∃r te,v=.ref r/\F r/\F te/\H r=aa (.tup [.str "say",.ref te])/\H te=aa (.tup e)
 | .off e=>∃r te,v=.ref r/\F r/\F te/\H r=aa (.tup [.str "off",.ref te])/\H te=aa (.tup e)
 | .iff e a b=>∃r te la lb xs ys,v=.ref r/\F r/\F te/\F la/\F lb/\H r=aa (.tup [.str "if",.ref te,.ref la,.ref lb])/\H te=aa (.tup e)/\H la=aa (.lst xs)/\RwsAt F H xs a/\H lb=aa (.lst ys)/\RwsAt F H ys b
def RwsAt(F:ac->Prop)(H:Hp)(vs:List V):Rws->Prop
 | .nil=>vs=[]
 | .cons r rs=>∃v ws,vs=v :: ws/\RwAt F H v r/\RwsAt F H ws rs
end
mutual
theorem RwAt.to_{F G:ac->Prop}{H H':Hp}(g:∀b o,F b->H b=aa o->G b)(s:∀b o,F b->H b=aa o->H' b=aa o):∀ {v:V} (r:Rw),RwAt F H v r->RwAt G H' v r
 | v,.take sh e sl,h=>by
  unfold RwAt at h ⊢
  obtain⟨r,te,e1,f1,f2,e2,e3⟩:=h
  exact⟨r,te,e1,g _ _ f1 e2,g _ _ f2 e3,s _ _ f1 e2,s _ _ f2 e3⟩
 | v,.give sh e f,h=>by
  unfold RwAt at h ⊢
  obtain⟨r,te,tf,e1,f1,f2,f3,e2,e3,e4⟩:=h
  exact⟨r,te,tf,e1,g _ _ f1 e2,g _ _ f2 e3,g _ _ f3 e4,s _ _ f1 e2,s _ _ f2 e3,s _ _ f3 e4⟩
 | v,.lt sl e,h=>by
  unfold RwAt at h ⊢
  obtain⟨r,te,e1,f1,f2,e2,e3⟩:=h
  exact⟨r,te,e1,g _ _ f1 e2,g _ _ f2 e3,s _ _ f1 e2,s _ _ f2 e3⟩
 | v,.say e,h=>by
  unfold RwAt at h ⊢
  obtain⟨r,te,e1,f1,f2,e2,e3⟩:=h
  exact⟨r,te,e1,g _ _ f1 e2,g _ _ f2 e3,s _ _ f1 e2,s _ _ f2 e3⟩
 | v,.off e,h=>by
  unfold RwAt at h ⊢
  obtain⟨r,te,e1,f1,f2,e2,e3⟩:=h
  exact⟨r,te,e1,g _ _ f1 e2,g _ _ f2 e3,s _ _ f1 e2,s _ _ f2 e3⟩
 | v,.iff e a b,h=>by
  unfold RwAt at h ⊢
  obtain⟨r,te,la,lb,xs,ys,e1,f1,f2,f3,f4,e2,e3,e4,e5,e6,e7⟩:=h
  exact⟨r,te,la,lb,xs,ys,e1,g _ _ f1 e2,g _ _ f2 e3,g _ _ f3 e4,g _ _ f4 e6,s _ _ f1 e2,s _ _ f2 e3,s _ _ f3 e4,RwsAt.to_ g s a e5,s _ _ f4 e6,RwsAt.to_ g s b e7⟩
theorem RwsAt.to_{F G:ac->Prop}{H H':Hp}(g:∀b o,F b->H b=aa o->G b)(s:∀b o,F b->H b=aa o->H' b=aa o):∀ {vs:List V} (r:Rws),RwsAt F H vs r->RwsAt G H' vs r
 | vs,.nil,h=>by
  unfold RwsAt at h ⊢
  exact h
 | vs,.cons r rs,h=>by
  unfold RwsAt at h ⊢
  obtain⟨v,ws,e1,e2,e3⟩:=h
  exact⟨v,ws,e1,RwAt.to_ g s r e2,RwsAt.to_ g s rs e3⟩
end
theorem RwAt.to{F G:ac->Prop}{H H':Hp}(r:Rw)(g:∀b o,F b->H b=aa o->G b)(s:∀b o,F b->H b=aa o->H' b=aa o)(h:RwAt F H v r):RwAt G H' v r:=RwAt.to_ g s r h
theorem RwsAt.to{F G:ac->Prop}{H H':Hp}(r:Rws)(g:∀b o,F b->H b=aa o->G b)(s:∀b o,F b->H b=aa o->H' b=aa o)(h:RwsAt F H vs r):RwsAt G H' vs r:=RwsAt.to_ g s r h
theorem RwAt.mono{F:ac->Prop}{H H':Hp}(s:Same H H')(h:RwAt F H v r):RwAt F H' v r:=h.to r (λ_ _ f _=>f) (λb o _ e=>s b o e)
theorem RwsAt.mono{F:ac->Prop}{H H':Hp}(s:Same H H')(h:RwsAt F H vs r):RwsAt F H' vs r:=h.to r (λ_ _ f _=>f) (λb o _ e=>s b o e)
def RlAt(F:ac->Prop)(H:Hp)(v:V)(r:Rws):Prop:=∃a xs,v=.ref a/\F a/\H a=aa (.lst xs)/\RwsAt F H xs r
theorem RlAt.to{F G:ac->Prop}{H H':Hp}(g:∀b o,F b->H b=aa o->G b)(s:∀b o,F b->H b=aa o->H' b=aa o)(h:RlAt F H v r):RlAt G H' v r:=by
 obtain⟨a,xs,e,f,e1,e2⟩:=h
 exact⟨a,xs,e,g _ _ f e1,s _ _ f e1,RwsAt.to r g s e2⟩
abbrev JW:ac->Prop:=λ_=>True
theorem RlAt.any{F:ac->Prop}{H:Hp}(h:RlAt F H v r):RlAt JW H v r:=h.to (λ_ _ _ _=>trivial) λb o _ e=>e
mutual
def qD:Rw->Prop
 | .take _ e _=>TermOk e
 | .give _ e f=>TermOk e/\TermOk f
 | .lt _ e=>TermOk e
 | .say e=>TermOk e
 | .off e=>TermOk e
 | .iff e a b=>TermOk e/\ZJ a/\ZJ b
def ZJ:Rws->Prop
 | .nil=>True
 | .cons r rs=>qD r/\ZJ rs
end
mutual
def Rw.deep:Rw->Nat
 | .iff _ a b=>max a.deep b.deep + 1
 | _=>0
def Rws.deep:Rws->Nat
 | .nil=>0
 | .cons r rs=>max r.deep rs.deep
end
mutual
def Rw.cnt:Rw->Nat
 | .iff _ a b=>max a.cnt b.cnt + 1
 | _=>1
def Rws.cnt:Rws->Nat
 | .nil=>0
 | .cons r rs=>r.cnt + rs.cnt
end
abbrev ItA(h:av)(it d:ac)(i n ep:Nat)(o0:ae)(f:Bool)(ok ov:ae):Prop :=
 h.get? it=aa { cls:=.type "dict_itemiterator",dict:=ah,data:=.fields #[o0,.bool f,.ref d,.int i 0,.int n 0,.int ep 0,ok,ov],slots:=#[] }
section
variable {P:au}{w:aw}{A:ax}{E:ae->ag->Prop}{s:ag}
theorem zdp{Q:ae->ag->Prop}(hv:s.heap.IsItemsView v d)(hm:RawD s.heap d es ep)
  (q:Q (.ref s.heap.objs.size) { s with heap:=s.heap.push { cls:=.type "dict_itemiterator",data:=.fields #[.none,.bool am,.ref d,.int 0 0,.int es.size 0,.int ep 0,.none,.none] } }):wpAny (model P w) A (pyIter (.ref v)) Q E s:=by
 obtain⟨ov,hov,hcv,hdv⟩:=id hv;obtain⟨o,ho,hc,hdat⟩:=id hm
 refine wpAny_pyIter_slot hv.typeIs nh (c8 nh hv.typeIs F.entry_dict_items_iter ?_ (F.args_dict_items_iter_1 _));unfold Builtin.«dict_items.__iter__»
 refine ba (bg ?_);refine ba ?_;unfold Builtin.Dict_items.dictOf
 refine ba (dE hov hdv (x:=.ref d) rfl (bg ?_));refine ba ?_;unfold Builtin.Dict_items.newIterator
 refine ba (dJ ho hdat ?_);refine ba (gh ho hdat ?_)
 have own:dL "dict_itemiterator"=af:=by lia
 simp only[own,if_true];refine cV (bg ⟨_,rfl,"dict_itemiterator",_,⟨_,bB _ rfl,rfl⟩,F.slot_dict_itemiterator_next.lookup,?_⟩) (by simp only[sizeOk,gM,bK,bn,bR,nI,bT];lia)
 simpa[rawInt,gM] using q
theorem zdq{Q:Option ae->ag->Prop}(hit:ItA s.heap it d i es.size ep o0 f ok ov)(hm:RawD s.heap d es ep)(hx:es[i]?=aa e)
  (ho0:(o0=.none/\f=am)\/∃(a:ac) (oa:Obj),o0=rawInt (a:Nat)/\s.heap.get? a=aa oa/\a≠it)
  (q:∀h' o1 f1 k1 v1,ItA h' it d (i + 1) es.size ep o1 f1 k1 v1->((o1=.none/\f1=am)\/∃(a:ac) (oa:Obj),o1=rawInt (a:Nat)/\h'.get? a=aa oa/\a≠it)->h'.get? s.heap.objs.size=aa { cls:=.type "tuple",data:=.seq #[e.key,e.val] }->h'.objs.size=s.heap.objs.size + 1 ->
   (∀b o,b≠it->s.heap.get? b=aa o->h'.get? b=aa o)->(∀a:ac,o1=rawInt (a:Nat)->a=s.heap.objs.size\/o0=rawInt (a:Nat))->Q (aa (.ref s.heap.objs.size)) { s with heap:=h' }):wpAny (model P w) A (pyNext (.ref it)) Q E s:=by
 obtain⟨hp,g,dr,tk,os⟩:=s;obtain⟨od,hod,hcd,hdd⟩:=id hm
 have T:rC ⟨hp,g,dr,tk,os⟩ (.ref it) "dict_itemiterator":=⟨_,hit,rfl⟩
 unfold pyNext;refine ba (gX (dv (name:=bc "__next__") T eM (c8 eM T iP ?_ (iB _))))
 refine ba (bg ?_);refine ba ?_;refine ba ?_
 first | (refine ba (eD T (bg ?_))) | (refine ba (fu T (bg ?_)))
 refine ba (l7 hit rfl ?_);have own:dL "dict_itemiterator"=af:=by lia
 simp only[own,if_true];show wpAny _ _ (if (bL d == cL)=af then _ else _) _ _ _
 rw[ak (show ¬ ((bL d == cL)=af) from bG)];refine ba (bg ?_);refine ba (dJ hod hdd ?_)
 rw[ak (by simp)];refine ba (bg ?_);refine ba (gh hod hdd ?_);rw[ak (by simp)];refine bg ?_
 simp only[show ¬ ((i:Int) < 0) from by lia,if_false,dH,hx];refine ba ?_
 first | (refine ba (eD T (bg ?_))) | (refine ba (fu T (bg ?_)))
 refine ba (ii T ?_);show wpAny _ _ (setField (.ref it) 3 (rawInt ((i:Int) + 1)) >>= _) _ _ ⟨hp,g,dr,tk,os⟩
 refine ba (cX hit (by simp) λh₁ e1 s1=>?_)
 replace s1:cP it hp h₁:=s1
 replace e1:ItA h₁ it d (i + 1) es.size ep o0 f ok ov:=by
  have z:((i + 1:Nat):Int)=(i:Int) + 1:=by lia
  unfold ItA;rw[z];simpa[rawInt] using e1
 have T1:rC ⟨h₁,g,dr,tk,os⟩ (.ref it) "dict_itemiterator":=⟨_,e1,rfl⟩
 refine ba (eO ?_);refine ba (ii T1 ?_);refine ba (ii T1 ?_)
 show wpAny _ _ (ic (.ref it) 6 e.key e.val) _ _ ⟨h₁,g,dr,tk,os⟩
 unfold ic;refine ba (oo ?_)
 have e2:ItA (h₁.push { cls:=.type "tuple",data:=.seq #[e.key,e.val] }) it d (i + 1) es.size ep o0 f ok ov:=bd _ e1
 generalize hg:h₁.push { cls:=.type "tuple",data:=.seq #[e.key,e.val] }=h₂ at e2
 have z1:h₁.objs.size=hp.objs.size:=s1.1;have il:it < hp.objs.size:=bH hit
 have t2:h₂.get? hp.objs.size=aa { cls:=.type "tuple",data:=.seq #[e.key,e.val] }:=by rw[<-hg,<-z1];exact bB _ rfl
 have z2:h₂.objs.size=hp.objs.size + 1:=by rw[<-hg,eR,z1]
 have k2:∀b o,b≠it->hp.get? b=aa o->h₂.get? b=aa o:=λb o hb z=>by rw[<-hg];exact bd _ (s1.extBut b o hb z)
 show wpAny _ _ (gN (.ref it) >>= _) _ _ ⟨h₂,g,dr,tk,os⟩;rw[z1]
 clear hg e1 s1 T1 z1 h₁;refine ba ?_;unfold gN
 rcases ho0 with ⟨rfl,rfl⟩ | ⟨a,oa,rfl,ha,hai⟩
 ·refine ba (dE e2 rfl (x:=.none) rfl (bg ?_));simp only[if_true]
  refine ba (dE e2 rfl (x:=ok) rfl ?_);refine ba (dE e2 rfl (x:=ov) rfl ?_)
  refine ba (cX e2 (by simp) λh₃ e3 s3=>?_);replace s3:cP it h₂ h₃:=s3;replace e3:ItA h₃ it d (i + 1) es.size ep .none am e.key ov:=e3
  refine ba (cX e3 (by simp) λh₄ e4 s4=>?_);replace s4:cP it h₃ h₄:=s4;replace e4:ItA h₄ it d (i + 1) es.size ep .none am e.key e.val:=e4
  refine ba (cX e4 (by simp) λh₅ e5 s5=>?_);replace s5:cP it h₄ h₅:=s5;replace e5:ItA h₅ it d (i + 1) es.size ep (rawInt (hp.objs.size:Nat)) am e.key e.val:=e5
  refine ba (cX e5 (by simp) λh₆ e6 s6=>?_);replace s6:cP it h₅ h₆:=s6;replace e6:ItA h₆ it d (i + 1) es.size ep (rawInt (hp.objs.size:Nat)) am e.key e.val:=e6
  have k6:∀b o,b≠it->h₂.get? b=aa o->h₆.get? b=aa o:=λb o hb z=>s6.extBut b o hb (s5.extBut b o hb (s4.extBut b o hb (s3.extBut b o hb z)))
  have t6:=k6 _ _ (fj il) t2
  refine ba (mO (bg (bg ⟨_,rfl,bg (q h₆ _ _ _ _ e6 (.inr ⟨_,_,rfl,t6,fj il⟩) t6 ?_ (λb o hb z=>k6 b o hb (k2 b o hb z)) λa z=>?_)⟩)))
  ·show h₆.objs.size=hp.objs.size + 1;rw[s6.1,s5.1,s4.1,s3.1,z2]
  ·refine .inl ?_
   have z':(fV (hp.objs.size:Nat) 0:ae)=fV (a:Nat) 0:=z
   have z'':((hp.objs.size:Nat):Int)=((a:Nat):Int):=by injection z'
   exact(rD z'').symm
 ·refine ba (dE e2 rfl (x:=rawInt (a:Nat)) rfl ?_);show wpAny _ _ (loadIfAlive (((a:Nat):Int).toNat) >>= _) _ _ _;rw[dH]
  have a2:h₂.get? a=aa oa:=k2 a oa hai ha
  refine ba (W.kdx_alive a2 ?_);simp only[oS,cC,if_false];refine ba (dE e2 rfl (x:=.bool f) rfl ?_)
  cases f with
  | true =>
   rw[ak (show ¬ ((ik af != ik af)=af) from bG)];refine bg ?_;simp only[cC,if_false]
   exact bg (bg ⟨_,rfl,bg (q h₂ _ _ _ _ e2 (.inr ⟨_,_,rfl,a2,hai⟩) t2 z2 k2 λa z=>.inr z)⟩)
  | false =>
   rw[ao (show (ik am != ik af)=af from rfl)];refine ba (cX e2 (by simp) λh₃ e3 s3=>?_)
   replace s3:cP it h₂ h₃:=s3;replace e3:ItA h₃ it d (i + 1) es.size ep (rawInt (a:Nat)) af ok ov:=e3
   refine bg ?_;simp only[cC,if_false]
   exact bg (bg ⟨_,rfl,bg (q h₃ _ _ _ _ e3 (.inr ⟨_,_,rfl,s3.extBut _ _ hai a2,hai⟩) (s3.extBut _ _ (fj il) t2) (by show h₃.objs.size=_;rw[s3.1,z2]) (λb o hb z=>s3.extBut b o hb (k2 b o hb z)) λa z=>.inr z)⟩)
theorem zeZ{Q:Option ae->ag->Prop}(hh:A.handled=ah)(hit:ItA s.heap it d i es.size ep o0 f ok ov)(hm:RawD s.heap d es ep)(hx:es.size<=i)
  (q:∀h',pZ it s.heap h'->Q ah { s with heap:=h' }):wpAny (model P w) A (pyNext (.ref it)) Q E s:=by
 obtain⟨od,hod,hcd,hdd⟩:=id hm;have T:s.TypeIs (.ref it) "dict_itemiterator":=⟨_,hit,rfl⟩
 unfold pyNext;refine ba (gX (dv (name:=bc "__next__") T eM (c8 eM T iP ?_ (iB _))))
 refine ba (bg ?_);refine ba ?_;refine ba ?_
 first | (refine ba (eD T (bg ?_))) | (refine ba (fu T (bg ?_)))
 refine ba (l7 hit rfl ?_);have own:dL "dict_itemiterator"=af:=by lia
 simp only[own,if_true];show wpAny _ _ (if (bL d == cL)=af then _ else _) _ _ s
 rw[ak (show ¬ ((bL d == cL)=af) from bG)];refine ba (bg ?_);refine ba (dJ hod hdd ?_)
 rw[ak (by simp)];refine ba (bg ?_);refine ba (gh hod hdd ?_);rw[ak (by simp)];refine bg ?_
 simp only[show ¬ ((i:Int) < 0) from by lia,if_false,dH,ig hx];refine ba ?_
 first | (refine ba (eD T (bg ?_))) | (refine ba (fu T (bg ?_)))
 show wpAny _ _ (setField (.ref it) 2 .none >>= _) _ _ s;refine ba (iF hit rfl (by simp) ?_)
 show wpAny _ _ (newExc (.type "StopIteration") [] >>= _) _ _ _;refine ba ?_;simp only[newExc,newTuple];refine ba (cV ?_ (by size_fits))
 refine ba (m:=firstArgMember _ _) (wpAny_of_eq (a:=cL) (by first | rfl | (simp only[firstArgMember];rfl)) ?_);refine cV ?_ (by size_fits)
 simp only[raiseNew];refine ba (oM ?_);rw[show A.in1.handled=ah from hh];refine ba (bg (wpAny_throw ?_))
 refine ba (mZ (T:="StopIteration") (b:=af) ⟨_,bB _ rfl,rfl⟩ oq ?_);exact bg (q _ (((cY ..).extBut.push _).push _))
end
end L2
namespace L2
open PySem PySem.Spec PyProof.Rows
def ZK(r d:ac):HO:=.ext λh=>h.IsItemsView r d
def JX(td:TE):TE:=λσ H Q=>td σ H λx H1=>∃d kvs,x=.ref d/\H1 d=aa (.dT kvs)/\∀r,H1 r=ah->Q (.ref r) (upd H1 r (ZK r d))
section
variable {X:Cx}{o:aA}{apos cpos:Pos}{td:TE}
theorem Qf(ho:PE X o td)(hbase:attributeBase o "items" X.env (eval o X.env)=eval o X.env:=by rfl)(hline:(apos.endLine == cpos.line)=af:=by rfl):PE X (.Call (.Attribute o "items" apos) [] [] cpos) (JX td):=by
 intro pins s σ H Q I h
 refine mH hbase hline (thn (ho pins s σ H _ I h) λv s1 ⟨x,H1,I1,r1,d,kvs,ex,hd,q1⟩=>?_)
 subst ex
 obtain rfl:v=bL d:=r1
 obtain⟨t1,t2,t3⟩:=Xc I1 (.inr ⟨kvs,.inl hd⟩)
 refine⟨"dict","dict.items",dN,mQ,PySem.F.type_dict_items,t1,t2,de rfl (oy ?_)⟩
 refine c8 mQ t1 PySem.F.entry_dict_items ?_ (PySem.F.args_dict_items_1 _)
 unfold Builtin.«dict.items»;refine ba ?_;unfold Builtin.Dict.noArgs;refine ba (fm t1 ?_)
 show wpAny _ _ (pure d) _ _ s1;refine bg ?_
 show wpAny _ _ (gg d >>= _) _ _ s1;unfold gg
 rw[ak (by rw[t3];exact bG)];refine ba (bg ?_)
 refine ba (cV (bg ⟨_,rfl,?_⟩))
 have hn:H1 s1.heap.objs.size=ah:=I1.hok.fresh (bh _)
 have at0:(s1.heap.push { cls:=.type "dict_items",data:=.fields #[.ref d] }).get? s1.heap.objs.size=aa { cls:=.type "dict_items",data:=.fields #[.ref d] }:=bB _ rfl
 refine⟨.ref s1.heap.objs.size,_,I1.laid (a:=s1.heap.objs.size) (o:=ZK s1.heap.objs.size d) (t':=s1.toks) (λb u e=>bd _ e) (bh _) ?_,rfl,q1 _ hn⟩
 exact⟨⟨_,at0,rfl,rfl⟩,⟨_,at0⟩,λh1 h2 ⟨o,e1,e2⟩ k=>⟨o,k o e1,e2⟩⟩
end
def YK(H:Hp)(v:V)(kv:List Key × V):Prop:=∃r p,v=.ref r/\H r=aa (.tup [.ref p,kv.2])/\H p=aa (.tup (kv.1.map kV))
theorem Qg{H H':Hp}(s:∀b ys,H b=aa (.tup ys)->H' b=aa (.tup ys)):∀ {vs:List V} {kvs:List (List Key × V)},Paired (YK H) vs kvs->Paired (YK H') vs kvs
 | _,_,.nil=>.nil
 | _,_,.cons ⟨r,p,e,h1,h2⟩ t=>.cons ⟨r,p,e,s _ _ h1,s _ _ h2⟩ (Qg s t)
theorem Qh{H:Hp}{v:V}{q:List Key × V}:∀ {ys:List V} {kvs:List (List Key × V)},Paired (YK H) ys kvs->YK H v q->Paired (YK H) (ys ++ [v]) (kvs ++ [q])
 | _,_,.nil,h=>.cons h .nil
 | _,_,.cons a r,h=>.cons a (Qh r h)
section
variable {X:Cx}{A:ax}{R:aC->ag->Prop}
theorem zdr{σ:St}{H:Hp}{S it d:ac}{kvs:List (List Key × V)}{es:Array DictEntry}{ep:Nat}{res:ae}(hh:A.handled=ah)(hS:H S=ah)(hd:H d=aa (.dT kvs))(Sit:S≠it)(dit:d≠it)(hz:kvs.length<=1000)
  (hes:es.size=kvs.length) (hen:∀(i:Nat) (e:DictEntry) (kv:List Key × V),es[i]?=aa e->kvs[i]?=aa kv->∃p,e.key=.ref p/\H p=aa (.tup (kv.1.map kV))/\RelV kv.2 e.val) (fin:∀s' H' ys,Inv X pins σ H' s'->Same H H'->H' S=aa (.lst ys)->Paired (YK H') ys kvs->R (.ok (.ret res)) s') :
  ∀(k i:Nat) (s:ag) (Hi:Hp) (ys:List V) (o0 ok ov:ae) (f:Bool),kvs.length - i=k->i<=kvs.length->Inv X pins σ Hi s->Same H Hi->Hi S=aa (.lst ys)->Paired (YK Hi) ys (kvs.take i)->RawD s.heap d es ep->ItA s.heap it d i es.size ep o0 f ok ov ->
  ((o0=.none/\f=am)\/∃(a:ac) (oa:Obj),o0=rawInt (a:Nat)/\s.heap.get? a=aa oa/\a≠it/\a≠S)->ql X pins Hi it ->
  codeAny (model X.prog X.w) A (.builtin "list.extend.loop" ⟨[.ref S,.ref it,res],[]⟩) R s:=by
 intro k
 induction k with
 | zero =>
  intro i s Hi ys o0 ok ov f hk hi I sm hy pr rd hit ho0 hf
  have e:i=kvs.length:=by lia
  subst e
  refine eZ l8 ?_;rw[dy eu _]
  show wpAny _ A.in1 (pyNext (.ref it) >>= _) _ _ s
  obtain⟨f0,f1,f2,f3,f4,f5⟩:=hf
  refine ba (zeZ (A:=A.in1) hh hit rd (by lia) λh' eb=>?_)
  have I1:=I.turned (t':=s.toks) (λb o hb e=>eb b o hb e) f0 f1 f3 f4 f5
  rw[fi] at pr
  exact bg (fin _ Hi ys I1 sm hy pr)
 | succ k ih =>
  intro i s Hi ys o0 ok ov f hk hi I sm hy pr rd hit ho0 hf
  have hlt:i < kvs.length:=by lia
  have hx:es[i]?=aa es[i]:=cF (by lia)
  have hkv:kvs[i]?=aa kvs[i]:=bb hlt
  obtain⟨p,ek,hp,rv⟩:=hen i _ _ hx hkv
  refine eZ l8 ?_;rw[dy eu _]
  show wpAny _ A.in1 (pyNext (.ref it) >>= _) _ _ s
  obtain⟨f0,f1,f2,f3,f4,f5⟩:=id hf
  have ho0':(o0=.none/\f=am)\/∃(a:ac) (oa:Obj),o0=rawInt (a:Nat)/\s.heap.get? a=aa oa/\a≠it:=by
   rcases ho0 with z | ⟨a,oa,z1,z2,z3,_⟩
   ·exact .inl z
   ·exact .inr ⟨a,oa,z1,z2,z3⟩
  refine ba (zdq (A:=A.in1) hit rd hx ho0' λh' o1 f1' k1 v1 hit' ho1 ht hz' kp own=>?_)
  have Sl:S < s.heap.objs.size:=by
   obtain⟨_,_,_,_,e⟩:=(show ObjOk X.prog X.w Hi s.heap S (.lst ys) from I.hok S _ hy)
   exact bH e
  have tn:s.heap.objs.size≠it:=fj (bH hit)
  have hTn:Hi s.heap.objs.size=ah:=I.hok.fresh (bh _)
  have STn:S≠s.heap.objs.size:=bU Sl
  generalize hT:s.heap.objs.size=T at *
  have I6:Inv X pins σ (upd Hi T (.tup [.ref p,kvs[i].2])) { s with heap:=s.heap.push { cls:=.type "tuple",data:=.seq #[es[i].key,es[i].val] } } :=
   I.laid (a:=T) (o:=.tup [.ref p,kvs[i].2]) (t':=s.toks) (λb u e=>bd _ e) (by rw[hT];exact bh _) ⟨by show 2<=sizeLine;decide,[es[i].key,es[i].val],.cons (by rw[ek];exact rfl) (.cons rv .nil),⟨_,by rw[<-hT];exact bB _ rfl,rfl,_,rfl⟩⟩
  have S6:Same Hi (upd Hi T (.tup [.ref p,kvs[i].2])):=isV T hTn
  have I7:Inv X pins σ (upd Hi T (.tup [.ref p,kvs[i].2])) { s with heap:=h' }:=I6.turned (s:={ s with heap:=s.heap.push { cls:=.type "tuple",data:=.seq #[es[i].key,es[i].val] } }) (t':=s.toks) (λb o hb e=>by
   rcases og (show (s.heap.push { cls:=.type "tuple",data:=.seq #[es[i].key,es[i].val] }).get? b=aa o from e) with ⟨rfl,rfl⟩ | e
   ·rw[hT];exact ht
   ·exact kp b o hb e) (by rw[zk (fc tn)];exact f0) f1 f3 f4 f5
  have hy7:(upd Hi T (.tup [.ref p,kvs[i].2])) S=aa (.lst ys):=S6 _ _ hy
  obtain⟨z,its,n,r,hl,e⟩:=I7.lstM hy7
  have yl:ys.length=i:=by
   have:=bF pr
   rw[cH] at this
   lia
  show wpAny _ A.in1 (updateSeq S (·.push (bL T)) >>= _) _ _ _
  have e':h'.get? S=aa { cls:=.type "list",data:=.seq its.toArray n }:=e
  refine ba (lI (s:={ s with heap:=h' }) e' rfl ?_ (by rw[bK,<-r.length,yl];exact bN (by lia:i<=1000) (by lia)) (by rw[Array.size_push,bK,<-r.length,yl];exact bN (by lia:i + 1<=1001) (by lia)))
  have I8:=I7.lset (f:=λxs=>xs.push (bL T)) (t':=s.toks) (its':=its ++ [bL T]) hy7 e' (by simp) (r.append (.cons (show RelV (.ref T) (.ref T) from rfl) .nil)) (by rw[bn,yl];exact bN (by show i + 1<=1001;lia) (by lia))
  have up:∀b o,b≠S->h'.get? b=aa o->(h'.update S (dI (·.push (bL T)))).get? b=aa o:=λb o hb z=>(dW _ _ (fc hb)).trans z
  have dS:d≠S:=zC hd hS
  have tS:∀b zs,Hi b=aa (.tup zs)->(upd (upd Hi T (.tup [.ref p,kvs[i].2])) S (.lst (ys ++ [.ref T]))) b=aa (.tup zs):=λb zs z=>by
   rw[zk (zT z hy (by intro z;cases z))];exact S6 _ _ z
  have ri:∀ {a b:Nat},(rawInt (a:Int):ae)=rawInt (b:Int)->a=b:=λ{a b} z=>by
   have z':(fV (a:Int) 0:ae)=fV (b:Int) 0:=z
   have z'':(a:Int)=(b:Int):=by injection z'
   exact rD z''
  refine bg ⟨gy eu _,ih (i + 1) _ _ (ys ++ [.ref T]) o1 k1 v1 f1' (by rw[Nat.sub_add_eq,hk];rfl) hlt I8 (λb o z=>?_) zg ?_ (rd.at λo z=>up d o dS (kp d o dit z)) (up it _ (fc Sit) hit') ?_ ⟨?_,f1,f2,f3,f4,f5⟩⟩
  ·rw[zk (zC z hS)];exact S6 _ _ (sm _ _ z)
  ·rw[dq,hkv]
   exact Qh (Qg tS pr) ⟨T,p,rfl,by rw[zk (fc STn),zg],tS _ _ (sm _ _ hp)⟩
  ·rcases ho1 with z | ⟨a,oa,z1,z2,z3⟩
   ·exact .inl z
   ·have aS:a≠S:=by
     rcases own a z1 with z | z
     ·rw[z];exact fc STn
     ·rcases ho0 with ⟨y1,_⟩ | ⟨a',oa',y1,_,_,y4⟩
      ·rw[y1] at z;cases z
      ·rw[y1] at z
       rw[<-ri z];exact y4
    exact .inr ⟨a,oa,z1,up a _ aS z2,z3,aS⟩
  ·rw[zk (fc Sit),zk (fc tn)];exact f0
end
abbrev zds:RC:=λvs H Q=>∃r d kvs,vs=[.ref r]/\H r=aa (ZK r d)/\H d=aa (.dT kvs)/\kvs.length<=1000/\∀l ys H',Same H H'->H l=ah->H' l=aa (.lst ys)->Paired (YK H') ys kvs->Q (.ref l) H'
theorem ze0{H:Hp}(k:HOk P w H h)(e:H r=aa (ZK r d)):h.IsItemsView r d:=(k r _ e).1
theorem ze1{H:Hp}:∀ {kvs:List (List Key × V)} {xs:List (List Key × ac × ae)},Paired (λ(p:List Key × V) (q:List Key × ac × ae)=>p.1=q.1/\H q.2.1=aa (.tup (p.1.map kV))/\RelV p.2 q.2.2) kvs xs->∀ {i:Nat} {kv:List Key × V} {x:List Key × ac × ae},kvs[i]?=aa kv->xs[i]?=aa x->H x.2.1=aa (.tup (kv.1.map kV))/\RelV kv.2 x.2.2 :=
 λ{_ _} h {_ _ _} e1 e2=>(yv h e1 e2).2
section
variable {X:Cx}
theorem zdt{σ:St}{H:Hp}{s:ag}{d:ac}{kvs:List (List Key × V)}(I:Inv X pins σ H s)(e:H d=aa (.dT kvs)):∃es ep,RawD s.heap d es ep/\es.size=kvs.length /\
  ∀(i:Nat) (en:DictEntry) (kv:List Key × V),es[i]?=aa en->kvs[i]?=aa kv->∃p,en.key=.ref p/\H p=aa (.tup (kv.1.map kV))/\RelV kv.2 en.val:=by
 obtain⟨z,hd,xs,rel,o,es,ep,h1,h2,h3,h4,_⟩:=(show ObjOk X.prog X.w H s.heap d (.dT kvs) from I.hok d _ e)
 have l1:es.size=xs.length:=by rw[<-cr,h4,bo]
 refine⟨es,ep,⟨o,h1,h2,h3⟩,by rw[l1,<-bF rel],λi en kv e1 e2=>?_⟩
 have e3:es.toList[i]?=aa en:=by rw[cQ];exact e1
 rw[h4,bw] at e3
 obtain⟨x,hx,rfl⟩:=cy.mp e3
 obtain⟨g1,g2⟩:=ze1 rel e2 hx
 exact⟨x.2.1,rfl,g1,g2⟩
theorem Jf{A:ax}{R:aC->ag->Prop}{pins:List (ac × Obj)}{σ:St}{H:Hp}{s:ag}{S r d:ac}{kvs:List (List Key × V)}{res:ae}{c:Nat}(hh:A.handled=ah)(hS:H S=ah)(hr:H r=aa (ZK r d))(hd:H d=aa (.dT kvs))(hl:kvs.length<=1000)
  (I2:Inv X pins σ (upd H S (.lst [])) s) (T2:s.heap.get? S=aa { cls:=.type "list",data:=.seq #[] c }) (hR:∀s' H' ys,Inv X pins σ H' s'->Same H H'->H' S=aa (.lst ys)->Paired (YK H') ys kvs->R (.ok (.ret res)) s') :
  wpAny (model X.prog X.w) A.in1 (dn (.ref S) (.ref r) res) (λfin s'=>match fin with | .done f=>R (.ok f) s' | .again c'=>c'.quiet=af/\codeAny (model X.prog X.w) A c' R s') (λe s'=>R (.error e) s') s:=by
 have Sr:r≠S:=zC hr hS
 have Sd:d≠S:=zC hd hS
 have SS:Same H (upd H S (.lst [])):=isV S hS
 obtain⟨es,ep,rd,hes,hen0⟩:=zdt I2 (SS _ _ hd)
 have hen:∀(i:Nat) (en:DictEntry) (kv:List Key × V),es[i]?=aa en->kvs[i]?=aa kv->∃p,en.key=.ref p/\H p=aa (.tup (kv.1.map kV))/\RelV kv.2 en.val:=λi en kv e1 e2=>by
  obtain⟨p,g1,g2,g3⟩:=hen0 i en kv e1 e2
  refine⟨p,g1,?_,g3⟩
  by_cases hp:p=S
  ·rw[hp,zg] at g2;cases g2
  ·rwa [zk hp] at g2
 have vw:=ze0 I2.hok (SS _ _ hr)
 unfold dn
 refine ba (pL (T:="dict_items") vw.typeIs ?_)
 have c1:mx (.ref S) (.ref r)=am:=by simp[mx,fc Sr]
 have c2:(l9 "dict_items" == l9 "list")=am:=by lia
 have c3:(l9 "dict_items" == l9 "tuple")=am:=by lia
 simp only[c1,c2,c3,Bool.or_false,cC,if_false]
 refine ba (zdp vw rd ?_)
 have ni:(upd H S (.lst [])) s.heap.objs.size=ah:=I2.hok.fresh (bh _)
 have fp:ql X pins (upd H S (.lst [])) s.heap.objs.size:=I2.fpOk (bh _) ni
 have Si:S≠s.heap.objs.size:=bU (bH T2)
 have di:d≠s.heap.objs.size:=bU rd.lt
 have I3:Inv X pins σ (upd H S (.lst [])) { s with heap:=s.heap.push { cls:=.type "dict_itemiterator",data:=.fields #[.none,.bool am,.ref d,.int 0 0,.int es.size 0,.int ep 0,.none,.none] } }:=I2.kept (t':=s.toks) λb o e=>bd _ e
 have T3:=bd { cls:=.type "dict_itemiterator",data:=.fields #[.none,.bool am,.ref d,.int 0 0,.int es.size 0,.int ep 0,.none,.none] } T2
 have it3:ItA (s.heap.push { cls:=.type "dict_itemiterator",data:=.fields #[.none,.bool am,.ref d,.int 0 0,.int es.size 0,.int ep 0,.none,.none] }) s.heap.objs.size d 0 es.size ep .none am .none .none:=bB _ rfl
 have rd3:RawD (s.heap.push { cls:=.type "dict_itemiterator",data:=.fields #[.none,.bool am,.ref d,.int 0 0,.int es.size 0,.int ep 0,.none,.none] }) d es ep:=rd.at λo e=>bd _ e
 have vw3:(s.heap.push { cls:=.type "dict_itemiterator",data:=.fields #[.none,.bool am,.ref d,.int 0 0,.int es.size 0,.int ep 0,.none,.none] }).IsItemsView r d:=let ⟨o,ho,x⟩:=vw;⟨o,bd _ ho,x⟩
 generalize hh3:s.heap.push { cls:=.type "dict_itemiterator",data:=.fields #[.none,.bool am,.ref d,.int 0 0,.int es.size 0,.int ep 0,.none,.none] }=h3 at *
 generalize s.heap.objs.size=it at *
 refine ba (eO (W.kdx_hint vw3.typeIs ?_))
 have fin:∀(h4:av) (tk:Nat) (R:aC->ag->Prop),(∀s' H' ys,Inv X pins σ H' s'->Same H H'->H' S=aa (.lst ys)->Paired (YK H') ys kvs->R (.ok (.ret res)) s')->Inv X pins σ (upd H S (.lst [])) { s with heap:=h4,toks:=tk }->RawD h4 d es ep->ItA h4 it d 0 es.size ep .none am .none .none ->
   codeAny (model X.prog X.w) A (.builtin "list.extend.loop" ⟨[.ref S,.ref it,res],[]⟩) R { s with heap:=h4,toks:=tk }:=λh4 tk R hR I4 rd4 it4 =>
  zdr (A:=A) (H:=H) (es:=es) (ep:=ep) hh hS hd Si di hl hes hen hR kvs.length 0 _ (upd H S (.lst [])) [] .none .none .none am (lV _) (bW _) I4 SS zg .nil rd4 it4 (.inl ⟨rfl,rfl⟩) fp
 refine wpAny_ite_split (λ_=>?_) (λ_=>bg ⟨gy eu _,fin h3 s.toks _ hR I3 rd3 it3⟩)
 refine ba (lh ?_);refine ba ?_
 show wpAny _ _ (updateSeq S (·.push .none) >>= λ_=>updateSeq S (·.pop)) _ _ _;refine ba (lI T3 rfl ?_)
 have T4:=eC (dI (·.push cL)) T3 rfl
 refine lI (hz:=by seq_fits) T4 rfl ?_
 have I4:=I3.lset (f:=λxs=>xs.push cL) (its:=[]) (its':=[cL]) (ys:=[V.non]) (t':=s.toks) zg T3 rfl (.cons rfl .nil) (by show 1<=sizeLine;decide)
 have I5:=I4.lset (f:=λxs=>xs.pop) (its:=[cL]) (its':=[]) (ys:=[]) (t':=s.toks) zg T4 rfl .nil (bW _)
 rw[Ys,Ys] at I5
 have oth:∀b o,b≠S->h3.get? b=aa o->((h3.update S (dI (·.push cL))).update S (dI (·.pop))).get? b=aa o:=λb o hb e=>(dW _ _ (fc hb)).trans ((dW _ _ (fc hb)).trans e)
 exact bg ⟨gy eu _,fin _ s.toks _ hR I5 (rd3.at λo e=>oth d o Sd e) (oth it _ (fc Si) it3)⟩
theorem X2(hc:X.calm=af):jQ X (.type "list") zds:=by
 intro pins s σ H vs us Q I r0 h
 obtain⟨r,d,kvs,rfl,hr,hd,hl,q⟩:=h
 obtain⟨u,rfl,ru⟩:=qu r0
 cases ru
 have hh:X.A.handled=ah:=I.ok.hd hc
 refine callType_codes (Q₁:=λobj s₁=>obj=.ref s.heap.objs.size/\s₁={ s with heap:=s.heap.push { cls:=.type "list",data:=.seq #[] } }) PySem.F.called_list (PySem.F.typeCall_list_1 _) PySem.F.entry_list_init (code_list_new _ ⟨rfl,rfl⟩) ?_;rintro obj s₁ ⟨rfl,rfl⟩
 have hS:H s.heap.objs.size=ah:=I.hok.fresh (bh _)
 have I1:Inv X pins σ (upd H s.heap.objs.size (.lst [])) { s with heap:=s.heap.push { cls:=.type "list",data:=.seq #[] } }:=I.lnew (its:=[]) (t':=s.toks) .nil (bW _)
 have T0:(s.heap.push { cls:=.type "list",data:=.seq #[] }).get? s.heap.objs.size=aa { cls:=.type "list",data:=.seq #[] }:=bB _ rfl
 generalize hT:s.heap.objs.size=S at *
 refine⟨⟨_,T0,rfl⟩,PySem.F.args_list_init_2 _ _,?_⟩
 show wpAny _ _ (do let old <-nu (.ref S);Builtin.List.listUpdate (.ref S) (λ_=>#[]);letGo old.toList.reverse;dn (.ref S) (.ref r) .none) _ _ _
 refine ba ?_;unfold nu;refine ba (fS T0 rfl (bg ?_))
 show wpAny _ _ (updateSeq S (λ_=>#[]) >>= λ_=>letGo (#[]:Array ae).toList.reverse >>= λ_=>dn (.ref S) (.ref r) .none) _ _ _
 refine ba (lI T0 rfl ?_)
 have I2:=I1.lset (f:=λ_=>(#[]:Array ae)) (its:=[]) (its':=[]) (ys:=[]) (t':=s.toks) zg T0 rfl .nil (bW _)
 rw[Ys] at I2
 have T2:=eC (dI (λ_=>(#[]:Array ae))) T0 rfl
 refine ba (mO ?_)
 generalize hh2:(s.heap.push { cls:=.type "list",data:=.seq #[] }).update S (dI (λ_=>(#[]:Array ae)))=h2 at *
 exact Jf (A:=X.A.in1) (H:=H) hh hS hr hd hl I2 T2 λs' H' ys I' sm hy pr=>⟨rfl,.ref S,H',I',rfl,q S ys H' sm hS hy pr⟩
end
end L2
namespace L2
open PySem PySem.Spec PyProof.Rows PySem.W
section
variable {X:Cx}
theorem zaL{E:ae->ag->Prop}{R:List ae->ag->Prop}{pins:List (ac × Obj)}{σ:St}{H:Hp}{s:ag}{r d:ac}{kvs:List (List Key × V)}(hh:A.handled=ah)(hr:H r=aa (ZK r d))(hd:H d=aa (.dT kvs))(hl:kvs.length<=1000)(I:Inv X pins σ H s)
  (h:∀s1 H' ys us,Inv X pins σ H' s1->Same H H'->Paired (YK H') ys kvs->Vals ys us->R us s1):wpAny (model X.prog X.w) A (collect (.ref r)) R E s:=by
 have hS:H s.heap.objs.size=ah:=I.hok.fresh (bh _)
 have I1:Inv X pins σ (upd H s.heap.objs.size (.lst [])) { s with heap:=s.heap.push { cls:=.type "list",data:=.seq ([]:List ae).toArray } }:=I.lnew (its:=[]) (t':=s.toks) .nil (bW _)
 have T1:(s.heap.push { cls:=.type "list",data:=.seq ([]:List ae).toArray }).get? s.heap.objs.size=aa { cls:=.type "list",data:=.seq #[] }:=bB _ rfl
 unfold collect;refine ba (wpAny_runValue (eZ n9 ?_));rw[dy lG _]
 show wpAny _ A.in1 (newList [] >>= λl=>again (.builtin "list.__iadd__" ⟨[l,.ref r],[]⟩)) _ _ s;refine ba (cV ?_)
 refine bg ⟨gy fO _,eZ entry_list_iadd' ?_⟩;rw[dy fO _]
 generalize s.heap.objs.size=S at *
 show wpAny _ A.in1 (dn (.ref S) (.ref r) (.ref S)) _ _ _
 have key:=Jf (A:=A) (R:=λ(q:aC) (s':ag)=>∃H' ys,q=.ok (.ret (.ref S))/\Inv X pins σ H' s'/\Same H H'/\H' S=aa (.lst ys)/\Paired (YK H') ys kvs) (res:=.ref S) hh hS hr hd hl I1 T1 λs' H' ys I' sm hy pr=>⟨H',ys,rfl,I',sm,hy,pr⟩
 have fin:∀s':ag,(∃H' ys,Inv X pins σ H' s'/\Same H H'/\H' S=aa (.lst ys)/\Paired (YK H') ys kvs)->wpAny (model X.prog X.w) A (load S >>= λo=>match o.data with | .seq xs _=>pure xs.toList | _=>unsupported "internal:collect") R E s':=λs' ⟨H',ys,I',sm,hy,pr⟩=>by
  obtain⟨z,its,n,rv,hl',e⟩:=I'.lstM hy
  refine ba (nW e ?_)
  refine bg ?_
  exact h s' H' ys its I' sm pr rv
 refine dG key (λf s' x=>?_) λe s' x=>?_
 ·cases f with
  | done f =>
   obtain⟨H',ys,e,x⟩:=x
   cases e
   exact fin s' ⟨H',ys,x⟩
  | again c₁ =>
   refine⟨x.1,fY x.2 λq s₂ y=>?_⟩
   obtain⟨H',ys,rfl,y⟩:=y
   exact fin s₂ ⟨H',ys,y⟩
 ·obtain⟨_,_,e',_⟩:=x
  cases e'
end
section
variable {P:au}{w:aw}{A:ax}{E:ae->ag->Prop}{s:ag}
theorem zdu{a b:Str × Int}{Q:Bool->ag->Prop}(hu:A.units < cLine)(hx:PlAt s.heap (.ref x) a)(hy:PlAt s.heap (.ref y) b)(h:Q (yj a b) s):wpAny (model P w) A (oneLt' am (.ref x) (.ref y)) Q E s:=by
 obtain⟨p,o,t,u,n,e1,ho,hc,hd⟩:=hx
 obtain⟨p2,o2,t2,u2,n2,e2,ho2,hc2,hd2⟩:=hy
 cases e1
 cases e2
 obtain⟨c,dd,dat,sl⟩:=o
 obtain⟨c2,dd2,dat2,sl2⟩:=o2
 simp only at hc hd hc2 hd2
 subst hc hd hc2 hd2
 have T1:s.TypeIs (.ref x) "tuple":=⟨_,ho,rfl⟩
 have T2:s.TypeIs (.ref y) "tuple":=⟨_,ho2,rfl⟩
 refine kat_one _ _ ?_
 show wpAny _ _ (richCompare .Lt (.ref x) (.ref y)) _ _ _
 refine wpAny_richCompare_same_room T1 T2 nR ?_ hu
 exact gq nR T1 PySem.F.entry_tuple_lt (PySem.F.args_tuple_lt_2 _ _) (WR x y a.1 b.1 a.2 b.2 t u t2 u2 n n2 dd dd2 sl sl2) ⟨ho,ho2,by simp,h⟩
theorem zdv{a:Str × Int}(hx:PlAt h (.ref x) a):IsTupleKey (yn P w) h (zy a) x:=by
 obtain⟨p,o,t,u,n,e1,ho,hc,hd⟩:=hx
 cases e1
 exact⟨o,_,n,ho,hc,hd,Xb (ks:=zy a) (.cons ⟨t,rfl⟩ (.cons ⟨u,rfl⟩ .nil))⟩
def RvAt(h:av)(v:ae)(q:Row):Prop:=∃a o p t n,v=.ref a/\h.get? a=aa o/\o.cls=.type "tuple"/\o.data=.seq #[.ref p,.int q.2 t] n/\PlAt h (.ref p) q.1
theorem RvAt.keep(x:RvAt h v q)(k:∀b o,h.get? b=aa o->h'.get? b=aa o):RvAt h' v q:=by
 obtain⟨a,o,p,t,n,e,ho,hc,hd,hp⟩:=x
 exact⟨a,o,p,t,n,e,k _ _ ho,hc,hd,hp.keep k⟩
theorem ze2{Q:Bool->ag->Prop}(hu:A.units < cLine)(hx:RvAt s.heap x a)(hy:RvAt s.heap y b)(h:Q (yj a.1 b.1) s)(hn:a.1≠b.1):wpAny (model P w) A (keyLt' (tuples' am) x y) Q E s:=by
 obtain⟨p,o,pp,t,n,rfl,ho,hc,hd,hp⟩:=hx
 obtain⟨p2,o2,pp2,t2,n2,rfl,ho2,hc2,hd2,hp2⟩:=hy
 refine kat_lt ho hd ho2 hd2 (kat_cons (wpAny_eqBool_tuple (knd:=yn P w) hu (zdv hp) (zdv hp2) (kat_go (λe=>?_) λe=>kat_no ?_)))
 ·exact absurd (yN (of_decide_eq_true e)) hn
 ·exact zdu hu hp hp2 h
theorem zdw{vs:List ae}{qs:List Row}{Q:SortKind->ag->Prop}(hl:vs.length=qs.length)(hv:∀(i:Nat) (v:ae) (q:Row),vs[i]?=aa v->qs[i]?=aa q->RvAt s.heap v q)(h2:0 < vs.length)(h:Q (tuples' am) s) :
  wpAny (model P w) A (keyKind' vs.toArray) Q E s:=by
 have T:∀(vs:List ae) (qs:List Row),vs.length=qs.length->(∀(i:Nat) (v:ae) (q:Row),vs[i]?=aa v->qs[i]?=aa q->RvAt s.heap v q)->∃fs,KatTups s.heap vs fs/\fs.length=vs.length/\∀v∈fs,∃p o,v=bL p/\s.heap.get? p=aa o/\o.cls=.type "tuple":=by
  intro vs
  induction vs with
  | nil=>exact λqs _ _=>⟨[],trivial,rfl,λ_ z=>nomatch z⟩
  | cons v r ih =>
   intro qs hl hv
   match qs,hl with
   | q :: qr,hl =>
    obtain⟨fs,k,kl,kf⟩:=ih qr (by simpa using hl) λi v' q' e1 e2=>hv (i + 1) v' q' (by simpa using e1) (by simpa using e2)
    obtain⟨a,o,p,t,n,rfl,ho,hc,hd,hp⟩:=hv 0 v q rfl rfl
    refine⟨.ref p :: fs,rE ho hc hd rfl k,by simp[kl],λz hz=>?_⟩
    rcases bE.mp hz with rfl | hz
    ·obtain⟨p',o',_,_,_,e,g1,g2,_⟩:=hp
     cases e
     exact⟨_,o',rfl,g1,g2⟩
    ·exact kf z hz
 obtain⟨fs,k,kl,kf⟩:=T vs qs hl hv
 refine kat_kind (T:=.type "tuple") k (by lia) (λv hv=>?_) (by lia) h
 obtain⟨p,o,rfl,g1,g2⟩:=kf v hv
 exact g2 ▸ (pD g1).andThen .now
theorem JY{l:ac}{κ:SortKind}{Q:ae->ag->Prop}(G:List ae->(Nat->Nat->Bool)->ag->Prop)
  (coll:∀R:List ae->ag->Prop,(∀vs lt s1,G vs lt s1->R vs s1)->wpAny (model P w) A.in1 (collect (.ref l)) R E s)
  (h64:∀vs lt s1,G vs lt s1->vs.length < 64/\SO lt vs.length)
  (hk:∀vs lt s1,G vs lt s1->2<=vs.length->∀(h:av) (Q:SortKind->ag->Prop),(∀b o,s1.heap.get? b=aa o->h.get? b=aa o)->Q κ { s1 with heap:=h }->wpAny (model P w) A.in1.in1 (keyKind' vs.toArray) Q (λ_ _=>False) { s1 with heap:=h })
  (hc:∀vs lt s1,G vs lt s1->∀(h:av) i j C,(∀b o,s1.heap.get? b=aa o->h.get? b=aa o)->i < vs.length->j < vs.length->i≠j->C (lt i j) { s1 with heap:=h }->kas_ask P w A.in1.in1 κ vs i j C { s1 with heap:=h })
  (fin:∀vs lt s1,G vs lt s1->∀(h':av) (p:Array Nat) (c:Nat),(∀b o,s1.heap.get? b=aa o->h'.get? b=aa o)->h'.get? s1.heap.objs.size=aa (seqObj "list" (vx vs p).toArray c)->PP vs.length p->ZC lt p vs.length->Q (.ref s1.heap.objs.size) { s1 with heap:=h' }) :
  wpAny (model P w) A (call (.builtin "sorted") [.ref l]) Q E s:=by
 refine lZ kind_sorted plain_sorted entry_sorted (args_sorted1 _) ?_;unfold Builtin.«sorted»
 refine ba (m:=checkCount "sorted" 1 1 _) (bg ?_);refine ba (coll _ λvs lt s1 g=>?_)
 obtain⟨l64,S⟩:=h64 vs lt s1 g
 refine ba (oQ ?_ (by rw[bT];lia))
 have hoL:(s1.heap.push (seqObj "list" vs.toArray 0)).get? s1.heap.objs.size=aa (seqObj "list" vs.toArray 0):=bB _ rfl
 have kept:∀h',Kp s1.heap.objs.size (s1.heap.push (seqObj "list" vs.toArray 0)) h'->∀b o,s1.heap.get? b=aa o->h'.get? b=aa o:=λh' k b o e=>k b o (bU (bH e)) (bd _ e)
 refine ba (eO (c8 slot_list_sort ⟨_,hoL,rfl⟩ entry_list_sort (WP (s:={ s1 with heap:=s1.heap.push (seqObj "list" vs.toArray 0) }) hoL l64 (κ:=κ) (lt:=lt) (λh2 h' Q' k q=>?_) (λh' i j C k hi hj hij q=>?_) S λh' p c k ho hp hr=>?_) (args_list_sort _)))
 ·exact hk vs lt s1 g h2 h' Q' (kept h' k) q
 ·exact hc vs lt s1 g h' i j C (kept h' k) hi hj hij q
 ·exact⟨_,rfl,bg ⟨_,rfl,fin vs lt s1 g h' p c (kept h' k) ho hp hr⟩⟩
end
def d0:Row:=(("",0),0)
theorem zgf(rows:List Row):∃its:List Row,dOf rows=its.map (λq=>(zy q.1,V.int q.2))/\(its.map (·.1)).Nodup/\∀p w,(p,w)∈its↔zx rows p=aa w:=by
 have h:=vV rows
 have:∀(kvs:List (List Key × V)),(∀kv∈kvs,∃(p:Pl) (w:Int),kv=(zy p,.int w))->∃its:List Row,kvs=its.map (λq=>(zy q.1,V.int q.2)):=λkvs=>by
  induction kvs with
  | nil=>exact λ_=>⟨[],rfl⟩
  | cons kv r ih =>
   intro hk
   obtain⟨qs,e⟩:=ih λz hz=>hk z (br _ hz)
   obtain⟨p,w,e2⟩:=hk kv bt
   exact⟨(p,w) :: qs,by rw[bM,<-e,e2]⟩
 obtain⟨its,e⟩:=this _ h.2
 refine⟨its,e,?_,λp w=>?_⟩
 ·have:=h.1
  rw[e,gm] at this
  refine xL (f:=zy) ?_
  rw[gm]
  exact this
 ·have m:=mem_dOf (rows:=rows) (kv:=(zy p,V.int w))
  constructor
  ·intro hm
   obtain⟨p',w',e1,e2⟩:=m.mp (by rw[e];exact bP.mpr ⟨_,hm,rfl⟩)
   have e3:=yN (oC e1).1
   have e4:=V.int.inj (oC e1).2
   rw[e3,e4];exact e2
  ·intro hw
   have hm:=m.mpr ⟨p,w,rfl,hw⟩
   rw[e] at hm
   obtain⟨q,hq,e1⟩:=bP.mp hm
   have e3:=yN (oC e1).1
   have e4:=V.int.inj (oC e1).2
   rw[<-e3,<-e4];exact hq
theorem WV{α:Type}(l:List α)(d:α):(eG l.length).map (λi=>l.getD i d)=l:=by
 apply eV
 intro i
 rw[bw]
 by_cases hi:i < l.length
 ·rw[lF hi,bb hi]
  simp[bC,bb hi]
 ·rw[cG (by simpa using hi),cG (by lia)]
  rfl
theorem PP.list(h:PP n p):p.toList.Perm (eG n):=by
 have:=gA.mp h
 simpa using this
theorem PP.lt(h:PP n p):∀i∈p.toList,i < n:=λi hi=>by
 have:=h.list.mem_iff.mp hi
 simpa using this
theorem WW{α:Type}{F:α->α->Bool}{l:List α}{d:α}{n:Nat}(hp:PP n p)(hr:ZC (λi j=>F (l.getD i d) (l.getD j d)) p n):(p.toList.map λi=>l.getD i d).Pairwise λa b=>F a b=af:=by
 rw[fJ,fq]
 intro i j hi hj hij
 rw[cr] at hi hj
 have g1:=jW hi
 have g2:=jW hj
 have sz:=hp.size
 have r:=hr i j hij (by lia)
 have x1:p.toList[i]=gt p i:=by
  rw[cF hi] at g1
  simpa using g1
 have x2:p.toList[j]=gt p j:=by
  rw[cF hj] at g2
  simpa using g2
 rw[x1,x2];exact r
theorem jn{α β:Type}{F:α->β->Prop}{l₁:List α}{l₂:List β}(h:Paired F l₁ l₂)(a:α)(b:β):∀ {is:List Nat},(∀i∈is,i < l₁.length)->Paired F (is.map λi=>l₁.getD i a) (is.map λi=>l₂.getD i b)
 | [],_=>.nil
 | i :: r,hi=>by
  have l:=bF h
  have h1:=hi i bt
  refine .cons ?_ (jn h a b λj hj=>hi j (br _ hj))
  show F (l₁.getD i a) (l₂.getD i b)
  have e1:=bb h1
  have e2:l₂[i]?=aa l₂[i]:=bb (by lia)
  rw[bC,bC,e1,e2]
  exact yv h e1 e2
abbrev zdx:RC:=λvs H Q=>∃r d rows,vs=[.ref r]/\H r=aa (ZK r d)/\H d=aa (.dT (dOf rows))/\(dOf rows).length < 64 /\
 ∀l ys srt H',Same H H'->H l=ah->H' l=aa (.lst ys)->Paired (PrAt H') ys srt->Rising srt->(∀p w,(p,w)∈srt↔zx rows p=aa w)->Q (.ref l) H'
theorem zdy{H:Hp}:∀ {ys:List V} {its:List Row},Paired (YK H) ys (its.map λq=>(zy q.1,V.int q.2))->Paired (PrAt H) ys its
 | _,[],h=>by cases h;exact .nil
 | _,q :: r,h=>by
  rw[bM] at h
  cases h with
  | cons a t=>exact .cons a (zdy t)
section
variable {X:Cx}
theorem zgX{σ:St}{H:Hp}{s:ag}{v:V}{u:ae}{q:Row}(I:Inv X pins σ H s)(h:PrAt H v q)(r:RelV v u):RvAt s.heap u q:=by
 obtain⟨a,p,rfl,h1,h2⟩:=h
 cases r
 obtain⟨_,its,rv,o,o1,o2,n,o3⟩:=(show ObjOk X.prog X.w H s.heap a (.tup [.ref p,.int q.2]) from I.hok a _ h1)
 cases rv with
 | cons r1 rr =>
  cases rr with
  | cons r2 rn =>
   cases rn
   cases r1
   obtain⟨t,rfl⟩:=r2
   exact⟨a,o,p,t,n,rfl,o1,o2,o3,Qb I h2⟩
theorem YL(hc:X.calm=af)(hu:X.A.units + 3 < cLine):jQ X (.builtin "sorted") zdx:=by
 intro pins s σ H vs us Q I r0 h
 obtain⟨r,d,rows,rfl,hr,hd,h64,q⟩:=h
 obtain⟨u,rfl,ru⟩:=qu r0
 cases ru
 have hh:X.A.handled=ah:=I.ok.hd hc
 obtain⟨its,ei,nd,mi⟩:=zgf rows
 have li:(dOf rows).length=its.length:=by rw[ei,bo]
 have so:=WQ nd
 have vat:∀ {s1:ag} {H':Hp} {ys:List V} {vs:List ae},Inv X pins σ H' s1->Paired (PrAt H') ys its->Vals ys vs->∀(i:Nat) (q:Row),its[i]?=aa q->∃v,vs[i]?=aa v/\RvAt s1.heap v q:=λ{s1 H' ys vs} I' pr rv i q hq=>by
  have hi:=(bq.mp hq).1
  have l1:=bF pr
  obtain⟨y,hy⟩:∃y,ys[i]?=aa y:=⟨_,bb (by lia)⟩
  obtain⟨u,hu',ru⟩:=rv.get hy
  exact⟨u,hu',zgX I' (yv pr hy hq) ru⟩
 refine JY (κ:=tuples' am) (λvs lt s1=>∃H' ys,Inv X pins σ H' s1/\Same H H'/\Paired (PrAt H') ys its/\Vals ys vs/\lt=λi j=>yj ((its.map (·.1)).getD i (("",0):Pl)) ((its.map (·.1)).getD j (("",0):Pl)))
  (λR hR=>zaL (A:=X.A.in1) hh hr hd (by lia) I λs1 H' ys us I' sm pr rv=>hR us _ s1 ⟨H',ys,I',sm,zdy (by rw[<-ei];exact pr),rv,rfl⟩) ?_ ?_ ?_ ?_
 ·rintro vs lt s1 ⟨H',ys,I',sm,pr,rv,rfl⟩
  have l1:=bF pr
  have l2:=rv.length
  refine⟨by lia,?_⟩
  rw[show vs.length=(its.map (·.1)).length by rw[bo];lia]
  exact so
 ·rintro vs lt s1 ⟨H',ys,I',sm,pr,rv,rfl⟩ h2 h Q' k q'
  have l1:=bF pr
  have l2:=rv.length
  refine zdw (s:={ s1 with heap:=h }) (qs:=its) (by lia) (λi v q hv hq=>?_) (by lia) q'
  obtain⟨v',hv',rr⟩:=vat I' pr rv i q hq
  rw[hv] at hv'
  cases hv'
  exact rr.keep k
 ·rintro vs lt s1 ⟨H',ys,I',sm,pr,rv,rfl⟩ h i j C k hi hj hij q'
  have l1:=bF pr
  have l2:=rv.length
  have e1:its[i]?=aa its[i]:=bb (by lia)
  have e2:its[j]?=aa its[j]:=bb (by lia)
  obtain⟨v1,g1,r1⟩:=vat I' pr rv i _ e1
  obtain⟨v2,g2,r2⟩:=vat I' pr rv j _ e2
  have n1:(its.map (·.1)).getD i (("",0):Pl)=its[i].1:=by rw[bC,bw,e1];rfl
  have n2:(its.map (·.1)).getD j (("",0):Pl)=its[j].1:=by rw[bC,bw,e2];rfl
  have m1:vs.getD i cL=v1:=by rw[bC,g1];rfl
  have m2:vs.getD j cL=v2:=by rw[bC,g2];rfl
  simp only[n1,n2] at q'
  have key:=ze2 (P:=X.prog) (w:=X.w) (A:=X.A.in1.in1) (E:=λ_ _=>False) (s:={ s1 with heap:=h }) (Q:=C) (by have e:X.A.in1.in1.units=X.A.units + 2:=rfl;lia) (r1.keep k) (r2.keep k) q' λz=>hij (by
   have e3:(its.map (·.1))[i]?=aa its[i].1:=by rw[bw,e1];rfl
   have e4:(its.map (·.1))[j]?=aa its[j].1:=by rw[bw,e2];rfl
   rw[z] at e3
   exact(iC (by rw[bo];lia) nd).mp (e3.trans e4.symm))
  rw[<-m1,<-m2] at key
  exact key
 ·rintro vs lt s1 ⟨H',ys,I',sm,pr,rv,rfl⟩ h' p c k hD hp hr
  have l1:=bF pr
  have l2:=rv.length
  have hp':PP its.length p:=by rw[show its.length=vs.length by lia];exact hp
  have fr:H' s1.heap.objs.size=ah:=I'.hok.fresh (bh _)
  have sz:=hp'.size
  have pk:=jn pr V.non d0 (is:=p.toList) λi hi=>by have:=hp'.lt i hi;lia
  have vk:Vals (p.toList.map λi=>ys.getD i V.non) (vx vs p):=jn rv V.non cL (is:=p.toList) λi hi=>by have:=hp'.lt i hi;lia
  have I2:Inv X pins σ (upd H' s1.heap.objs.size (.lst (p.toList.map λi=>ys.getD i V.non))) { s1 with heap:=h' }:=I'.laid (a:=s1.heap.objs.size) (o:=.lst (p.toList.map λi=>ys.getD i V.non)) (t':=s1.toks) k (bh _)
   ⟨by rw[bo,cr];exact bN (by lia:_<=64) (by lia),vx vs p,c,vk,hD⟩
  have S2:Same H' (upd H' s1.heap.objs.size (.lst (p.toList.map λi=>ys.getD i V.non))):=isV _ fr
  have hn:H s1.heap.objs.size=ah:=by
   cases e:H s1.heap.objs.size with
   | none=>rfl
   | some o=>rw[sm _ _ e] at fr;cases fr
  have mono:∀ {us:List V} {ws:List Row},Paired (PrAt H') us ws->Paired (PrAt (upd H' s1.heap.objs.size (.lst (p.toList.map λi=>ys.getD i V.non)))) us ws:=λ{us ws} h=>by
   induction h with
   | nil=>exact .nil
   | cons a _ ih =>
    obtain⟨r,p,e,h1,h2⟩:=a
    exact .cons ⟨r,p,e,S2 _ _ h1,S2 _ _ h2⟩ ih
  refine⟨.ref s1.heap.objs.size,_,I2,rfl,q _ _ (p.toList.map λi=>its.getD i d0) _ (sm.trans S2) hn zg (mono pk) ?_ λpl wv=>?_⟩
  ·have hr':ZC (λi j=>yj ((its.map (·.1)).getD i (("",0):Pl)) ((its.map (·.1)).getD j (("",0):Pl))) p its.length:=by rw[show its.length=vs.length by lia];exact hr
   have pw:=WW (F:=yj) hp' hr'
   have eq:(p.toList.map λi=>its.getD i d0).map (·.1)=p.toList.map λi=>(its.map (·.1)).getD i (("",0):Pl):=by
    rw[gm]
    refine fN λi hi=>?_
    have hi:=hp'.lt i hi
    simp[bC,bw,bb hi]
   rw[<-eq,fJ] at pw
   exact pw
  ·have pm:(p.toList.map λi=>its.getD i d0).Perm its:=by
    refine(hp'.list.map _).trans ?_
    rw[WV]
   rw[pm.mem_iff]
   exact mi pl wv
end
end L2
namespace L2
open PySem PySem.Spec PyProof.Rows
end L2
namespace L2
open PySem
structure StOk(n:Nat)(s:Sta):Prop where
 so:yV s.sl
 wo:∀r∈s.wo,inW r.2=af
 l1:s.sl.length<=n
 l2:s.wo.length<=n
 l3:s.sa.length<=n
theorem StOk.mono(h:StOk n s)(l:n<=m):StOk m s:=⟨h.so,h.wo,bN h.l1 l,bN h.l2 l,bN h.l3 l⟩
theorem Jg(h:yV kvs)(k:Key){i:Int}(hi:inW i=af):yV (yC kvs k (.int i)):=λk' v e=>by
 rw[WC] at e
 by_cases c:k'=k
 ·rw[ao c] at e
  exact⟨i,(bV e).symm,hi⟩
 ·rw[ak c] at e
  exact h k' v e
theorem vB{P:Row->Prop}{p:Pl}{w:Int}:∀ {l:List Row},(∀r∈l,P r)->zx l p=aa w->P (p,w)
 | [],_,h=>by cases h
 | r :: t,hp,h=>by
  rw[zx] at h
  cases e:zx t p with
  | some w' =>
   rw[e] at h
   have:w'=w:=by simpa using h
   subst this
   exact vB (λr hr=>hp r (br _ hr)) e
  | none =>
   rw[e] at h
   by_cases c:r.1=p
   ·rw[ao c] at h
    have:r.2=w:=by simpa using h
    rw[<-c,<-this];exact hp r bt
   ·rw[ak c] at h;cases h
theorem WX(h:∀r∈l,inW r.2=af)(p:Pl):inW ((zx l p).getD 0)=af:=by
 cases e:zx l p with
 | none=>rfl
 | some w=>exact vB (P:=λr=>inW r.2=af) h e
mutual
def zhl(P:Pl->Prop):Rw->Prop
 | .give sh e _=>∀kvs n,rk kvs e=.ok n->P (sh,n)
 | .iff _ a b=>zdz P a/\zdz P b
 | _=>True
def zdz(P:Pl->Prop):Rws->Prop
 | .nil=>True
 | .cons r rs=>zhl P r/\zdz P rs
end
inductive Oc where
 | done (sa:List Int)
 | off (why:Str)
def Qi:Er->Str
 | .great=>"great"
 | _=>"nought"
def zgg(rws:Rws)(tab:List Row)(oc:Oc)(out:List Row):Prop:=match zeY rws ⟨[],tab,[]⟩ with
 | .go s=>oc=.done s.sa/\YH s.wo out
 | .off=>oc=.off "told"/\out=tab
 | .er e=>oc=.off (Qi e)/\out=tab
inductive zgh:List Rws->List Row->List Oc->List Row->Prop
 | nil {tab:List Row}:zgh [] tab [] tab
 | cons {d:Rws} {ds:List Rws} {tab mid out:List Row} {oc:Oc} {ocs:List Oc}:zgg d tab oc mid->zgh ds mid ocs out->zgh (d :: ds) tab (oc :: ocs) out
def XN:V->PyData
 | .int i=>.int i
 | .str x=>.str x
 | _=>.none
def plV(v:V):Prop:=(∃i,v=.int i)\/∃x,v=.str x/\cR x=af
def WY(e:List V):PyData:=.tuple (e.map XN)
mutual
def rwD:Rw->PyData
 | .take sh e sl=>.tuple [.str "take",.str sh,WY e,.str sl]
 | .give sh e f=>.tuple [.str "give",.str sh,WY e,WY f]
 | .lt sl e=>.tuple [.str "let",.str sl,WY e]
 | .say e=>.tuple [.str "say",WY e]
 | .off e=>.tuple [.str "off",WY e]
 | .iff e a b=>.tuple [.str "if",WY e,.list (zgi a),.list (zgi b)]
def zgi:Rws->List PyData
 | .nil=>[]
 | .cons r rs=>rwD r :: zgi rs
end
def tmP(e:List V):Prop:=∀v∈e,plV v
mutual
def WZ:Rw->Prop
 | .take sh e sl=>cR sh=af/\tmP e/\cR sl=af
 | .give sh e f=>cR sh=af/\tmP e/\tmP f
 | .lt sl e=>cR sl=af/\tmP e
 | .say e=>tmP e
 | .off e=>tmP e
 | .iff e a b=>tmP e/\qE a/\qE b
def qE:Rws->Prop
 | .nil=>True
 | .cons r rs=>WZ r/\qE rs
end
section
variable {K:bx}{H:Hp}{F:ac->Prop}
theorem zdA(h:plV v):Dat K H v (XN v):=by
 rcases h with ⟨i,rfl⟩ | ⟨x,rfl,_⟩
 ·exact .int i
 ·exact .str x
theorem zce:∀ {e:List V},tmP e->Xh K H e (e.map XN)
 | [],_=>.nil
 | v :: r,h=>.cons (zdA (h v bt)) (zce λu hu=>h u (br _ hu))
end
theorem Qj:∀ {e:List V},tmP e->Zv (e.map XN)=af
 | [],_=>by simp[Zv]
 | v :: r,h=>by
  rw[bM,Zv,Qj λu hu=>h u (br _ hu),Bool.and_true]
  rcases h v bt with ⟨i,rfl⟩ | ⟨x,rfl,hx⟩
  ·rw[XN,zaJ]
  ·rw[XN,zaJ];exact hx
theorem zaM:∀(e:List V),gU (e.map XN)=0
 | []=>by simp[gU]
 | v :: r=>by
  rw[bM,gU,zaM r]
  cases v <;> simp[XN,nN]
def Rws.snoc:Rws->Rw->Rws
 | .nil,x=>.cons x .nil
 | .cons r rs,x=>.cons r (rs.snoc x)
def Rws.app:Rws->Rws->Rws
 | .nil,x=>x
 | .cons r rs,x=>.cons r (rs.app x)
theorem RwsAt.get{F:ac->Prop}{H:Hp}:∀ {r:Rws} {vs:List V} {i:Nat} {v:V},RwsAt F H (vs.drop i) r->vs[i]?=aa v->∃x rs,r=.cons x rs/\RwAt F H v x/\RwsAt F H (vs.drop (i + 1)) rs
 | .nil,vs,i,v,h,e=>by
  unfold RwsAt at h
  have:=(bq.mp e).1
  have:=congrArg b8 h
  rw[cT] at this
  simp at this
  lia
 | .cons x rs,vs,i,v,h,e=>by
  unfold RwsAt at h
  obtain⟨u,ws,e1,e2,e3⟩:=h
  have hi:=(bq.mp e).1
  have d:=da hi
  rw[e1] at d
  have e4:vs[i]=v:=(bq.mp e).2
  rw[e4] at d
  injection d with d1 d2
  subst d1 d2
  exact⟨x,rs,rfl,e2,e3⟩
theorem RwsAt.none{F:ac->Prop}{H:Hp}{vs:List V}(h:RwsAt F H (vs.drop vs.length) r):r=.nil:=by
 rw[pS] at h
 cases r with
 | nil=>rfl
 | cons x rs =>
  unfold RwsAt at h
  obtain⟨_,_,e,_⟩:=h
  cases e
theorem zdB(h:kA v)(j:isJ v=am):TermOk [v]:=
 ⟨λkvs=>⟨_,zb4 j⟩,λu hu=>by rw[bI.mp hu];exact h,by simp⟩
theorem Paired.snocP{α β:Type}{F:α->β->Prop}{x:α}{y:β}:∀ {a:List α} {b:List β},Paired F a b->F x y->Paired F (a ++ [x]) (b ++ [y])
 | _,_,.nil,h=>.cons h .nil
 | _,_,.cons a r,h=>.cons a (Paired.snocP r h)
theorem Paired.getP{α β:Type}{F:α->β->Prop}{a:List α}{b:List β}{i:Nat}{x:α}(h:Paired F a b)(e:a[i]?=aa x):∃y,b[i]?=aa y/\F x y:=by
 have hi:=(bq.mp e).1
 have l:=bF h
 exact⟨b[i],bb (by lia),yv h e (bb (by lia))⟩
end L2
namespace L2
open PySem PySem.Spec PyProof.Rows
theorem zgj{c:Nat}:∀ {a b r s:List Nat},c ∉ a->c ∉ b->a ++ c :: r=b ++ c :: s->a=b/\r=s
 | [],[],r,s,_,_,h=>by simpa using h
 | [],y :: b,r,s,_,hb,h=>by
  simp only[cz,ca,bQ] at h
  exact absurd h.1 (λz=>hb (by rw[z];exact bt))
 | x :: a,[],r,s,ha,_,h=>by
  simp only[cz,ca,bQ] at h
  exact absurd h.1.symm (λz=>ha (by rw[z];exact bt))
 | x :: a,y :: b,r,s,ha,hb,h=>by
  simp only[ca,bQ] at h
  obtain⟨e1,e2⟩:=zgj (λz=>ha (br _ z)) (λz=>hb (br _ z)) h.2
  exact⟨by rw[h.1,e1],e2⟩
def zfH(K:bx)(ta:TA):TI:=λσ H R=>ta σ H λvs H1=>∃p q xs ys,vs=[.ref p,.ref q]/\xs.length=ys.length/\((SqL K H1 p xs/\SqL K H1 q ys/\R (zdk K p q xs ys) H1)\/(SqT K H1 p xs/\SqT K H1 q ys/\R (Itz K p q xs ys) H1))
section
variable {X:Cx}
theorem ze3{elts:List aA}{x1}{tp:Pos}{e1 e2:aA}{ta:TA}{p pos:Pos}(hg:Gl X "zip")(hm:X.mg "zip"=ah)(ha:PA X [e1,e2] ta)(he:starEach [e1,e2] X.env=(am,eval e1 X.env) :: starEach [e2] X.env:=by rfl)(hpl:(backTo pos (starEach [e2] X.env)).any (·.1)=am:=by rfl) :
  PI X (.Tuple elts x1 tp) (.Call (.Name "zip" p) [e1,e2] [] pos) (zfH X.K ta):=by
 intro pins s σ H R I h
 refine Call_ (Wu I hg hm zf7 (fW (thn (ha pos pins s σ H _ I h) λus s1 ⟨vs,H1,I1,r1,q1⟩=>?_) he hpl))
 obtain⟨a,b,xs,ys,e,hl,q0⟩:=q1
 subst e
 obtain⟨u1,u2,rfl,ra,rb⟩:=zcE r1
 cases ra
 cases rb
 have ne:∀ {x y:Nat},x≠y->(show ac from x)≠(show ac from y):=λh=>h
 rcases q0 with ⟨h1,h2,q⟩ | ⟨h1,h2,q⟩
 ·obtain⟨us1,r1,p1,_⟩:=I1.list h1
  obtain⟨us2,r2,p2,_⟩:=I1.list h2
  have l1:a < s1.heap.objs.size:=by obtain⟨_,_,e,_⟩:=p1;exact bH e
  have l2:b < s1.heap.objs.size:=by obtain⟨_,_,e,_⟩:=p2;exact bH e
  refine call_zip_2 p1.isList p2.isList λh' z0 a0 b0 i0 j0 _ k=>?_
  refine iY (s:={ s1 with heap:=h' }) z0 ?_
  generalize hn:s1.heap.objs.size=n at *
  have la:∀k:Nat,(show Nat from a)≠n + k:=λk=>bU (b7 l1 (fh _ _))
  have lb:∀k:Nat,(show Nat from b)≠n + k:=λk=>bU (b7 l2 (fh _ _))
  have D:ZipApart (n + 4) (n + 2) (n + 3) n (n + 1) a b:=⟨ne (by lia),ne (by lia),ne (by lia),ne (by lia),ne (by lia),ne (by lia),ne (by lia),ne (by lia),ne (by lia),ne (by lia),la 4,la 3,la 0,la 1,lb 4,lb 3,lb 0,lb 1⟩
  refine⟨_,_,_,_,H1,rfl,I1.kept (t':=s1.toks) k,zcb D hl,⟨z0,a0,⟨_,_,b0⟩,i0,j0⟩,λc hc=>?_,q⟩
  simp only[bE,cI,or_false] at hc
  have hc:n<=c:=by rcases hc with rfl | rfl | rfl | rfl | rfl <;> first | exact fh _ _ | exact bh _
  exact I1.fpOk (by rw[hn];exact hc) (I1.hok.fresh (by rw[hn];exact hc))
 ·obtain⟨us1,r1,p1,_⟩:=I1.tuple h1
  obtain⟨us2,r2,p2,_⟩:=I1.tuple h2
  have l1:a < s1.heap.objs.size:=by obtain⟨_,e,_⟩:=p1;exact bH e
  have l2:b < s1.heap.objs.size:=by obtain⟨_,e,_⟩:=p2;exact bH e
  refine zb8 (show s1.heap.IsTuple a us1.toArray from p1) (show s1.heap.IsTuple b us2.toArray from p2) λh' st k=>?_
  refine iY (s:={ s1 with heap:=h' }) st.1 ?_
  generalize hn:s1.heap.objs.size=n at *
  have la:∀k:Nat,(show Nat from a)≠n + k:=λk=>bU (b7 l1 (fh _ _))
  have lb:∀k:Nat,(show Nat from b)≠n + k:=λk=>bU (b7 l2 (fh _ _))
  have D:Xg (n + 4) (n + 2) (n + 3) n (n + 1) a b:=⟨ne (by lia),ne (by lia),ne (by lia),ne (by lia),ne (by lia),ne (by lia),ne (by lia),ne (by lia),ne (by lia),ne (by lia),la 4,la 3,la 0,la 1,lb 4,lb 3,lb 0,lb 1⟩
  refine⟨_,_,_,_,H1,rfl,I1.kept (t':=s1.toks) k,zda D hl,st,λc hc=>?_,q⟩
  simp only[bE,cI,or_false] at hc
  have hc:n<=c:=by rcases hc with rfl | rfl | rfl | rfl | rfl <;> first | exact fh _ _ | exact bh _
  exact I1.fpOk (by rw[hn];exact hc) (I1.hok.fresh (by rw[hn];exact hc))
abbrev zdC(K:bx):R2:=λx y H Q=>∃a b xs,x=.ref a/\y=.ref b/\SqL K H a xs/\SqL K H b []/\Q (.bl (!decide (xs=[]))) H
theorem zdD(hu:X.A.units + 64 < cLine):OpR X (compareOp .NotEq) (zdC X.K):=by
 intro pins s σ H x y v u Q I rx ry h
 obtain⟨a,b,xs,rfl,rfl,ha,hb,q⟩:=h
 by_cases e:xs=[]
 ·subst e
  exact zgb hu pins s σ H _ _ v u Q I rx ry ⟨a,b,[],[],rfl,rfl,ha,hb,⟨rfl,rfl,rfl⟩,q⟩
 ·cases rx
  cases ry
  obtain⟨us,r1,p1,_⟩:=I.list ha
  obtain⟨ws,r2,p2,_⟩:=I.list hb
  cases r2
  have e1:=r1.length
  have e2:xs.length≠0:=λz=>e (cZ z)
  rw[decide_eq_false e] at q
  exact PySem.SeqAt.RcNeAt.lists_lengths p1.isList p2.isList (by simp;intro z;rw[z] at e1;exact e2 e1) (by lia) X.prog X.w X.xe _ ⟨.bl af,H,I,rfl,q⟩
end
mutual
inductive zdE (H:Hp):V->PyData->Prop
 | int (i:Int):zdE H (.int i) (.int i)
 | str (x:Str):zdE H (.str x) (.str x)
 | lst {a:ac} {xs:List V} {ds:List PyData}:H a=aa (.lst xs)->Qk H xs ds->zdE H (.ref a) (.list ds)
 | tup {a:ac} {xs:List V} {ds:List PyData}:H a=aa (.tup xs)->Qk H xs ds->zdE H (.ref a) (.tuple ds)
inductive Qk (H:Hp):List V->List PyData->Prop
 | nil:Qk H [] []
 | cons {x:V} {d:PyData} {xs:List V} {ds:List PyData}:zdE H x d->Qk H xs ds->Qk H (x :: xs) (d :: ds)
end
end L2
namespace L2
open PySem
abbrev Ql:RM:=zbf
end L2
namespace L2
open PySem PySem.Spec PyProof.Rows
abbrev zgY:RC:=λxs H Q=>∃i j,xs=[.int i,.int j]/\Q (.int (if j > i then j else i)) H
section
variable {X:Cx}
open Classical in
noncomputable def zhp(K:PySem.W.Frag)(H:Hp)(d:PyData)(u:ae):Bool:=decide (∃x,RelV x u/\Dat K H x d)
open Classical in
end
def Cb(i:Int):Prop:=dD i<=1048576
theorem Cb.of{i:Int}(h:i.natAbs < 2 ^ 64):Cb i:=bN (intBits_le_iff.mpr h) (by lia)
def Cw(i:Int):Prop:=dD i<=4000000
theorem Cb.w{i:Int}(h:Cb i):Cw i:=bN h (by lia)
theorem Cw.div{i k:Int}(h:Cw i):Cw (i / k):=intBits_le_of_natAbs (Int.natAbs_ediv_le_natAbs i k) h
def CMulC(i j:Int):Prop:=Cw i/\Cw j
theorem CMulC.ok{i j:Int}(h:CMulC i j):IntMulOk i j:=by
 unfold IntMulOk
 have h1:dD i<=4000000:=h.1
 have h2:dD j<=4000000:=h.2
 have e:nS ((dD i:Int) + (dD j:Int))=am:=by
  unfold nS
  rw[decide_eq_false_iff_not]
  have:(bitsLine:Int)=134217728:=by lia
  lia
 rw[e];simp
section
variable {X:Cx}
theorem ze4:OpR X (binaryOp .Mult) (rI CMulC λi j=>.int (i * j)):=opI λ_ _ _ _ _ _ _ hc q=>mul_int q hc.ok
end
open Att PySem.W PySem.Calls in
theorem zdF{l:oK}{n k:Nat}{q:au}{loose:List Str}{XP:(Str->Option ae)->av->Prop}{YP:aw->av->Prop}{d:DefRec}{K:Params->bx}{CX:aw->CXT}{sp:aw->Sp}{x:Str}
  (hn:l.most=aa n) (hn2:n<=sizeLine) (hdf:d.params.defaults=[]) (hr:Room k callerA) (hY:∀(w:aw) (h:av),YP w h->(K w.params).In h)
  (F:∀(w:aw) (mg:Str->Option ae) (fa:ac) (h:av),(K w.params).In h->h.Ns mainGlobals mg->mg d.name=aa (.ref fa) ->
   ∃fd:FuncData,(∀(s:ag) (u:ae),BindsTo s fd ⟨[u],[]⟩ [(x,u)]) /\
    ∀base:av,(K w.params).In base->base.Ns mainGlobals mg->FnOk l.prog w (K w.params) mg base (CX w) k fa fd [x] (sp w))
  (hsp:∀(w:aw) (H:Hp) (a:ac) (ns:List Int),ns.length<=n->(∀i∈ns,Cb i)->zax H->SqL (K w.params) H a (ns.map V.int)->sp w [.ref a] H (λv _=>v=.bl af) λ_ _ _=>False)
  (hCX:∀(w:aw) (H:Hp) (s:ag) (e:ae) (s':ag),CX w [] H s (λ_ _ _=>False) e s'->False) :
  rA q loose XP YP l.row.toRowW d [] (λf vs=>mh f vs):=by
 intro w s₀ s₁ mg mb G Y fa o pm cd doc dV kV ho hd hcd hD hmg hg args vals as hpre hlay hrd hwl hlo
 obtain rfl:dV=.none:=Dflts.none hD hdf
 obtain rfl:kV=.none:=Dflts.noKw hD
 obtain⟨a,vs,ns,rfl,rfl,hobj,hints,hlen⟩:=V3 hn hpre hwl
 have hb:∀i∈ns,Cb i:=λi hi=>intBits_le_of_layable (layable_of_mem (lay0_int (layableW_item (layableW_arg hlay _ bt) _ (bP.mpr ⟨i,hi,rfl⟩))) bt)
 have KX:=hY w _ Y
 obtain⟨fd,hbd,hF⟩:=F w mg fa _ KX G.T.g hmg
 refine enter_call (fY (KP KX G.T.g G.T.b G.T.builtins G.T.nolimit hg hobj hints (bN hlen hn2) hr hF hbd (λH hO hS=>hsp w H a ns hlen hb hO hS) λH e s'=>hCX w H s₁ e s') λr s' hq=>?_)
 obtain⟨rfl,h2,h3,h4⟩:=hq
 exact⟨.inl ⟨.bool af,.bool af,[],rfl,λ_=>rfl,.bool af,V4 l _,λ_=>⟨fG,λ_ hm=>(nomatch hm)⟩⟩,h2,h3,h4⟩
theorem walk_ofXB{l:oK}{n k:Nat}{q:au}{loose:List Str}{XP:(Str->Option ae)->av->Prop}{YP:aw->av->Prop}{d:DefRec}{K:Params->bx}{sp:bx->Sp}{x:Str}
  (hn:l.most=aa n) (hn2:n<=sizeLine) (hdf:d.params.defaults=[]) (hr:Room k callerA) (hY:∀(w:aw) (h:av),YP w h->(K w.params).In h)
  (F:∀(w:aw) (mg:Str->Option ae) (fa:ac) (h:av),(K w.params).In h->h.Ns mainGlobals mg->mg d.name=aa (.ref fa) ->
   ∃fd:FuncData,(∀(s:ag) (u:ae),BindsTo s fd ⟨[u],[]⟩ [(x,u)]) /\
    ∀base:av,(K w.params).In base->base.Ns mainGlobals mg->FnOk l.prog w (K w.params) mg base (CX1 l.prog w) k fa fd [x] (sp (K w.params)))
  (hsp:∀(K:bx) (H:Hp) (a:ac) (ns:List Int),ns.length<=n->(∀i∈ns,Cb i)->zax H->SqL K H a (ns.map V.int)->sp K [.ref a] H (λv _=>v=.bl af) λ_ _ _=>False) :
  rA q loose XP YP l.row.toRowW d [] (λf vs=>mh f vs) :=
 zdF (K:=K) (CX:=λw=>CX1 l.prog w) (sp:=λw=>sp (K w.params)) hn hn2 hdf hr hY F (λw H a ns h1 hb h2 h3=>hsp (K w.params) H a ns h1 hb h2 h3) λ_ _ _ _ _ z=>by
  obtain⟨_,_,_,_,_,_,_,_,_,y⟩:=z
  exact y
section
variable {X:Cx}
theorem Jh{P:au}{w:aw}:∀ {es:List DictEntry} {vs:List (Key × ae)} {i:Nat} {e:DictEntry},Pairs (yn P w) es vs->es[i]?=aa e->∃k u,vs[i]?=aa (k,u)/\Wr k e.key=af
 | _,_,i,_,.nil,h=>by simp at h
 | _,_,0,_,.cons h1 _ _,h=>by
  simp only[bf,bu] at h
  subst h
  exact⟨_,_,rfl,h1⟩
 | _,_,i + 1,_,.cons _ _ t,h=>by
  obtain⟨k,u,a,b⟩:=Jh (i:=i) t (by simpa using h)
  exact⟨k,u,by simpa using a,b⟩
end
section
variable {K:Type} [DecidableEq K]
def Ji(xs:List (K × ac × ae))(k:K):List (K × ac × ae):=xs.filter λx=>decide (x.1≠k)
theorem zaN:∀ {xs:List (K × ac × ae)} {k:K},k ∉ xs.map (·.1)->Ji xs k=xs:=λ{xs k} h=>lJ.mpr λx hx=>decide_eq_true λe=>h (bP.mpr ⟨x,hx,e⟩)
theorem zdG:∀ {xs:List (K × ac × ae)} {j:Nat} {k:K} {p:ac × ae},(xs.map (·.1)).Nodup->xs[j]?=aa (k,p)->xs.eraseIdx j=Ji xs k
 | [],j,k,p,_,h=>by simp at h
 | x :: r,0,k,p,n,h=>by
  rw[bM,cO] at n
  simp only[bf,bu] at h
  subst h
  show r=List.filter _ ((k,p) :: r)
  rw[gZ (by simp)]
  exact(zaN n.1).symm
 | x :: r,j + 1,k,p,n,h=>by
  rw[bM,cO] at n
  simp only[bp] at h
  have m:k∈r.map (·.1):=bP.mpr ⟨(k,p),cE h,rfl⟩
  have ne:x.1≠k:=λe=>n.1 (e ▸ m)
  show x :: r.eraseIdx j=List.filter _ (x :: r)
  rw[ia (by simp[ne]),zdG n.2 h]
  rfl
end
theorem Xi{α β:Type}(f:α->β):∀(l:List α) (j:Nat),(l.map f).eraseIdx j=(l.eraseIdx j).map f
 | [],_=>rfl
 | _ :: _,0=>rfl
 | a :: l,j + 1=>by rw[bM,gS,gS,bM,Xi f l j]
theorem KT.dropT{H:Hp}(r:KT H kvs xs)(k:List Key):KT H (xj kvs k) (Ji xs k):=by
 induction r with
 | nil=>exact .nil
 | @cons p q ps qs h t ih =>
  unfold xj Ji
  by_cases e:p.1=k
  ·rw[gZ (by simp[e]),gZ (by simp[<-h.1,e])]
   exact ih
  ·rw[ia (by simp[e]),ia (by simp[<-h.1,e])]
   exact .cons h ih
section
variable {prog:au}{w:aw}{K:Type} [DecidableEq K]{knd:HeapKind prog w K}{A:ax}{E:ae->ag->Prop}{s:ag}{d a:ac}{xs:List (K × ac × ae)}{k:K}
theorem JZ{Q:Option DictEntry->ag->Prop}(hu:knd.room A)(hkey:knd.is s.heap k a)(hm:s.heap.DictOfH knd d xs)(hp:atKey xs k=aa p)
  (hsome:∀e:DictEntry,e.val=p.2->∀h',h'.DictOfH knd d (Ji xs k)->cP d s.heap h'->Q (aa e) { s with heap:=h',toks:=s.toks + knd.draws k }) (hsz:xs.length<=sizeLine) :
  wpAny (model prog w) A (oh d (.ref a)) Q E s:=by
 obtain⟨o,es,ep,ho,hc,hd,he,his,hn⟩:=hm
 have hes:es.size=xs.length:=nT he
 unfold oh
 try with_reducible refine eO ?_
 refine ba (knd.pyHash hu hkey ?_)
 refine ba (wpAny_dictFind_heap (s:={ s with toks:=s.toks + knd.draws k }) hu hkey ho hd he his hn ?_ ?_)
 ·intro hno
  rw[atKey_none_of_get hno] at hp
  cases hp
 ·intro j q hj
  have e1:=atKey_of_get hn hj
  rw[hp] at e1
  cases e1
  refine ba (dJ (s:={ s with toks:=s.toks + knd.draws k }) ho hd ?_)
  rw[entry_at he j,hj]
  refine ba (om (hz:=by lia) (s:={ s with toks:=s.toks + knd.draws k }) ho hd (bg (hsome (entryOfKey knd (k,p)) rfl _ ⟨_,_,ep + 1,eC _ ho (oE (gB hd _)),hc.mapDictKeys _,gB hd _,?_,?_,?_⟩ (cY ..))))
  ·rw[<-zdG hn hj,<-Xi,<-he]
   obtain⟨l⟩:=es
   simp
  ·intro x hx
   exact knd.keeps (his x (eW.mp hx).1) ho hd (cY ..)
  ·exact gY (i3 _ gL) hn
theorem zaO :MeetsIn prog w (Builtin.«dict.pop» ⟨[.ref d,.ref a],[]⟩) (λA R s=>knd.room A.in1/\∃k xs p,knd.is s.heap k a/\s.heap.DictOfH knd d xs/\xs.length<=sizeLine/\atKey xs k=aa p /\
   ∀h',h'.DictOfH knd d (Ji xs k)->cP d s.heap h'->R (.ok (.ret p.2)) { s with heap:=h',toks:=s.toks + knd.draws k }):=
 .of_wp λA R s ⟨hu,k,xs,p,hkey,hm,hz,hp,h⟩=>by
  unfold Builtin.«dict.pop»
  refine ba ?_
  unfold lO
  refine ba (fm hm.typeIs ?_)
  show wpAny _ _ (pure (d,bL a,ah)) _ _ s
  refine bg ?_
  have kp:(keyPart (bL a)).isSome=am:=rfl
  simp only[kp,cC,if_false]
  obtain⟨o,es,ep,ho,hc,hd,he,his,hn⟩:=id hm
  refine ba (dJ ho hd ?_)
  refine ba (bg ?_)
  have ne:es.isEmpty=am:=by
   have l1:=nT he
   cases xs with
   | nil=>simp[atKey] at hp
   | cons x r =>
    rw[Array.isEmpty_eq_false_iff]
    intro z
    rw[z] at l1
    simp at l1
  simp only[ne,cC,if_false]
  refine ba (JZ hu hkey hm hp (λe ev h' hm' hs'=>?_) hz)
  simp only[oS,cC,if_false]
  exact ba (mO (bg ⟨e.val,rfl,by rw[ev];exact h h' hm' hs'⟩))
theorem X3{dflt:ae}{Q:ae->ag->Prop}(hu:knd.room A)(hkey:knd.is s.heap k a)(hm:s.heap.DictOfH knd d xs)
  (h1:∀p,atKey xs k=aa p->Q p.2 { s with toks:=s.toks + knd.draws k })
  (h2:atKey xs k=ah->∀h',h'.DictOfH knd d (storedH xs k a dflt)->cP d s.heap h'->Q dflt { s with heap:=h',toks:=s.toks + knd.draws k }) (hsz:xs.length<=sizeLine) :
  wpAny (model prog w) A (dictSetDefault d (.ref a) dflt) Q E s:=by
 obtain⟨o,es,ep,ho,hc,hd,he,his,hn⟩:=hm
 have hes:es.size=xs.length:=nT he
 unfold dictSetDefault
 try with_reducible refine eO ?_
 refine ba (knd.pyHash hu hkey ?_)
 refine ba (wpAny_dictFind_heap (s:={ s with toks:=s.toks + knd.draws k }) hu hkey ho hd he his hn ?_ ?_)
 ·intro hno
  have hnot:k ∉ xs.map (·.1):=not_mem_keys_of_get hno
  have e0:=atKey_none_of_get hno
  refine ba (lh (ba (om (hz:=by lia) (s:={ s with toks:=s.toks + knd.draws k }) ho hd (bg (h2 e0 _ ⟨_,_,ep + 1,eC _ ho (oE (gB hd _)),
   hc.mapDictKeys _,gB hd _,?_,?_,?_⟩ (cY ..))))))
  ·rw[storedH_new e0]
   simp[he,entryOfKey]
  ·rw[storedH_new e0]
   intro x hx
   rcases bJ.mp hx with hx | hx
   ·exact knd.keeps (his x hx) ho hd (cY ..)
   ·simp only[bI] at hx
    subst hx
    exact knd.keeps hkey ho hd (cY ..)
  ·rw[storedH_new e0]
   rw[cB,iD]
   refine⟨hn,by simp,?_⟩
   intro x hx y hy
   simp only[bM,nJ,bI] at hy
   subst hy
   exact λe=>hnot (e ▸ hx)
 ·intro j p hj
  refine ba (dJ (s:={ s with toks:=s.toks + knd.draws k }) ho hd ?_)
  rw[entry_at he j,hj]
  exact ba (lh (bg (h1 p (atKey_of_get hn hj))))
theorem Vt(hd:(d == sysModules)=am)(dflt:ae):MeetsIn prog w (Builtin.«dict.setdefault» ⟨[.ref d,.ref a,dflt],[]⟩) (λA R s=>knd.room A.in1/\∃k xs,knd.is s.heap k a/\s.heap.DictOfH knd d xs/\xs.length<=sizeLine /\
   (∀p,atKey xs k=aa p->R (.ok (.ret p.2)) { s with toks:=s.toks + knd.draws k }) /\
   (atKey xs k=ah->∀h',h'.DictOfH knd d (storedH xs k a dflt)->cP d s.heap h'->R (.ok (.ret dflt)) { s with heap:=h',toks:=s.toks + knd.draws k })):=
 .of_wp λA R s ⟨hu,k,xs,hkey,hm,hz,h1,h2⟩=>by
  unfold Builtin.«dict.setdefault»
  refine ba ?_
  unfold lO
  refine ba (fm hm.typeIs ?_)
  show wpAny _ _ (pure (d,bL a,aa dflt)) _ _ s
  refine bg ?_
  show wpAny _ _ (if (d == sysModules)=af then _ else (dictSetDefault d (.ref a) dflt >>= _)) _ _ s
  rw[ak (by rw[hd];exact bG)]
  exact ba (X3 hu hkey hm (λp hp=>bg ⟨_,rfl,h1 p hp⟩) (λhn h' hm' hs'=>bg ⟨dflt,rfl,h2 hn h' hm' hs'⟩) hz)
end
section
variable {X:Cx}{pins:List (ac × Obj)}{σ:St}{H:Hp}{s:ag}{a b:ac}{kvs:List (List Key × V)}{k:List Key}{A:ax}{E:ae->ag->Prop}
theorem zgk{Q:ae->ag->Prop}(hu:A.units + 1 < cLine)(I:Inv X pins σ H s)(e:H a=aa (.dT kvs))(eb:H b=aa (.tup (k.map kV)))(l:yd kvs k=aa v)
  (h:∀w' s',Inv X pins σ (upd H a (.dT (xj kvs k))) s'->RelV v w'->Q w' s'):wpAny (model X.prog X.w) A (call (.builtin "dict.pop") [.ref a,.ref b]) Q E s:=by
 obtain⟨z,hd,xs,rel,dd⟩:=KL I.hok e
 have hz:xs.length<=sizeLine:=by rw[<-bF rel];exact z
 have rv:=rel.val k
 rw[l] at rv
 obtain⟨w',hw,rw'⟩:=RelO.some_of rv
 obtain⟨p,hp,rfl⟩:=cy.mp hw
 refine iK eB dd.typeIs ie (mI _ _) (zaO (knd:=tupleKind (yn X.prog X.w))) ⟨dM hu,k,xs,p,kq I.hok eb,dd,hz,hp,λh' dd' hs=>h _ _ ?_ rw'⟩
 obtain⟨q,es,ep,hq,h2,h3,h4,_,h5⟩:=dd'
 refine Zs I (by rw[e];exact eJ) hs ⟨q,hq⟩ ⟨bN (KK kvs k) z,hd,_,(rel.dropT k).keeps λc ys ec=>?_,q,es,ep,hq,h2,h3,h4,h5⟩
 rw[zk (zT ec e (by lia))]
 exact ec
theorem zcf{Q:ae->ag->Prop}(hu:A.units + 1 < cLine)(I:Inv X pins σ H s)(e:H a=aa (.dT kvs))(eb:H b=aa (.tup (k.map kV)))(rd:RelV d r)(hl:kvs.length < sizeLine)
  (h1:∀v w' s',yd kvs k=aa v->Inv X pins σ H s'->RelV v w'->Q w' s') (h2:∀s',yd kvs k=ah->Inv X pins σ (upd H a (.dT (yC kvs k d))) s'->Q r s'):wpAny (model X.prog X.w) A (call (.builtin "dict.setdefault") [.ref a,.ref b,r]) Q E s:=by
 obtain⟨z,hd,xs,rel,dd⟩:=KL I.hok e
 have hz:xs.length<=sizeLine:=by rw[<-bF rel];exact z
 have rv:=rel.val k
 refine iK lf dd.typeIs PySem.F.entry_dict_setdefault (PySem.F.args_dict_setdefault_3 _ _ _) (Vt (knd:=tupleKind (yn X.prog X.w)) hd r) ⟨dM hu,k,xs,kq I.hok eb,dd,hz,λp hp=>?_,λhn h' dd' hs=>?_⟩
 ·rw[hp] at rv
  cases hv:yd kvs k with
  | none=>rw[hv] at rv;exact rv.elim
  | some v=>rw[hv] at rv;exact h1 v _ _ hv (I.tok _) rv
 ·rw[hn] at rv
  have hv:yd kvs k=ah:=by
   cases hv:yd kvs k with
   | none=>rfl
   | some v=>rw[hv] at rv;exact rv.elim
  refine h2 _ hv ?_
  obtain⟨q,es,ep,hq,g2,g3,g4,_,g5⟩:=dd'
  have hl2:(yC kvs k d).length<=sizeLine:=by have:=xT kvs k d;lia
  refine Zs I (by rw[e];exact eJ) hs ⟨q,hq⟩ ⟨hl2,hd,_,(rel.put k eb rd).keeps λc ys ec=>?_,q,es,ep,hq,g2,g3,g4,g5⟩
  rw[zk (zT ec e (by lia))]
  exact ec
end
def zaP(td ty:TE):TE:=λσ H Q=>td σ H λx H1=>∃a,x=.ref a/\IsD H1 a/\ty σ H1 λy H2=>∃kvs k b v,H2 a=aa (.dT kvs)/\y=.ref b/\H2 b=aa (.tup (k.map kV))/\yd kvs k=aa v/\Q v (upd H2 a (.dT (xj kvs k)))
def zaQ(td ty tx:TE):TE:=λσ H Q=>td σ H λx H1=>∃a,x=.ref a/\IsD H1 a/\ty σ H1 λy H2=>tx σ H2 λz H3=>∃kvs k b,H3 a=aa (.dT kvs)/\y=.ref b/\H3 b=aa (.tup (k.map kV))/\kvs.length < sizeLine /\
 (∀v,yd kvs k=aa v->Q v H3)/\(yd kvs k=ah->Q z (upd H3 a (.dT (yC kvs k z))))
section
variable {X:Cx}{o e f:aA}{apos cpos:Pos}{td ty tx:TE}
theorem zdH(hu:X.A.units + 1 < cLine)(ho:PE X o td)(he:PE X e ty)(m:M1 X o "pop" apos e cpos):PE X (.Call (.Attribute o "pop" apos) [e] [] cpos) (zaP td ty):=by
 intro pins s σ H Q I h
 refine gu m.base m.few m.line dN eB iM (thn (ho pins s σ H _ I h) λu s1 ⟨x,H1,I1,rx,a,ex,d,q1⟩=>?_)
 subst ex;obtain rfl:u=bL a:=rx
 obtain⟨t1,t2,_⟩:=Xc I1 d
 refine⟨t1,t2,?_⟩;rw[m.trees]
 refine de rfl (dQ (cW (thn (he pins s1 σ H1 _ I1 q1) λiv s2 ⟨y,H2,I2,ry,kvs,k,b,v,ea,ey,eb,l,q2⟩=>eS ?_)))
 subst ey
 cases (show iv=bL b from ry)
 exact zgk hu I2 ea eb l λw' s3 I3 rw'=>⟨v,_,I3,rw',q2⟩
theorem zdI(hu:X.A.units + 1 < cLine)(ho:PE X o td)(he:PE X e ty)(hf:PE X f tx)(m:M2 X o "setdefault" apos e f cpos):PE X (.Call (.Attribute o "setdefault" apos) [e,f] [] cpos) (zaQ td ty tx):=by
 intro pins s σ H Q I h
 refine gu m.base m.few m.line dN lf PySem.F.type_dict_setdefault (thn (ho pins s σ H _ I h) λu s1 ⟨x,H1,I1,rx,a,ex,d,q1⟩=>?_)
 subst ex;obtain rfl:u=bL a:=rx
 obtain⟨t1,t2,_⟩:=Xc I1 d
 refine⟨t1,t2,?_⟩;rw[m.trees]
 refine de rfl (dQ (cW (thn (he pins s1 σ H1 _ I1 q1) λiv s2 ⟨y,H2,I2,ry,q2⟩ =>
  cW (thn (hf pins s2 σ H2 _ I2 q2) λfv s3 ⟨z,H3,I3,rz,kvs,k,b,ea,ey,eb,hl,q3,q4⟩=>eS ?_))))
 subst ey
 cases (show iv=bL b from ry)
 exact zcf hu I3 ea eb rz hl (λv w' s4 hv I4 rw'=>⟨v,_,I4,rw',q3 v hv⟩) λs4 hn I4=>⟨z,_,I4,rz,q4 hn⟩
end
abbrev jo:RM:=λx vs H Q=>∃(l:ac) (xs:List V) (k:Nat) (y:V),x=.ref l/\vs=[.int k,y]/\H l=aa (.lst xs)/\k<=xs.length/\xs.length < 1000000/\Q .non (upd H l (.lst (xs.take k ++ y :: xs.drop k)))
abbrev jp:RM:=λx vs H Q=>∃(l:ac) (ns:List Int) (i:Int),x=.ref l/\vs=[.int i]/\H l=aa (.lst (ns.map V.int))/\i∈ns/\Q .non (upd H l (.lst ((ns.erase i).map V.int)))
theorem Vals.takeV:∀(k:Nat) {xs:List V} {us:List ae},Vals xs us->Vals (xs.take k) (us.take k)
 | 0,_,_,_=>by rw[ot,ot];exact .nil
 | _ + 1,_,_,.nil=>.nil
 | k + 1,_,_,.cons h r=>.cons h (Vals.takeV k r)
theorem Vals.dropV:∀(k:Nat) {xs:List V} {us:List ae},Vals xs us->Vals (xs.drop k) (us.drop k)
 | 0,_,_,h=>h
 | _ + 1,_,_,.nil=>.nil
 | k + 1,_,_,.cons _ r=>Vals.dropV k r
section
variable {X:Cx}
theorem Jj:MtM X "list.insert" jo:=by
 intro pins s σ H x vs v us Q I rx rv h
 obtain⟨l,xs,k,y,rfl,rfl,hH,hk,hz,q⟩:=h
 cases rx
 cases rv with
 | cons r1 rr =>
  obtain⟨u,rfl,ru⟩:=(show Vals [y] _ from rr).one
  obtain⟨t,rfl⟩:=r1
  obtain⟨z,its,n,r,hl,e⟩:=I.lstM hH
  have h1:(1000000:Nat) < sizeLine:=by rw[bT];decide
  obtain⟨i,hi⟩:∃i:Int,i=k:=⟨_,rfl⟩
  rw[<-hi]
  have hc:¬ (!lL i)=af:=by rw[fitsIndex_both (by lia) (by lia)];exact bG
  have hs:its.toArray.size<=sizeLine:=by rw[bK];lia
  have M:=AutoSeq1.list_insert_list_int_val_1 l its.toArray n i t u hc hs
  refine gq F.slot_list_insert ⟨_,e,rfl⟩ F.entry_list_insert (F.args_list_insert_3 _ _ _) M ⟨e,?_⟩
  refine⟨.non,_,I.lset (its':=its.take k ++ u :: its.drop k) hH e ?_ ((r.takeV k).append (.cons ru (r.dropV k))) ?_,rfl,q⟩
  ·have hk2:k<=its.length:=by lia
   subst hi
   have hn:¬ ((k:Int) < 0):=by lia
   simp[fH hk2,hn]
   rw[cp (by rw[cT];lia)]
  ·rw[bn,bR,cH,cT];lia
theorem zbu:∀ {ns:List Int} {its:List ae},Vals (ns.map V.int) its->∀(m:Nat) (v:ae),its[m]?=aa v->∃i t,ns[m]?=aa i/\v=.int i t
 | [],_,.nil,m,v,h=>by simp at h
 | i :: ns,_,.cons h r,0,v,e=>by
  simp only[bf,bu] at e
  subst e
  obtain⟨t,rfl⟩:=h
  exact⟨i,t,rfl,rfl⟩
 | i :: ns,_,.cons h r,m + 1,v,e=>by simpa using zbu r m v (by simpa using e)
def isI(k:Int):ae->Bool
 | .int a _=>a == k
 | _=>am
theorem Jk:MtM X "list.remove" jp:=by
 intro pins s σ H x vs v us Q I rx rv h
 obtain⟨l,ns,i,rfl,rfl,hH,hi,q⟩:=h
 cases rx
 obtain⟨u,rfl,ru⟩:=rv.one
 obtain⟨t,rfl⟩:=ru
 obtain⟨z,its,n,r,hl,e⟩:=I.lstM hH
 rw[bo] at hl z
 have hj:ns.idxOf i < ns.length:=List.idxOf_lt_length_iff.mpr hi
 have gt:∀m (hm:m < its.toArray.size),∃(h2:m < ns.length) (t':Tok),its.toArray[m]=.int ns[m] t':=λm hm=>by
  rw[bK] at hm
  obtain⟨i',t',h1,h2⟩:=zbu r m its[m] (bb hm)
  have h3:m < ns.length:=by lia
  rw[bb h3] at h1
  refine⟨h3,t',?_⟩
  rw[bV h1,<-h2]
  simp
 refine gq F.slot_list_remove ⟨_,e,rfl⟩ F.entry_list_remove (F.args_list_remove_2 _ _)
  (MeetsSeq.list_remove l its.toArray n (.int i t) (isI i) (λy hy=>?_) (ns.idxOf i) (by rw[bK];lia) ?_ (λm hm hlt=>?_) (by rw[bK];lia)) ⟨e,?_⟩
 ·obtain⟨m,hm,rfl⟩:=Array.mem_iff_getElem.mp hy
  obtain⟨h2,t',e2⟩:=gt m hm
  rw[e2]
  exact MeetsSeq.EqGives.int _ _ _ _
 ·obtain⟨h2,t',e2⟩:=gt (ns.idxOf i) (by rw[bK];lia)
  rw[e2]
  show (ns[ns.idxOf i] == i)=af
  rw[List.getElem_idxOf hj]
  exact beq_self_eq_true i
 ·obtain⟨h2,t',e2⟩:=gt m hm
  rw[e2]
  show (ns[m] == i)=am
  exact List.not_of_lt_findIdx (p:=λy=>y == i) (xs:=ns) (i:=m) hlt
 ·have ee:ns.erase i=ns.eraseIdx (ns.idxOf i):=List.erase_eq_eraseIdx_of_idxOf rfl
  rw[ee] at q
  refine⟨.non,_,I.lset (its':=its.eraseIdx (ns.idxOf i)) hH e ?_ (by rw[<-Xi];exact r.eraseIdx _) ?_,rfl,q⟩
  ·show its.toArray.eraseIdxIfInBounds _=_
   rw[iy]
  ·rw[bo]
   have:=V0 ns (ns.idxOf i)
   lia
end
def zgl(H:Hp)(y:V)(kv:List Key × V):Prop:=∃p,y=.ref p/\H p=aa (.tup (kv.1.map kV))
abbrev zdJ:RC:=λvs H Q=>∃a kvs,vs=[.ref a]/\H a=aa (.dT kvs)/\∀l ys,H l=ah->Paired (zgl H) ys kvs->Q (.ref l) (upd H l (.lst ys))
section
variable {X:Cx}
theorem XO{H:Hp}{es:Array DictEntry}:∀(kvs:List (List Key × V)) (vs:List ae) (j:Nat),vs.length=kvs.length->(∀i v,vs[i]?=aa v->∃e,es[j + i]?=aa e/\v=e.key) ->
  (∀(i:Nat) (en:DictEntry) (kv:List Key × V),es[j + i]?=aa en->kvs[i]?=aa kv->∃p,en.key=.ref p/\H p=aa (.tup (kv.1.map kV)))->∃ys,Vals ys vs/\Paired (zgl H) ys kvs
 | [],[],_,_,_,_=>⟨[],.nil,.nil⟩
 | [],v :: vs,_,hl,_,_=>by simp at hl
 | kv :: kvs,[],_,hl,_,_=>by simp at hl
 | kv :: kvs,v :: vs,j,hl,h1,h2=>by
  obtain⟨e,he,rfl⟩:=h1 0 v rfl
  obtain⟨p,hp,hH⟩:=h2 0 e kv he rfl
  obtain⟨ys,r1,r2⟩:=XO (es:=es) kvs vs (j + 1) (by simpa using hl) (λi u hu=>by rw[oU,Nat.add_comm 1 i];exact h1 (i + 1) u (by simpa using hu)) (λi en kv' he' hk=>h2 (i + 1) en kv' (by rw[<-oU,oV];exact he') (by simpa using hk))
  exact⟨.ref p :: ys,.cons hp r1,.cons ⟨p,rfl,hH⟩ r2⟩
theorem W0(hc:X.calm=af):jQ X (.type "list") zdJ:=by
 intro pins s σ H vs us Q I r0 h
 obtain⟨a,kvs,rfl,ha,q⟩:=h
 obtain⟨u,rfl,ru⟩:=qu r0
 cases ru
 have hh:X.A.handled=ah:=I.ok.hd hc
 obtain⟨z,lo,_⟩:=KL I.hok ha
 obtain⟨es,ep,rd,hes,hen⟩:=zdt I ha
 refine W.kdl_call (JR (ep:=ep) (es:=es) lo) hh rd (by rw[hes];exact z) λh' tk acc c hk hD hi=>?_
 obtain⟨ys,r1,r2⟩:=XO (H:=H) (es:=es) kvs acc.toList 0 (by rw[cr,hi.1,hes]) (λi v hv=>by
   rw[nU]
   obtain⟨e,h1,h2⟩:=hi.2 i v (by rw[<-cQ];exact hv)
   exact⟨e,h1,h2⟩) (λi en kv he hk=>by
   rw[nU] at he
   obtain⟨p,g1,g2,_⟩:=hen i en kv he hk
   exact⟨p,g1,g2⟩)
 have I2:Inv X pins σ (upd H s.heap.objs.size (.lst ys)) { s with heap:=h',toks:=tk }:=I.laid (a:=s.heap.objs.size) (o:=.lst ys) (t':=tk) hk (bh _)
  ⟨by have:=bF r2;lia,acc.toList,c,r1,by rw[Array.toArray_toList];exact hD⟩
 exact⟨.ref s.heap.objs.size,_,I2,rfl,q _ ys (I.hok.fresh (bh _)) r2⟩
end
structure FunD(K:bx)(x qual:Str)(st:ay)(f:ac)(fd:FuncData):Prop where
 ex:∃(oc:ae) (od:Option ac) (dV kV doc pm:ae) (an:Option ac) (cdv ct:ae) (osl:Array (Option ae)),fd=iI x qual (yU st) (yo st) (zj st) dV kV doc pm an cdv ct/\K.lookup f=aa ⟨oc,od,.func fd,osl⟩/\gR K cdv qual=af
 kp:eI K (.ref f)=af
section
variable {P:au}{w:aw}{K:bx}{mg:Str->Option ae}{base:av}{x qual:Str}{st:ay}{f:ac}{fd:FuncData}{N ps:List Str}{k:Nat}{sp:Sp}
theorem FunD.ok1(F:FunD K x qual st f fd)(S:FnScope N ps (zj st))(len:∀vs H Q E,sp vs H Q E->vs.length=ps.length)
  (hbody:∀(cdv:ae) (A:ax) (outer:List Env) (s:ag) (H:Hp) (vs:List V) (Q:VK) (E:XK),Room k (A.deeper (envOfC qual (zj st) s.heap.objs.size f cdv))->sp vs H Q E->∃t,PSs (qm (CX1 P w) P w K mg base N qual (zj st) f cdv A outer s H E) (yo st) t/\t { nx:=λ_ H'=>Q .non H',rt:=Q } (start N vs) H):FnOk P w K mg base (CX1 P w) (k + 1) f fd ps sp:=by
 obtain⟨oc,od,dV,kV,doc,pm,an,cdv,ct,osl,rfl,lk,hcd⟩:=F.ex
 exact zfA lk hcd S len λA outer s H vs Q E hr hsp=>hbody cdv A outer s H vs Q E hr hsp
theorem FunD.ok0(F:FunD K x qual st f fd)(S:FnScope N ps (zj st))(len:∀vs H Q E,sp vs H Q E->vs.length=ps.length)
  (hbody:∀(cdv:ae) (A:ax) (outer:List Env) (s:ag) (H:Hp) (vs:List V) (Q:VK) (E:XK),Room k (A.deeper (envOfC qual (zj st) s.heap.objs.size f cdv))->sp vs H Q E->∃t,PSs (qm (CX1 P w) P w K mg base N qual (zj st) f cdv A outer s H E).nox (yo st) t/\t { nx:=λ_ H'=>Q .non H',rt:=Q } (start N vs) H):FnOk P w K mg base (CX1 P w) (k + 1) f fd ps sp :=
 F.ok1 S len λcdv A outer s H vs Q E hr h=>let ⟨t,a,b⟩:=hbody cdv A outer s H vs Q E hr h;⟨t,a.nox,b⟩
theorem zbv{od an:Option ac}{osl:Array (Option ae)}{dV kV doc pm cdv ct:ae}(l:K.lookup f=aa ⟨oc,od,.func (iI x qual (yU st) (yo st) (zj st) dV kV doc pm an cdv ct),osl⟩)
  (c:gR K cdv qual=af) (k:eI K (.ref f)=af):FunD K x qual st f (iI x qual (yU st) (yo st) (zj st) dV kV doc pm an cdv ct):=⟨⟨oc,od,dV,kV,doc,pm,an,cdv,ct,osl,rfl,l,c⟩,k⟩
end
section
variable {X:Cx}{o value:aA}{f:Str}{pos pos':Pos}{ta:TE}{tx:EXK->TE}
def zdK(K:bx)(ta:TE)(tx:EXK->TE)(f:Str)(EX:EXK):TS:=xK K ta (tx EX) f
theorem ze5(ha:PE X.nox o ta)(hv:PEX X value tx)(hs:swapsWith value (aa (.Attribute o f pos')) pos.line X.env=pure am):PSX X (.Assign [.Attribute o f pos'] value pos) (zdK X.K ta tx f):=by
 intro pins s σ H D EX I h
 refine ir (thn (hv pins s σ H _ EX I h) λu s1 ⟨y,H1,I1,ry,q⟩=>dG (ha pins s1 σ H1 _ (I1.wish _) q) (λov s2 ⟨x,H2,I2',rx,a,C,dx,fs,ex,ea,c,n,l,q2⟩=>?_) λ_ _ z=>c9 z) hs
 subst ex
 obtain rfl:ov=bL a:=rx
 exact WA I2'.unwish ea c n l ry λs3 I3=>⟨σ,_,I3,q2⟩
end
def zfI(K:bx)(tb:EXK->TS)(C1 C2:ac)(th:TS):TS:=λD σ H=>tb (λcls σ1 H1=>∃C,cls=.ref C/\pT K (.ref C) [.ref C1,.ref C2]=aa af/\th D σ1 H1) D σ H
theorem zdL(x:Heap.FlyingW base l e cls a0 h)(o:Obj):Heap.FlyingW base l e cls a0 (h.push o):=by
 obtain⟨f1,f2,f3,oe,vs,T,oT,ts,a1,a2,a3,a4,a5,a6,a7,a8,a9⟩:=x
 exact⟨λb u q=>bd _ (f1 b u q),f2,f3.of_keeps (λb u q _=>⟨u,bd _ q,rfl⟩),oe,vs,T,oT,ts,bd _ a1,a2,a3,a4,a5,a6,bd _ a7,a8,a9⟩
section
variable {X:Cx}{st b₀:ay}{suite:List ay}{tb:EXK->TS}{th:TS}{c1 c2:Str}{C1 C2:ac}{np np2 hpos tpos pos:Pos}{x1:Nat}
theorem ze6(hst:X.stack=X.env :: X.outer/\X.env.frame=aa X.env.locals)(hex:X.ex=[])(hb:PSX X st tb)(hg1:Gl X c1)(hm1:X.mg c1=aa (.ref C1))(hg2:Gl X c2)(hm2:X.mg c2=aa (.ref C2))
  (hs:∀e,PSs (X.sub e) (b₀ :: suite) th) (hdb1:(c1 == ("__debug__":Str))=am:=by lia) (hdb2:(c2 == ("__debug__":Str))=am:=by lia) :
  PS X (.Try [st] [.ExceptHandler (aa (.Tuple [.Name c1 np,.Name c2 np2] x1 tpos)) ah (b₀ :: suite) hpos] [] [] pos) (zfI X.K tb C1 C2 th):=by
 intro pins s σ H D I h
 refine wpAny_Try_except (iU (dG (hb pins s σ H D _ I h) (λf s1 q=>?_) λev s1 q=>?_))
 ·cases f with
  | next=>exact eX (eX q)
  | ret v=>exact q
  | brk=>exact q
  | cont=>exact q
 obtain⟨e,cls,σ1,s0,H0,H1,rfl,I0,I1,xf,C,rfl,hx,hth⟩:=q
 obtain⟨oe,vs,a0,T,oT,ts,h1,h2,h3,h4,h5,h6,h7,h8,h9,h10,h11,h12⟩:=xf
 have fr:s1.heap.FunFrames (gC s1.heap (frs X.stack ++ [e,T])) (X.env :: X.outer):=by
  have q:=iW (as:=frs X.stack ++ [e,T]) I1.stack λenv he a ha=>dP _ (fT.mpr ⟨env,he,ha⟩)
  rw[hst.1] at q ⊢
  exact q
 have two:∀b∈[e,T],s0.heap.get? b=ah/\H1 b=ah:=λb z=>by
  have z':b=e\/b=T:=by simpa using z
  rcases z' with rfl | rfl
  ·exact⟨h9,h11⟩
  ·exact⟨h10,h12⟩
 have hcs:∀b∈[e,T],H1 b=ah/\X.s₀.heap.get? b=ah:=λb z=>⟨(two b z).2,jU (I0.there0 hex) (two b z).1⟩
 have hcp:∀b∈[e,T],∀p∈X.pn ++ pins,p.1≠b:=λb z p hp q=>by
  have:=(I0.pin p hp).1
  rw[q,(two b z).1] at this;cases this
 refine wpAny_looks_onW (base:=gC s1.heap (frs X.stack ++ [e,T])) (a0:=a0) (cls:=.ref C) (by rw[I1.ok.frames,hst.1]) hst.2
  ⟨λb o q=>lQ _ q,fR _ (b6 _ (by simp)),fr,oe,vs,T,oT,ts,h1,h2,h3,h4,fR _ (b6 _ (by simp)),h5,h6,h7,h8⟩ λg4 held4 sm4=>?_
 refine wpAny_landsW held4 λg5 fly5 sm5=>?_
 have hB:∀ {g:av},(gC s1.heap (frs X.stack ++ [e,T])).StaysIn g->∀b o,s1.heap.get? b=aa o->b ∉ frs X.stack->b ∉ [e,T]->g.get? b=aa o :=
  λ{g} k b o q n1 n2=>k b o (i7 _ q λz=>(bJ.mp z).elim n1 n2)
 have I5:Inv X pins σ1 H1 { s1 with heap:=g5 }:=I1.land hex hcs hcp (hB fly5.1) (sm4.trans sm5)
 refine lH (iO ?_) (by intro q;cases q)
 refine wpAny_Tuple_spliced (cW (vz (X:=X.sub e) (I5.toSub (e:=e)) hg1 hm1 (cW (vz (X:=X.sub e) (I5.toSub (e:=e)) hg2 hm2 (eS ⟨(by show 2<=sizeLine;decide),?_⟩) hdb2)) hdb1))
 have fly6:=zdL fly5 { cls:=.type "tuple",data:=.seq [bL C1,bL C2].toArray }
 have kp:∀b o,g5.get? b=aa o->(g5.push { cls:=.type "tuple",data:=.seq [bL C1,bL C2].toArray }).get? b=aa o:=λb o q=>bd _ q
 have hp:(g5.push { cls:=.type "tuple",data:=.seq [bL C1,bL C2].toArray }).get? g5.objs.size=aa { cls:=.type "tuple",data:=.seq [bL C1,bL C2].toArray }:=bB _ rfl
 have K6:X.K.In (g5.push { cls:=.type "tuple",data:=.seq [bL C1,bL C2].toArray }):=(I5.kept (t':=s1.toks) kp).kIn
 have ty6:ro (model X.prog X.w) (g5.push { cls:=.type "tuple",data:=.seq [bL C1,bL C2].toArray }) (typeOf (.ref e)) (.ref C):=by
  obtain⟨o,p1,p2⟩:=fly6.there
  exact p2 ▸ (pD p1).andThen .now
 refine(W.exm_tup2 K6 ty6 hp hx).here ?_
 refine m8 (lands_againW fly6 λg7 fly7 sm7=>?_)
 have I7:Inv X pins σ1 H1 { s1 with heap:=g7 }:=I1.land hex hcs hcp (hB fly7.1) (((sm4.trans sm5).trans (Heap.UpToSlots.of_keeps kp)).trans sm7)
 refine dG (hs e pins _ σ1 H1 D I7.toSub hth) (λf s9 q=>?_) λ_ _ z=>c9 z
 cases f with
 | next=>obtain⟨σ9,H9,J,z⟩:=q;exact⟨σ9,H9,Inv.ofSub (J:=I) J,z⟩
 | brk=>obtain⟨σ9,H9,J,z⟩:=q;exact⟨σ9,H9,Inv.ofSub (J:=I) J,z⟩
 | cont=>obtain⟨σ9,H9,J,z⟩:=q;exact⟨σ9,H9,Inv.ofSub (J:=I) J,z⟩
 | ret u=>obtain⟨v,σ9,H9,J,r,z⟩:=q;exact⟨v,σ9,H9,Inv.ofSub (J:=I) J,r,z⟩
end
section
variable {X:Cx}{CX:CXT}{k:Nat}{f C:ac}{fd:FuncData}{ps:List Str}{sp:Sp}{dvs:List V}{E:XK}{m:Str}{pos apos:Pos}{o:aA}{ta:TE}
theorem Jl{pl:Sem Bool}(he:PE X o ta)(c:Cls X.K C)(hm:zan X.K C m f)(F:FnOk X.prog X.w X.K X.mg X.base CX k f fd ps sp)(hr:Room k X.A)(hb:∃ds,Vals dvs ds/\Binds X.K fd ps ds)(hx:vO CX X E)
  (ht:eval (.Call (.Attribute o m apos) [] [] pos) X.env=(do
   let ov <-eval o X.env
   standAt apos.atName
   let (f,first) <-holding [ov] (getMethod ov m pl)
   callWith pos f first (backTo pos (starEach [] X.env)) (backToKw pos (keywordEach [] X.env))):=by rfl) :
  PE X (.Call (.Attribute o m apos) [] [] pos) (zO C m sp dvs E ta zi):=by
 obtain⟨ds,hd,hb⟩:=hb
 exact yz he c hm F hr hb hd hx ht
end
structure MkO(K:bx)(C:ac):Prop where
 makes:iH K C=af
 init:cm K (.ref C) "__init__"=aa (aa (.builtin "object.__init__"))
 kp:eI K (.ref C)=af
def zaR(C:ac):TE:=λ_ H Q=>∀x dx,H x=ah->H dx=ah->dx≠x->Q (.ref x) (upd (upd H dx (.own x)) x (.ins C dx []))
section
variable {X:Cx}{C:ac}{x:Str}{p pos:Pos}
theorem zcg{σ:St}{H:Hp}{s:ag}{Q:VK}(M:MkO X.K C)(I:Inv X pins σ H s)(h:∀x dx,H x=ah->H dx=ah->dx≠x->Q (.ref x) (upd (upd H dx (.own x)) x (.ins C dx []))) :
  wpAny (model X.prog X.w) X.A (call (.ref C) []) (EP X pins σ Q) X.xe s:=by
 have hq:=h (s.heap.objs.size + 1) s.heap.objs.size (I.hok.fresh (pX _)) (I.hok.fresh (bh _)) (bU (mU _))
 have I2:=Inv.made (C:=C) I
 refine oZ (zbQ I.kIn M.makes M.init (λself=>W.Looks.of_pure (W.oi_bind self)) ?_)
 have Y:=W.makes_of (M:=model X.prog X.w) I.kIn M.makes
 have g1:ro (model X.prog X.w) ((s.heap.push dX).push (fP C s.heap.objs.size)) (typeOf (.ref (s.heap.objs.size + 1))) (.ref C):=by
  have:=bB (s.heap.push dX) (o:=fP C s.heap.objs.size) rfl
  rw[eR] at this
  exact(pD this).andThen .now
 have g2:ro (model X.prog X.w) ((s.heap.push dX).push (fP C s.heap.objs.size)) (isInstance (.ref (s.heap.objs.size + 1)) (.type "object")) af:=g1.andThen (Y.top.keeps λb o e=>bd (fP C s.heap.objs.size) (bd dX e))
 refine codeAny_call_builtin W.oi_plain W.entry_oi (W.check_slot (rest:=[]) (kw:=[]) W.oi_kind W.oi_split g2 (W.oi_args _) ?_)
 rw[W.oi_run]
 exact bg ⟨rfl,V.ref (s.heap.objs.size + 1),_,I2,rfl,hq⟩
theorem Qm(M:MkO X.K C)(hg:Gl X x)(hm:X.mg x=aa (.ref C))(hdb:(x == ("__debug__":Str))=am:=by lia):PE X (.Call (.Name x p) [] [] pos) (zaR C):=by
 intro pins s σ H Q I h
 refine fU (vz I hg hm ?_ hdb)
 exact W.callWith_K0 I.kIn M.kp (zcg M I h)
end
section
variable {X:Cx}{CX:CXT}{k:Nat}{f C:ac}{fd:FuncData}{ps:List Str}{sp:Sp}{dvs:List V}{E:XK}{x:Str}{p pos:Pos}{e:aA}{es:List aA}{t:TA}
theorem zdM(M:Mk X.K C f)(F:FnOk X.prog X.w X.K X.mg X.base CX k f fd ps sp)(hr:Room (k + 1) X.A)(hg:Gl X x)(hm:X.mg x=aa (.ref C))(hb:∃ds,Vals dvs ds/\Binds X.K fd ps ds)(hx:vO CX X E)
  (ha:PA X (e :: es) t) (hdb:(x == ("__debug__":Str))=am:=by lia) (he:starEach (e :: es) X.env=(am,eval e X.env) :: starEach es X.env:=by rfl) (hpl:(backTo pos (starEach es X.env)).any (·.1)=am:=by rfl) :
  PE X (.Call (.Name x p) (e :: es) [] pos) (XI C sp dvs E t):=by
 obtain⟨ds,hd,hb⟩:=hb
 exact Zq M F hr hg hm hb hd hx ha hdb he hpl
end
end L2
namespace HT
open PySem PySem.Spec PyProof.Rows
end HT
namespace L2
open PySem PySem.Spec PyProof.Rows
end L2
namespace L2
open PySem
end L2
namespace L2
open PySem PySem.Spec PyProof.Rows
end L2
namespace L2
open PySem PySem.Spec PySem.W PyProof.Rows
end L2
namespace L2
open PySem PySem.Spec PySem.W PyProof.Rows PySem.Calls
end L2
namespace L2
open PySem PySem.Spec PyProof.Rows
structure FG(K:bx)(mg:Str->Option ae)(x:Str)(st:ay)(ps:List Str)(a:ac)(d:FuncData):Prop where
 f:Fun K x x st a d
 b:Binds K d ps []
 m:mg x=aa (.ref a)
structure FM(K:bx)(C:ac)(x qual:Str)(st:ay)(ps:List Str)(a:ac)(d:FuncData):Prop where
 f:Fun K x qual st a d
 b:Binds K d ps []
 me:zan K C x a
abbrev QF(K:bx)(x qual:Str)(st:ay)(a:ac):Prop:=∃oc od sl kV dc pm an cd ct,K.lookup a=aa ⟨oc,od,.func (iI x qual (yU st) (yo st) (zj st) .none kV dc pm an cd ct),sl⟩/\gR K cd qual=af/\eI K (.ref a)=af
abbrev QG(K:bx)(x:Str)(st:ay):Prop:=∃a,gI K mainGlobals x=aa (aa (.ref a))/\QF K x x st a
abbrev QM(K:bx)(C:ac)(x qual:Str)(st:ay):Prop:=∃a,cm K (.ref C) x=aa (aa (.ref a))/\pG K (.ref a)=af/\QF K x qual st a
section
variable {K:bx}{h:av}{mg:Str->Option ae}{x qual:Str}{st:ay}{a C:ac}{ps:List Str}
theorem QF.to(q:QF K x qual st a)(hb:∀(kV doc pm:ae) (an:Option ac) (cdv ct:ae) (us:List ae),us.length=ps.length->bindArgs (iI x qual (yU st) (yo st) (zj st) .none kV doc pm an cdv ct) ⟨us,[]⟩=pure (ps.zip us)):∃d,Fun K x qual st a d/\Binds K d ps []/\eI K (.ref a)=af:=by
 obtain⟨oc,od,sl,kV,dc,pm,an,cd,ct,h1,h2,h3⟩:=q
 have F:=WG (st:=st) h1 h2 h3
 exact⟨_,F,F.binds hb,h3⟩
abbrev bA(x qual:Str)(st:ay)(us:List ae)(bs:List (Str × ae)):Prop:=∀(kV doc pm:ae) (an:Option ac) (cdv ct:ae),bindArgs (iI x qual (yU st) (yo st) (zj st) .none kV doc pm an cdv ct) ⟨us,[]⟩=pure bs
theorem QG.to(X:K.In h)(G:h.Ns mainGlobals mg)(q:QG K x st)(hb:∀us:List ae,us.length=ps.length->bA x x st us (ps.zip us)):∃a d,FG K mg x st ps a d:=by
 obtain⟨a,n,q⟩:=q
 obtain⟨d,F,B,_⟩:=QF.to q λ_ _ _ _ _ _ us hl=>hb us hl _ _ _ _ _ _
 exact⟨a,d,F,B,mR X G n⟩
theorem QM.to(q:QM K C x qual st)(hb:∀us:List ae,us.length=ps.length->bA x qual st us (ps.zip us)):∃a d,FM K C x qual st ps a d:=by
 obtain⟨a,n,i,q⟩:=q
 obtain⟨d,F,B,k⟩:=QF.to q λ_ _ _ _ _ _ us hl=>hb us hl _ _ _ _ _ _
 exact⟨a,d,F,B,n,i,k⟩
theorem ar1{P:List ae->Prop}(h:∀a,P [a]):∀us,us.length=1->P us
 | [a],_=>h a
theorem ar2{P:List ae->Prop}(h:∀a b,P [a,b]):∀us,us.length=2->P us
 | [a,b],_=>h a b
theorem ar3{P:List ae->Prop}(h:∀a b c,P [a,b,c]):∀us,us.length=3->P us
 | [a,b,c],_=>h a b c
variable (X:K.In h)(G:h.Ns mainGlobals mg)(u v w y z:Str)
include X G in
theorem QG.a1(q:QG K x st)(hb:∀a,bA x x st [a] [(u,a)]:=by exact λ_ _ _ _ _ _ _=>rfl):∃a d,FG K mg x st [u] a d:=QG.to X G q (ar1 hb)
include X G in
theorem QG.a2(q:QG K x st)(hb:∀a b,bA x x st [a,b] [(u,a),(v,b)]:=by exact λ_ _ _ _ _ _ _ _=>rfl):∃a d,FG K mg x st [u,v] a d:=QG.to X G q (ar2 hb)
include X G in
theorem QG.a3(q:QG K x st)(hb:∀a b c,bA x x st [a,b,c] [(u,a),(v,b),(w,c)]:=by exact λ_ _ _ _ _ _ _ _ _=>rfl):∃a d,FG K mg x st [u,v,w] a d:=QG.to X G q (ar3 hb)
theorem QM.a1(q:QM K C x qual st)(hb:∀a,bA x qual st [a] [(u,a)]:=by exact λ_ _ _ _ _ _ _=>rfl):∃a d,FM K C x qual st [u] a d:=QM.to q (ar1 hb)
theorem QM.a2(q:QM K C x qual st)(hb:∀a b,bA x qual st [a,b] [(u,a),(v,b)]:=by exact λ_ _ _ _ _ _ _ _=>rfl):∃a d,FM K C x qual st [u,v] a d:=QM.to q (ar2 hb)
theorem QM.a3(q:QM K C x qual st)(hb:∀a b c,bA x qual st [a,b,c] [(u,a),(v,b),(w,c)]:=by exact λ_ _ _ _ _ _ _ _ _=>rfl):∃a d,FM K C x qual st [u,v,w] a d:=QM.to q (ar3 hb)
end
abbrev QX(K:bx)(a:ac):Prop:=∃cl,cm K (.ref a) "__getattribute__"=aa (aa (.builtin "BaseException.__getattribute__"))/\cm K (.ref a) "__getattr__"=aa ah/\cm K (.ref a) "__class__"=aa (aa (.builtin "object.__class__"))/\rq K a (.type "object")=aa af/\rq K a (.type "BaseException")=aa af/\pW K (.builtin "object.__class__") "__get__"=aa (aa (.builtin "getset_descriptor.__get__"))/\W.takesIn K (.builtin "object.__class__")=aa af/\W.clsIn K a=aa cl
theorem QX.to{K:bx}(q:QX K a):ExK K a:=by
 obtain⟨cl,h1,h2,h3,h4,h5,h6,h7,h8⟩:=q
 exact⟨⟨h1,h2,h3,h4,h5,h6,h7⟩,by rw[h8];rfl⟩
section
variable {X:Cx}{CX:CXT}{j k:Nat}{a C:ac}{d:FuncData}{ps:List Str}{sp:Sp}{x m qual:Str}{st:ay}{p pos apos:Pos}{o e:aA}{es:List aA}{ta:TE}{t:TA}{E:XK}
theorem pcG(F:FnOk X.prog X.w X.K X.mg X.base CX j a d ps sp)(G:FG X.K X.mg x st ps a d)(hr:Room k X.A)(hx:vO CX X E)(ha:PA X (e :: es) t)(hj:j<=k:=by lia)(hg:Gl X x:=by exact rfl)(hdb:(x == ("__debug__":Str))=am:=by lia)(he:starEach (e :: es) X.env=(am,eval e X.env) :: starEach es X.env:=by rfl)(hpl:(backTo pos (starEach es X.env)).any (·.1)=am:=by rfl) :
  PE X (.Call (.Name x p) (e :: es) [] pos) (zL sp [] E t):=Yw (F.mono hj) hr hg G.m G.f.kp G.b .nil hx ha hdb he hpl
end
theorem FnScope.m{N P:List Str}{sc:aB}(h1:sc.kind=.function:=by rfl)(h2:sc.isCoroutine=am:=by rfl)(h3:sc.isGenerator=am:=by rfl)(h4:N.Nodup:=by lia)(h5:N.take P.length=P:=by rfl)(h6:∀x∈P,sc.names.lookup x=aa .local\/sc.names.lookup x=aa .cell:=by lia)(h7:∀y∈sc.names,y.2≠.free:=by lia):FnScope N P sc:=⟨h1,h2,h3,h4,h5,h6,h7⟩
section
variable {P:au}{w:aw}{K:bx}{mg:Str->Option ae}{base:av}{x qual:Str}{st:ay}{f:ac}{fd:FuncData}{N ps:List Str}{k:Nat}{sp:Sp}
theorem Fun.okA(F:Fun K x qual st f fd)(S:FnScope N ps (zj st))(h:∀vs H Q E,sp vs H Q E->vs.length=ps.length/\∀(cdv:ae) (A:ax) (outer:List Env) (s:ag),Room k (A.deeper (envOfC qual (zj st) s.heap.objs.size f cdv)) ->
   ∃t,PSs (qm (CX1 P w) P w K mg base N qual (zj st) f cdv A outer s H E).nox (yo st) t/\t { nx:=λ_ H'=>Q .non H',rt:=Q } (start N vs) H):FnOk P w K mg base (CX1 P w) (k + 1) f fd ps sp:=F.ok0 S (λvs H Q E z=>(h vs H Q E z).1) λcdv A outer s H vs Q E hr z=>(h vs H Q E z).2 cdv A outer s hr
theorem Fun.okB(F:Fun K x qual st f fd)(S:FnScope N ps (zj st))(h:∀vs H Q E,sp vs H Q E->vs.length=ps.length/\∀(cdv:ae) (A:ax) (outer:List Env) (s:ag),Room k (A.deeper (envOfC qual (zj st) s.heap.objs.size f cdv)) ->
   ∃t,PSs (qm (CX1 P w) P w K mg base N qual (zj st) f cdv A outer s H E) (yo st) t/\t { nx:=λ_ H'=>Q .non H',rt:=Q } (start N vs) H):FnOk P w K mg base (CX1 P w) (k + 1) f fd ps sp:=F.ok1 S (λvs H Q E z=>(h vs H Q E z).1) λcdv A outer s H vs Q E hr z=>(h vs H Q E z).2 cdv A outer s hr
end
section
variable {K:bx}{σ:St}{H:Hp}{Q:VK}{i:Nat}{k:Int}{p a C dx:ac}{xs:List V}{u v:V}{x w f:Str}{fs:List (Str × V)}{te:TE}{A B:TS}{D:Wt}
theorem W1(h0:σ[i]?=aa (aa (.ref p)))(h1:H p=aa (.tup xs))(h2:atI xs k=aa u)(q:Q u H):tOp (yS K) (zb i) (tC (.int k)) σ H Q:=⟨_,h0,p,xs,k,u,rfl,rfl,SqT.of h1,h2,q⟩
theorem qF(h0:σ[i]?=aa (aa (.ref a)))(h1:H a=aa (.ins C dx fs))(c:Cls K C)(n:NoAttr K C f)(l:fs.lookup f=aa v)(q:Q v H):zN K (zb i) f σ H Q:=⟨_,h0,a,C,dx,fs,v,rfl,h1,c,n,l,q⟩
theorem zgZ(h:∀Q:VK,Q (.str x) H->te σ H Q)(a:x=w->A D σ H)(b:x≠w->B D σ H):zQ (zB (tOp rEq te (tC (.str w)))) A B D σ H:=by
 refine h _ ⟨rfl,_,rfl,?_⟩
 by_cases c:x=w
 ·show if _ then _ else _
  rw[ao (by rw[c];exact decide_eq_true rfl)];exact a c
 ·show if _ then _ else _
  rw[ak (by rw[decide_eq_true_eq];exact λz=>c (V.str.inj z))];exact b c
theorem kC(h0:σ[i]?=aa (aa (.ref p)))(h1:H p=aa (.tup xs))(h2:atI xs k=aa (.str x))(a:x=w->A D σ H)(b:x≠w->B D σ H):zQ (zB (tOp rEq (tOp (yS K) (zb i) (tC (.int k))) (tC (.str w)))) A B D σ H:=zgZ (λQ q=>W1 h0 h1 h2 q) a b
theorem zdN(h0:σ[i]?=aa (aa (.ref l)))(h1:H l=aa (.lst xs))(q:Q (.int xs.length) H):tCB (xZ K) (zc (zb i) zi) σ H Q:=by
 refine⟨_,h0,.ref l,xs.length,rfl,?_,q⟩
 simp only[KC]
 exact .inl ⟨_,SqL.of h1,rfl⟩
theorem zg0{n:Int}{P R:Prop}(a:n≠0->P)(b:n=0->R):if (!decide (V.int n=V.int 0))=af then P else R:=by
 by_cases c:n=0
 ·rw[ak (by rw[c];decide)];exact b c
 ·rw[ao (by rw[decide_eq_false (λz=>c (V.int.inj z))];rfl)];exact a c
theorem zg1{n:Int}{P R:Prop}(a:n=0->P)(b:n≠0->R):if decide (V.int n=V.int 0)=af then P else R:=by
 by_cases c:n=0
 ·rw[ao (by rw[c];decide)];exact a c
 ·rw[ak (by rw[decide_eq_false (λz=>c (V.int.inj z))];decide)];exact b c
end
end L2
namespace L2
open PySem PySem.Spec PySem.W PyProof.Rows
abbrev zfJ:RC:=λxs H Q=>∃(a:ac) (kvs:List (Key × V)) (rs:List Int),xs=[.ref a]/\H a=aa (.dK kvs)/\kvs.map (·.1)=rs.map iT/\kvs.length < 64 /\
 ∀(l:ac) (srt:List Int),H l=ah->srt.Perm rs->srt.Pairwise (· < ·)->Q (.ref l) (upd H l (.lst (srt.map V.int)))
theorem zch{qs:List Int}(hn:qs.Nodup):SO (λi j=>decide (qs.getD i 0 < qs.getD j 0)) qs.length where
 irr:=λi _=>decide_eq_false (by lia)
 trans:=λi j k _ _ _ h1 h2=>by
  have h1:=of_decide_eq_true h1
  have h2:=of_decide_eq_true h2
  exact decide_eq_true (by lia)
 tot:=λi j hi hj hij h=>by
  have ne:qs.getD i 0≠qs.getD j 0:=λz=>hij (by
   rw[bC,bC,bb hi,bb hj] at z
   exact(gJ hn).mp z)
  have h:=of_decide_eq_false h
  exact decide_eq_true (by lia)
theorem Jm:∀(rs:List Int) (ks:List ae),ks.length=rs.length->(∀(i:Nat) (n:Int),rs[i]?=aa n->∃t,ks[i]?=aa (.int n t))->Vals (rs.map V.int) ks
 | [],[],_,_=>.nil
 | n :: rs,k :: ks,hl,h=>by
  obtain⟨t,e⟩:=h 0 n rfl
  have e:k=.int n t:=by simpa using e
  rw[bM,e]
  exact .cons ⟨t,rfl⟩ (Jm rs ks (by simpa using hl) λi n hi=>by simpa using h (i + 1) n (by simpa using hi))
 | [],_ :: _,h,_=>by simp at h
 | _ :: _,[],h,_=>by simp at h
section
variable {X:Cx}
theorem J1(hc:X.calm=af):jQ X (.builtin "sorted") zfJ:=by
 intro pins s σ H xs us Q I r h
 obtain⟨a,kvs,rs,rfl,ha,hk,h64,q⟩:=h
 obtain⟨u,rfl,ru⟩:=qu r
 cases ru
 obtain⟨hz,lo,vs,kv,o,es,ep,ho,hx,hd,hk',pr,hn⟩:=(show ObjOk X.prog X.w H s.heap a (.dK kvs) from I.hok a _ ha)
 have hh:X.A.handled=ah:=I.ok.hd hc
 have lk:kvs.length=rs.length:=by have:=congrArg b8 hk;simpa using this
 have lx:kvs.length=vs.length:=bF kv
 have ls:=pr.length
 rw[cr] at ls
 have kr:∀(i:Nat) (h:i < kvs.length) (h2:i < rs.length),kvs[i].1=iT rs[i]:=λi h h2=>by
  have e1:(kvs.map (·.1))[i]?=aa kvs[i].1:=by rw[bw,bb h];rfl
  rw[hk,bw,bb h2] at e1
  exact(bV e1).symm
 have key:∀(i:Nat) (e:DictEntry),es[i]?=aa e->∃n t,rs[i]?=aa n/\e.key=fV n t:=λi e hi=>by
  obtain⟨k,u,h1,h2⟩:=Jh pr (by rw[cQ];exact hi)
  have hl:=(bq.mp h1).1
  have hk2:kvs[i]?=aa kvs[i]:=bb (by lia)
  have rl:=yv kv hk2 h1
  have hr:rs[i]?=aa rs[i]:=bb (by lia)
  have e1:=kr i (by lia) (by lia)
  have e2:k=iT rs[i]:=by rw[<-e1];exact rl.1.symm
  rcases yE h2 with ⟨j,t,ej,et⟩ | ⟨x,t,ej,et⟩
  ·rw[e2] at ej
   cases ej
   exact⟨_,t,hr,et⟩
  ·rw[e2] at ej
   cases ej
 have nr:rs.Nodup:=by
  refine xL (f:=(iT:Int->Key)) ?_
  have e:vs.map (·.1)=rs.map iT:=by
   rw[<-hk]
   apply eV
   intro i
   rw[bw,bw]
   cases hx:vs[i]? with
   | none =>
    have:vs.length<=i:=by simpa using hx
    rw[cG (by lia:kvs.length<=i)]
    rfl
   | some x =>
    have hi:=(bq.mp hx).1
    have hkv:kvs[i]?=aa kvs[i]:=bb (by lia)
    rw[hkv]
    have:=(yv kv hkv hx).1
    simp[this]
  rw[<-e];exact hn
 have klen:(es.toList.map (·.key)).length=rs.length:=by rw[bo,cr];lia
 have kat:∀(i:Nat) (n:Int),rs[i]?=aa n->∃t,(es.toList.map (·.key))[i]?=aa (.int n t):=λi n hi=>by
  have hl:=(bq.mp hi).1
  have he:es[i]?=aa es[i]:=cF (by lia)
  obtain⟨n',t,h1,h2⟩:=key i _ he
  rw[hi] at h1
  cases h1
  refine⟨t,?_⟩
  rw[bw,cQ,he,<-h2]
  rfl
 have rv:=Jm rs _ klen kat
 have getI:∀i,i < rs.length->∃t,(es.toList.map (·.key)).getD i cL=.int (rs.getD i 0) t:=λi hi=>by
  obtain⟨t,ht⟩:=kat i rs[i] (bb hi)
  exact⟨t,by rw[bC,ht,bC,bb hi];rfl⟩
 refine XL (vs:=es.toList.map (·.key)) (κ:=oneType') (lt:=λi j=>decide (rs.getD i 0 < rs.getD j 0)) (by rw[klen];lia) (by rw[klen];exact zch nr) (λR hR=>?_) (λh2 h tk Q' kp q'=>?_) (λh tk i j C kp hi hj hij q'=>?_) λh tk h' p c k1 k2 hD hp hr=>?_
 ·refine XM (JR (ep:=ep) (es:=es) lo) hh ⟨o,ho,hx,hd⟩ (bN (by lia:_<=1000) (by lia)) λh' tk ws kp hl hG=>?_
  have ev:ws=es.toList.map (·.key):=by
   apply eV
   intro i
   by_cases hi:i < ws.length
   ·obtain⟨e,hes,ek⟩:=hG i ws[i] (bb hi)
    rw[bb hi,ek,bw,cQ,hes]
    rfl
   ·rw[cG (by lia),cG (by rw[bo,cr];lia)]
  rw[ev]
  exact hR h' tk kp
 ·refine kas_kind (T:=.type "int") h2 (λv hv=>?_) (by lia) (by lia) q'
  obtain⟨i,hi⟩:=dz hv
  have hl:=(bq.mp hi).1
  obtain⟨t,ht⟩:=kat i rs[i] (bb (by lia))
  rw[hi] at ht
  cases ht
  exact Looks.of_pure rfl
 ·rw[klen] at hi hj
  obtain⟨t1,e1⟩:=getI i hi
  obtain⟨t2,e2⟩:=getI j hj
  have key2:=kat_lt_int (prog:=X.prog) (w:=X.w) (A:=X.A.in1.in1) (E:=λ_ _=>False) (s:={ s with heap:=h,toks:=tk }) (t:=t1) (u:=t2) (Q:=C) q'
  rw[<-e1,<-e2] at key2
  exact key2
 ·have I1:Inv X pins σ H { s with heap:=h,toks:=tk }:=I.kept k1
  rw[klen] at hp hr
  have fr:H h.objs.size=ah:=I1.hok.fresh (bh _)
  have sz:=hp.size
  have vk:Vals (p.toList.map λi=>(rs.map V.int).getD i V.non) (vx (es.toList.map (·.key)) p):=jn rv V.non cL (is:=p.toList) λi hi=>by have:=hp.lt i hi;rw[bo];exact this
  have e3:(p.toList.map λi=>(rs.map V.int).getD i V.non)=(p.toList.map λi=>rs.getD i 0).map V.int:=by
   rw[gm]
   refine fN λi hi=>?_
   have:=hp.lt i hi
   rw[bC,bw,bb this]
   show V.int rs[i]=V.int (rs.getD i 0)
   rw[bC,bb this]
   rfl
  rw[e3] at vk
  have I2:Inv X pins σ (upd H h.objs.size (.lst ((p.toList.map λi=>rs.getD i 0).map V.int))) { s with heap:=h',toks:=tk }:=I1.laid (s:={ s with heap:=h,toks:=tk }) (a:=h.objs.size) (o:=.lst ((p.toList.map λi=>rs.getD i 0).map V.int)) (t':=tk) k2 (bh _)
   ⟨by rw[bo,bo,cr];exact bN (by lia:_<=1000) (by lia),_,c,vk,hD⟩
  refine⟨.ref h.objs.size,_,I2,rfl,q _ _ fr ?_ ?_⟩
  ·refine(hp.list.map _).trans ?_
   rw[WV]
  ·exact(WW (F:=λa b:Int=>decide (a < b)) hp hr).imp λh=>of_decide_eq_true h
end
end L2
namespace K41
open PySem L2
abbrev qqN(Q:VK):Wt:={nx:=λ_ H'=>Q .non H',rt:=Q}
def top(i:Nat):ay:=PySem.Challenge.pw_forerun_k41_one_hand_alone.main.body.getD i (.Pass ⟨0,0,0,0⟩)
abbrev wH:ay:=top 39
abbrev kD:ay:=top 38
abbrev jq:ay:=top 40
abbrev jD:ay:=top 41
abbrev vC:ay:=top 46
abbrev xB:ay:=zW (top 15) 0
abbrev xV:ay:=zW (top 17) 0
abbrev xW:ay:=zW (top 29) 0
abbrev wI:ay:=zW (top 27) 0
abbrev kE:ay:=top 8
abbrev Xj:ay:=top 10
abbrev Z4:ay:=zW (top 27) 1
abbrev Xk:ay:=top 22
abbrev Xl:ay:=top 23
abbrev Z5:ay:=top 19
abbrev W2:ay:=top 24
abbrev Z6:ay:=top 25
abbrev vW:ay:=zW (top 27) 5
abbrev vX:ay:=zW (top 27) 6
abbrev Z7:ay:=zW (top 27) 2
abbrev qG:ay:=zW (top 27) 9
abbrev Z8:ay:=zW (top 27) 8
abbrev kF:ay:=zW (top 27) 7
abbrev wJ:ay:=zW (top 27) 3
abbrev qH:ay:=zW (top 27) 4
abbrev W3:ay:=top 9
abbrev Z9:ay:=top 48
abbrev vY:ay:=top 37
abbrev jE:ay:=top 32
abbrev Ya:ay:=top 31
abbrev Xm:ay:=top 33
abbrev wm:ay:=zW (top 15) 8
abbrev kG:ay:=top 12
abbrev kH:ay:=zW (top 15) 1
abbrev vZ:ay:=zW (top 29) 4
abbrev xF:ay:=zW (top 17) 4
abbrev xi:ay:=zW (top 17) 5
abbrev qI:ay:=top 14
abbrev vg:ay:=zW (top 17) 2
abbrev kI:ay:=zW (top 35) 0
abbrev vh:ay:=zW (top 29) 11
abbrev wq:ay:=zW (top 29) 10
abbrev wt:ay:=zW (top 15) 6
abbrev wu:ay:=zW (top 15) 9
abbrev Yb:ay:=top 13
abbrev qJ:ay:=zW (top 15) 2
abbrev xP:ay:=zW (top 15) 7
abbrev kJ:ay:=zW (top 17) 3
abbrev vi:ay:=zW (top 17) 1
abbrev qK:ay:=zW (top 29) 2
abbrev wK:ay:=zW (top 29) 9
abbrev jF:ay:=zW (top 29) 3
abbrev kK:ay:=top 47
abbrev qL:ay:=top 42
abbrev qM:ay:=top 43
abbrev Yc:ay:=top 44
abbrev jr:ay:=top 45
abbrev Yd:ay:=zW (top 29) 1
abbrev XQ:ay:=top 49
theorem YM:FnScope ["word"] ["word"] (zj wH):=.m
theorem q0f:FnScope ["cell","many","found","one","two","k"] ["cell","many"] (zj kD):=.m
theorem q0i:FnScope ["cell","letters","word","one","at","letter"] ["cell"] (zj jq):=.m
theorem W4:FnScope ["number"] ["number"] (zj jD):=.m
theorem q0m:FnScope ["cell","shelves","xs","found","k","worth"] ["cell","shelves"] (zj vC):=.m
theorem Vu:FnScope ["self","table"] ["self","table"] (zj xB):=.m
theorem J2:FnScope ["self","makes"] ["self","makes"] (zj xV):=.m
theorem J3:FnScope ["self","table","hands","way","first"] ["self","table","hands","way","first"] (zj xW):=.m
theorem Qn:FnScope ["self","code"] ["self","code"] (zj wI):=.m
theorem q19:FnScope ["rows","worths"] ["rows"] (zj kE):=.m
theorem zaS:FnScope ["table","gifts"] ["table","gifts"] (zj Xj):=.m
theorem Qo:FnScope ["self"] ["self"] (zj Z4):=.m
theorem zaT:FnScope ["word","first","second"] ["word","first","second"] (zj Xk):=.m
theorem zaU:FnScope ["word","first","second"] ["word","first","second"] (zj Xl):=.m
theorem Qp:FnScope ["thing"] ["thing"] (zj Z5):=.m
theorem q1a:FnScope ["word","first","second","worth"] ["word","first","second"] (zj W2):=.m
theorem q0n:FnScope ["term","slots","worths","part","second","first"] ["term","slots"] (zj Z6):=.m
theorem X4:FnScope ["self","term"] ["self","term"] (zj vW):=.m
theorem X5:FnScope ["self","due"] ["self","due"] (zj vX):=.m
theorem q1b:FnScope ["self","place"] ["self"] (zj Z7):=.m
theorem J4:FnScope ["self","place","worth"] ["self","place","worth"] (zj qG):=.m
theorem q1c:FnScope ["self","due","worth","place"] ["self","due","worth"] (zj Z8):=.m
theorem Vv:FnScope ["self","due","worth"] ["self","due","worth"] (zj kF):=.m
theorem Qq:FnScope ["self","worth"] ["self","worth"] (zj wJ):=.m
theorem q1d:FnScope ["self","notes"] ["self"] (zj qH):=.m
theorem zci:FnScope ["table","place"] ["table","place"] (zj W3):=.m
theorem q0e:FnScope ["codes","table","first","rows","k","rank","run","step","place"] ["codes","table","first"] (zj Z9):=.m
theorem X6:FnScope ["script","k"] ["script","k"] (zj vY):=.m
theorem q0r:FnScope ["row","at","steps","to","others"] ["row","at"] (zj jE):=.m
theorem q0y:FnScope ["rows","first","steps","row"] ["rows","first"] (zj Ya):=.m
theorem zaV:FnScope ["rows"] ["rows"] (zj Xm):=.m
theorem Ye:FnScope ["self","rank"] ["self","rank"] (zj wm):=.m
theorem q0j:FnScope ["ranks","rank","low","high","amid"] ["ranks","rank"] (zj kG):=.m
theorem q0z:FnScope ["self","place","rank","ranks","below"] ["self","place","rank"] (zj kH):=.m
theorem X7:FnScope ["self"] ["self"] (zj vZ):=.m
theorem q0s:FnScope ["self","rank","place","worth","now"] ["self","rank"] (zj xF):=.m
theorem q0t:FnScope ["self","ranks","rank","note"] ["self"] (zj xi):=.m
theorem q1e:FnScope ["ranks_at","place","rank","ranks"] ["ranks_at","place","rank"] (zj qI):=.m
theorem q0u:FnScope ["self","rank","paper","place","worth"] ["self","rank"] (zj vg):=.m
theorem Vw:FnScope ["self","ranks"] ["self","ranks"] (zj kI):=.m
theorem q1f:FnScope ["self","hand","rank"] ["self","hand"] (zj vh):=.m
theorem q12:FnScope ["self","hand","lowest","changed"] ["self","hand"] (zj wq):=.m
theorem Yf:FnScope ["self","rank"] ["self","rank"] (zj wt):=.m
theorem q13:FnScope ["self","rank","places","place"] ["self","rank"] (zj wu):=.m
theorem q1g:FnScope ["ranks_at","place","rank","ranks"] ["ranks_at","place","rank"] (zj Yb):=.m
theorem q14:FnScope ["self","rank","gifts","worths","place"] ["self","rank","gifts"] (zj qJ):=.m
theorem q15:FnScope ["self","place","rank","ranks","above"] ["self","place","rank"] (zj xP):=.m
theorem q0o:FnScope ["self","place","rank","readers","above","behind","reader"] ["self","place","rank"] (zj kJ):=.m
theorem q0p:FnScope ["self","rank","paper","before","place","worth"] ["self","rank","paper"] (zj vi):=.m
theorem q0q:FnScope ["self","hand","rank","run","place","worth"] ["self","hand"] (zj qK):=.m
theorem YN:FnScope ["self"] ["self"] (zj wK):=.m
theorem q1h:FnScope ["self","told"] ["self"] (zj jF):=.m
theorem q16:FnScope ["found","due","one","other"] ["found","due"] (zj kK):=.m
theorem q1i:FnScope ["number","slots","kind"] ["number","slots"] (zj qL):=.m
theorem q17:FnScope ["number","slots","words","kind"] ["number","slots"] (zj qM):=.m
theorem q0k:FnScope ["xs","shelves","slots","kind","shelf","slot","spot","term"] ["xs","shelves","slots"] (zj Yc):=.m
theorem q0g:FnScope ["cell","shelves","slots","xs","rows","at","to","row"] ["cell","shelves","slots"] (zj jr):=.m
theorem q1j:FnScope ["self","code","rank"] ["self","code"] (zj Yd):=.m
theorem q08:FnScope ["script","shelves","slots","table","codes","first","desk","k","due","told"] ["script"] (zj XQ):=.m
set_option genSizeOf false in
set_option genInjectivity false in
structure Adr where
 a0:ac
 d0:FuncData
 a1:ac
 d1:FuncData
 a2:ac
 d2:FuncData
 a3:ac
 d3:FuncData
 a4:ac
 d4:FuncData
 a5:ac
 d5:FuncData
 a6:ac
 d6:FuncData
 a7:ac
 d7:FuncData
 a8:ac
 d8:FuncData
 a9:ac
 d9:FuncData
 a10:ac
 d10:FuncData
 a11:ac
 d11:FuncData
 a12:ac
 d12:FuncData
 a13:ac
 d13:FuncData
 a14:ac
 d14:FuncData
 a15:ac
 d15:FuncData
 a16:ac
 d16:FuncData
 a17:ac
 d17:FuncData
 a18:ac
 d18:FuncData
 a19:ac
 d19:FuncData
 a20:ac
 d20:FuncData
 a21:ac
 d21:FuncData
 a22:ac
 d22:FuncData
 a23:ac
 d23:FuncData
 a24:ac
 d24:FuncData
 a25:ac
 d25:FuncData
 a26:ac
 d26:FuncData
 a27:ac
 d27:FuncData
 a28:ac
 d28:FuncData
 a29:ac
 d29:FuncData
 a30:ac
 d30:FuncData
 a31:ac
 d31:FuncData
 a32:ac
 d32:FuncData
 a33:ac
 d33:FuncData
 a34:ac
 d34:FuncData
 a35:ac
 d35:FuncData
 a36:ac
 d36:FuncData
 a37:ac
 d37:FuncData
 a38:ac
 d38:FuncData
 a39:ac
 d39:FuncData
 a40:ac
 d40:FuncData
 a41:ac
 d41:FuncData
 a42:ac
 d42:FuncData
 a43:ac
 d43:FuncData
 a44:ac
 d44:FuncData
 a45:ac
 d45:FuncData
 a46:ac
 d46:FuncData
 a47:ac
 d47:FuncData
 a48:ac
 d48:FuncData
 a49:ac
 d49:FuncData
 a50:ac
 d50:FuncData
 a51:ac
 d51:FuncData
 a52:ac
 d52:FuncData
 a53:ac
 d53:FuncData
 a54:ac
 d54:FuncData
 a55:ac
 d55:FuncData
 a56:ac
 d56:FuncData
 a57:ac
 d57:FuncData
 a58:ac
 d58:FuncData
 q0v:ac
 q01:ac
 q07:ac
 q03:ac
 q02:ac
 q06:ac
 q00:ac
 q09:ac
structure Txt(K:bx)(mg:Str->Option ae)(t:Adr):Prop where
 g0:FG K mg "_law_free_name" wH ["word"] t.a0 t.d0
 g1:FG K mg "_law_draws" kD ["cell","many"] t.a1 t.d1
 g2:FG K mg "_law_pair" jq ["cell"] t.a2 t.d2
 g3:FG K mg "_law_number" jD ["number"] t.a3 t.d3
 g4:FG K mg "_law_table" vC ["cell","shelves"] t.a4 t.d4
 q1n:Fun K "__init__" "Makes.__init__" xB t.a5 t.d5
 q1o:Binds K t.d5 ["self","table"] []
 q1p:Fun K "__init__" "Jobs.__init__" xV t.a6 t.d6
 q1q:Binds K t.d6 ["self","makes"] []
 q1r:FunD K "__init__" "Desk.__init__" xW t.a7 t.d7
 q1s:Binds K t.d7 ["self","table","hands","way","first"] []
 bd_Desk_init:∃ds,Vals [.int 0] ds/\Binds K t.d7 ["self","table","hands","way","first"] ds
 q1t:Fun K "__init__" "Run.__init__" wI t.a8 t.d8
 q1k:Binds K t.d8 ["self","code"] []
 g9:FG K mg "table_of" kE ["rows"] t.a9 t.d9
 g10:FG K mg "laid_on" Xj ["table","gifts"] t.a10 t.d10
 g11:FM K t.q00 "over" "Run.over" Z4 ["self"] t.a11 t.d11
 g12:FG K mg "divided" Xk ["word","first","second"] t.a12 t.d12
 g13:FG K mg "come_to" Xl ["word","first","second"] t.a13 t.d13
 g14:FG K mg "is_worth" Z5 ["thing"] t.a14 t.d14
 g15:FG K mg "joined" W2 ["word","first","second"] t.a15 t.d15
 g16:FG K mg "reckoned" Z6 ["term","slots"] t.a16 t.d16
 g17:FM K t.q00 "worth_of" "Run.worth_of" vW ["self","term"] t.a17 t.d17
 g18:FM K t.q00 "place_in" "Run.place_in" vX ["self","due"] t.a18 t.d18
 g19:FM K t.q00 "asks" "Run.asks" Z7 ["self"] t.a19 t.d19
 g20:FM K t.q00 "taken" "Run.taken" qG ["self","place","worth"] t.a20 t.d20
 g21:FM K t.q00 "does" "Run.does" Z8 ["self","due","worth"] t.a21 t.d21
 g22:FM K t.q00 "led_by" "Run.led_by" kF ["self","due","worth"] t.a22 t.d22
 q1u:FunD K "step" "Run.step" wJ t.a23 t.d23
 q1l:Binds K t.d23 ["self","worth"] []
 bd_Run_step:∃ds,Vals [.int 0] ds/\Binds K t.d23 ["self","worth"] ds
 me_Run_step:zan K t.q00 "step" t.a23
 g24:FM K t.q00 "paper" "Run.paper" qH ["self"] t.a24 t.d24
 g25:FG K mg "stands" W3 ["table","place"] t.a25 t.d25
 g26:FG K mg "_law_due" Z9 ["codes","table","first"] t.a26 t.d26
 g27:FG K mg "_law_cell_at" vY ["script","k"] t.a27 t.d27
 g28:FG K mg "block_steps" jE ["row","at"] t.a28 t.d28
 g29:FG K mg "steps_of" Ya ["rows","first"] t.a29 t.d29
 g30:FG K mg "code_of" Xm ["rows"] t.a30 t.d30
 g31:FM K t.q02 "heed_fold" "Makes.heed_fold" wm ["self","rank"] t.a31 t.d31
 g32:FG K mg "many_below" kG ["ranks","rank"] t.a32 t.d32
 g33:FM K t.q02 "seen" "Makes.seen" kH ["self","place","rank"] t.a33 t.d33
 g34:FM K t.q01 "settled" "Desk.settled" vZ ["self"] t.a34 t.d34
 g35:FM K t.q03 "changed_note" "Jobs.changed_note" xF ["self","rank"] t.a35 t.d35
 g36:FM K t.q03 "lowest_changed" "Jobs.lowest_changed" xi ["self"] t.a36 t.d36
 g37:FG K mg "drop_rank" qI ["ranks_at","place","rank"] t.a37 t.d37
 g38:FM K t.q03 "take_off" "Jobs.take_off" vg ["self","rank"] t.a38 t.d38
 g39:FM K t.q09 "chosen" "Way.chosen" kI ["self","ranks"] t.a39 t.d39
 g40:FM K t.q01 "taken_up" "Desk.taken_up" vh ["self","hand"] t.a40 t.d40
 g41:FM K t.q01 "moved_free" "Desk.moved_free" wq ["self","hand"] t.a41 t.d41
 g42:FM K t.q02 "places_of" "Makes.places_of" wt ["self","rank"] t.a42 t.d42
 g43:FM K t.q02 "take_away" "Makes.take_away" wu ["self","rank"] t.a43 t.d43
 g44:FG K mg "put_rank" Yb ["ranks_at","place","rank"] t.a44 t.d44
 g45:FM K t.q02 "lay" "Makes.lay" qJ ["self","rank","gifts"] t.a45 t.d45
 g46:FM K t.q02 "next_above" "Makes.next_above" xP ["self","place","rank"] t.a46 t.d46
 g47:FM K t.q03 "doubt" "Jobs.doubt" kJ ["self","place","rank"] t.a47 t.d47
 g48:FM K t.q03 "lay_down" "Jobs.lay_down" vi ["self","rank","paper"] t.a48 t.d48
 g49:FM K t.q01 "move" "Desk.move" qK ["self","hand"] t.a49 t.d49
 g50:FM K t.q01 "next_rank" "Desk.next_rank" wK ["self"] t.a50 t.d50
 g51:FM K t.q01 "finish" "Desk.finish" jF ["self"] t.a51 t.d51
 g52:FG K mg "_law_alike" kK ["found","due"] t.a52 t.d52
 g53:FG K mg "_law_spot" qL ["number","slots"] t.a53 t.d53
 g54:FG K mg "_law_term" qM ["number","slots"] t.a54 t.d54
 g55:FG K mg "_law_row" Yc ["xs","shelves","slots"] t.a55 t.d55
 g56:FG K mg "_law_rows" jr ["cell","shelves","slots"] t.a56 t.d56
 g57:FM K t.q01 "add" "Desk.add" Yd ["self","code"] t.a57 t.d57
 q1v:Fun K "law" "law" XQ t.a58 t.d58
 q2s:Binds K t.d58 ["script"] []
 m_law:mg "law"=aa (.ref t.a58)
 w_law:∀(s:ag) (v:ae),BindsTo s t.d58 ⟨[v],[]⟩ [("script",v)]
 q1m:mg "bool"=ah
 q0w:mg "dict"=ah
 b_int:mg "int"=ah
 q0a:mg "isinstance"=ah
 q05:mg "len"=ah
 q0c:mg "list"=ah
 q1w:mg "max"=ah
 q0l:mg "range"=ah
 q0x:mg "sorted"=ah
 q18:mg "str"=ah
 b_tuple:mg "tuple"=ah
 b_zip:mg "zip"=ah
 g_JOINING:mg "JOINING"=aa (.ref t.q0v)
 q1x:∀H:Hp,SqT K H t.q0v [.str "plus",.str "minus",.str "times",.str "over",.str "rest",.str "under",.str "same"]
 g_Desk:mg "Desk"=aa (.ref t.q01)
 g_Great:mg "Great"=aa (.ref t.q07)
 g_Jobs:mg "Jobs"=aa (.ref t.q03)
 g_Makes:mg "Makes"=aa (.ref t.q02)
 g_Nought:mg "Nought"=aa (.ref t.q06)
 g_Run:mg "Run"=aa (.ref t.q00)
 g_Way:mg "Way"=aa (.ref t.q09)
 q0b:Cls K t.q01
 mk_Desk:Mk K t.q01 t.a7
 q1y:NoAttr K t.q01 "codes"
 q1z:NoAttr K t.q01 "ended"
 q20:NoAttr K t.q01 "first"
 q21:NoAttr K t.q01 "hands"
 q22:NoAttr K t.q01 "held"
 q23:NoAttr K t.q01 "jobs"
 q24:NoAttr K t.q01 "makes"
 q25:NoAttr K t.q01 "waiting"
 q26:NoAttr K t.q01 "way"
 q0h:Cls K t.q03
 mk_Jobs:Mk K t.q03 t.a6
 q27:NoAttr K t.q03 "doubted"
 q28:NoAttr K t.q03 "laid"
 q29:NoAttr K t.q03 "makes"
 q2a:NoAttr K t.q03 "readers"
 q0d:Cls K t.q02
 mk_Makes:Mk K t.q02 t.a5
 q2b:NoAttr K t.q02 "folded"
 q2c:NoAttr K t.q02 "ground"
 q2d:NoAttr K t.q02 "ranks"
 q2e:NoAttr K t.q02 "worths"
 q04:Cls K t.q00
 mk_Run:Mk K t.q00 t.a8
 q2f:NoAttr K t.q00 "at"
 q2g:NoAttr K t.q00 "code"
 q2h:NoAttr K t.q00 "gifts"
 q2i:NoAttr K t.q00 "notes"
 q2j:NoAttr K t.q00 "sayings"
 q2k:NoAttr K t.q00 "slots"
 q2l:NoAttr K t.q00 "why"
 q2m:Cls K t.q09
 mo_Way:MkO K t.q09
 q2n:pq K t.q06 KU Xd=af
 y_Nought:ExK K t.q06
 q2o:iG K (.ref t.q06) (.ref t.q07)=aa am
 q2p:iG K (.ref t.q06) (.ref t.q06)=aa af
 m_Nought_Great_Nought:pT K (.ref t.q06) [.ref t.q07,.ref t.q06]=aa af
 q2q:pq K t.q07 KU Xd=af
 y_Great:ExK K t.q07
 q2r:iG K (.ref t.q07) (.ref t.q07)=aa af
 q2t:iG K (.ref t.q07) (.ref t.q06)=aa am
 m_Great_Great_Nought:pT K (.ref t.q07) [.ref t.q07,.ref t.q06]=aa af
theorem txt_mk{mg:Str->Option ae}(X:K.In h)(G:h.Ns mainGlobals mg)
  
  
  
  
  
  
  
  
  
  
  
  
  
  
  (h0:QG K "_law_free_name" wH)
  (h1:QG K "_law_draws" kD)
  (h2:QG K "_law_pair" jq)
  (h3:QG K "_law_number" jD)
  (h4:QG K "_law_table" vC)
  (qa5:cm K (.ref ca3) "__init__"=aa (aa (.ref f5))) (qi5:pG K (.ref f5)=af) (ql5:K.lookup f5=aa ⟨oc5,od5,.func (iI "__init__" "Makes.__init__" (yU xB) (yo xB) (zj xB) .none kV5 dc5 pm5 an5 cd5 ct5),sl5⟩) (qc5:gR K cd5 "Makes.__init__"=af) (qk5:eI K (.ref f5)=af)
  (qa6:cm K (.ref ca2) "__init__"=aa (aa (.ref f6))) (qi6:pG K (.ref f6)=af) (ql6:K.lookup f6=aa ⟨oc6,od6,.func (iI "__init__" "Jobs.__init__" (yU xV) (yo xV) (zj xV) .none kV6 dc6 pm6 an6 cd6 ct6),sl6⟩) (qc6:gR K cd6 "Jobs.__init__"=af) (qk6:eI K (.ref f6)=af)
  (qa7:cm K (.ref ca0) "__init__"=aa (aa (.ref f7))) (qi7:pG K (.ref f7)=af) (ql7:K.lookup f7=aa ⟨oc7,od7,.func (iI "__init__" "Desk.__init__" (yU xW) (yo xW) (zj xW) (.ref dA7) kV7 dc7 pm7 an7 cd7 ct7),sl7⟩) (qc7:gR K cd7 "Desk.__init__"=af) (qk7:eI K (.ref f7)=af) (qd7:K.lookup dA7=aa ⟨.type "tuple",ah,.seq #[.int 0 dt7_0] dn7,#[]⟩)
  (qa8:cm K (.ref ca5) "__init__"=aa (aa (.ref f8))) (qi8:pG K (.ref f8)=af) (ql8:K.lookup f8=aa ⟨oc8,od8,.func (iI "__init__" "Run.__init__" (yU wI) (yo wI) (zj wI) .none kV8 dc8 pm8 an8 cd8 ct8),sl8⟩) (qc8:gR K cd8 "Run.__init__"=af) (qk8:eI K (.ref f8)=af)
  (h9:QG K "table_of" kE)
  (h10:QG K "laid_on" Xj)
  (h11:QM K ca5 "over" "Run.over" Z4)
  (h12:QG K "divided" Xk)
  (h13:QG K "come_to" Xl)
  (h14:QG K "is_worth" Z5)
  (h15:QG K "joined" W2)
  (h16:QG K "reckoned" Z6)
  (h17:QM K ca5 "worth_of" "Run.worth_of" vW)
  (h18:QM K ca5 "place_in" "Run.place_in" vX)
  (h19:QM K ca5 "asks" "Run.asks" Z7)
  (h20:QM K ca5 "taken" "Run.taken" qG)
  (h21:QM K ca5 "does" "Run.does" Z8)
  (h22:QM K ca5 "led_by" "Run.led_by" kF)
  (qa23:cm K (.ref ca5) "step"=aa (aa (.ref f23))) (qi23:pG K (.ref f23)=af) (ql23:K.lookup f23=aa ⟨oc23,od23,.func (iI "step" "Run.step" (yU wJ) (yo wJ) (zj wJ) (.ref dA23) kV23 dc23 pm23 an23 cd23 ct23),sl23⟩) (qc23:gR K cd23 "Run.step"=af) (qk23:eI K (.ref f23)=af) (qd23:K.lookup dA23=aa ⟨.type "tuple",ah,.seq #[.int 0 dt23_0] dn23,#[]⟩)
  (h24:QM K ca5 "paper" "Run.paper" qH)
  (h25:QG K "stands" W3)
  (h26:QG K "_law_due" Z9)
  (h27:QG K "_law_cell_at" vY)
  (h28:QG K "block_steps" jE)
  (h29:QG K "steps_of" Ya)
  (h30:QG K "code_of" Xm)
  (h31:QM K ca3 "heed_fold" "Makes.heed_fold" wm)
  (h32:QG K "many_below" kG)
  (h33:QM K ca3 "seen" "Makes.seen" kH)
  (h34:QM K ca0 "settled" "Desk.settled" vZ)
  (h35:QM K ca2 "changed_note" "Jobs.changed_note" xF)
  (h36:QM K ca2 "lowest_changed" "Jobs.lowest_changed" xi)
  (h37:QG K "drop_rank" qI)
  (h38:QM K ca2 "take_off" "Jobs.take_off" vg)
  (h39:QM K ca6 "chosen" "Way.chosen" kI)
  (h40:QM K ca0 "taken_up" "Desk.taken_up" vh)
  (h41:QM K ca0 "moved_free" "Desk.moved_free" wq)
  (h42:QM K ca3 "places_of" "Makes.places_of" wt)
  (h43:QM K ca3 "take_away" "Makes.take_away" wu)
  (h44:QG K "put_rank" Yb)
  (h45:QM K ca3 "lay" "Makes.lay" qJ)
  (h46:QM K ca3 "next_above" "Makes.next_above" xP)
  (h47:QM K ca2 "doubt" "Jobs.doubt" kJ)
  (h48:QM K ca2 "lay_down" "Jobs.lay_down" vi)
  (h49:QM K ca0 "move" "Desk.move" qK)
  (h50:QM K ca0 "next_rank" "Desk.next_rank" wK)
  (h51:QM K ca0 "finish" "Desk.finish" jF)
  (h52:QG K "_law_alike" kK)
  (h53:QG K "_law_spot" qL)
  (h54:QG K "_law_term" qM)
  (h55:QG K "_law_row" Yc)
  (h56:QG K "_law_rows" jr)
  (h57:QM K ca0 "add" "Desk.add" Yd)
  (qa58:gI K mainGlobals "law"=aa (aa (.ref f58))) (ql58:K.lookup f58=aa ⟨oc58,od58,.func (iI "law" "law" (yU XQ) (yo XQ) (zj XQ) .none kV58 dc58 pm58 an58 cd58 ct58),sl58⟩) (qc58:gR K cd58 "law"=af) (qk58:eI K (.ref f58)=af)
  (qz0:gI K mainGlobals "bool"=aa ah)
  (qz1:gI K mainGlobals "dict"=aa ah)
  (qz2:gI K mainGlobals "int"=aa ah)
  (qz3:gI K mainGlobals "isinstance"=aa ah)
  (qz4:gI K mainGlobals "len"=aa ah)
  (qz5:gI K mainGlobals "list"=aa ah)
  (qz6:gI K mainGlobals "max"=aa ah)
  (qz7:gI K mainGlobals "range"=aa ah)
  (qz8:gI K mainGlobals "sorted"=aa ah)
  (qz9:gI K mainGlobals "str"=aa ah)
  (qz10:gI K mainGlobals "tuple"=aa ah)
  (qz11:gI K mainGlobals "zip"=aa ah)
  (qg0:gI K mainGlobals "JOINING"=aa (aa (.ref ga0))) (qh0:K.lookup ga0=aa ⟨.type "tuple",ah,.seq #[.str "plus" gt0_0,.str "minus" gt0_1,.str "times" gt0_2,.str "over" gt0_3,.str "rest" gt0_4,.str "under" gt0_5,.str "same" gt0_6] gn0,#[]⟩)
  (qv0:gI K mainGlobals "Desk"=aa (aa (.ref ca0)))
  (qv1:gI K mainGlobals "Great"=aa (aa (.ref ca1)))
  (qv2:gI K mainGlobals "Jobs"=aa (aa (.ref ca2)))
  (qv3:gI K mainGlobals "Makes"=aa (aa (.ref ca3)))
  (qv4:gI K mainGlobals "Nought"=aa (aa (.ref ca4)))
  (qv5:gI K mainGlobals "Run"=aa (aa (.ref ca5)))
  (qv6:gI K mainGlobals "Way"=aa (aa (.ref ca6)))
  (pg0:gO K ca0 gD=af) (pd0:gK K ca0=af) (po0:iq K ca0=af) (pe0:cm K (.ref ca0) "__setattr__"=aa (aa (.builtin "object.__setattr__"))) (pm0_:iH K ca0=af) (pk0:eI K (.ref ca0)=af)
  (pn0_0:cm K (.ref ca0) "codes"=aa ah)
  (pn0_1:cm K (.ref ca0) "ended"=aa ah)
  (pn0_2:cm K (.ref ca0) "first"=aa ah)
  (pn0_3:cm K (.ref ca0) "hands"=aa ah)
  (pn0_4:cm K (.ref ca0) "held"=aa ah)
  (pn0_5:cm K (.ref ca0) "jobs"=aa ah)
  (pn0_6:cm K (.ref ca0) "makes"=aa ah)
  (pn0_7:cm K (.ref ca0) "waiting"=aa ah)
  (pn0_8:cm K (.ref ca0) "way"=aa ah)
  (pg2:gO K ca2 gD=af) (pd2:gK K ca2=af) (po2:iq K ca2=af) (pe2:cm K (.ref ca2) "__setattr__"=aa (aa (.builtin "object.__setattr__"))) (pm2_:iH K ca2=af) (pk2:eI K (.ref ca2)=af)
  (pn2_0:cm K (.ref ca2) "doubted"=aa ah)
  (pn2_1:cm K (.ref ca2) "laid"=aa ah)
  (pn2_2:cm K (.ref ca2) "makes"=aa ah)
  (pn2_3:cm K (.ref ca2) "readers"=aa ah)
  (pg3:gO K ca3 gD=af) (pd3:gK K ca3=af) (po3:iq K ca3=af) (pe3:cm K (.ref ca3) "__setattr__"=aa (aa (.builtin "object.__setattr__"))) (pm3_:iH K ca3=af) (pk3:eI K (.ref ca3)=af)
  (pn3_0:cm K (.ref ca3) "folded"=aa ah)
  (pn3_1:cm K (.ref ca3) "ground"=aa ah)
  (pn3_2:cm K (.ref ca3) "ranks"=aa ah)
  (pn3_3:cm K (.ref ca3) "worths"=aa ah)
  (pg5:gO K ca5 gD=af) (pd5:gK K ca5=af) (po5:iq K ca5=af) (pe5:cm K (.ref ca5) "__setattr__"=aa (aa (.builtin "object.__setattr__"))) (pm5_:iH K ca5=af) (pk5:eI K (.ref ca5)=af)
  (pn5_0:cm K (.ref ca5) "at"=aa ah)
  (pn5_1:cm K (.ref ca5) "code"=aa ah)
  (pn5_2:cm K (.ref ca5) "gifts"=aa ah)
  (pn5_3:cm K (.ref ca5) "notes"=aa ah)
  (pn5_4:cm K (.ref ca5) "sayings"=aa ah)
  (pn5_5:cm K (.ref ca5) "slots"=aa ah)
  (pn5_6:cm K (.ref ca5) "why"=aa ah)
  (pi6:cm K (.ref ca6) "__init__"=aa (aa (.builtin "object.__init__")))
  (pg6:gO K ca6 gD=af) (pd6:gK K ca6=af) (po6:iq K ca6=af) (pe6:cm K (.ref ca6) "__setattr__"=aa (aa (.builtin "object.__setattr__"))) (pm6_:iH K ca6=af) (pk6:eI K (.ref ca6)=af)
  (rx0:pq K ca4 KU Xd=af)
  (ry0:QX K ca4)
  (re0_0:iG K (.ref ca4) (.ref ca1)=aa am)
  (re0_1:iG K (.ref ca4) (.ref ca4)=aa af)
  (rm0_0:pT K (.ref ca4) [(.ref ca1),(.ref ca4)]=aa af)
  (rx1:pq K ca1 KU Xd=af)
  (ry1:QX K ca1)
  (re1_0:iG K (.ref ca1) (.ref ca1)=aa af)
  (re1_1:iG K (.ref ca1) (.ref ca4)=aa am)
  (rm1_0:pT K (.ref ca1) [(.ref ca1),(.ref ca4)]=aa af):∃t,Txt K mg t:=by
 obtain⟨f0,d0,F0⟩:=QG.a1 X G "word" h0
 obtain⟨f1,d1,F1⟩:=QG.a2 X G "cell" "many" h1
 obtain⟨f2,d2,F2⟩:=QG.a1 X G "cell" h2
 obtain⟨f3,d3,F3⟩:=QG.a1 X G "number" h3
 obtain⟨f4,d4,F4⟩:=QG.a2 X G "cell" "shelves" h4
 have F5:=WG (st:=xB) ql5 qc5 qk5
 have F6:=WG (st:=xV) ql6 qc6 qk6
 have F7:=zbv (st:=xW) ql7 qc7 qk7
 have F8:=WG (st:=wI) ql8 qc8 qk8
 obtain⟨f9,d9,F9⟩:=QG.a1 X G "rows" h9
 obtain⟨f10,d10,F10⟩:=QG.a2 X G "table" "gifts" h10
 obtain⟨f11,d11,F11⟩:=QM.a1 "self" h11
 obtain⟨f12,d12,F12⟩:=QG.a3 X G "word" "first" "second" h12
 obtain⟨f13,d13,F13⟩:=QG.a3 X G "word" "first" "second" h13
 obtain⟨f14,d14,F14⟩:=QG.a1 X G "thing" h14
 obtain⟨f15,d15,F15⟩:=QG.a3 X G "word" "first" "second" h15
 obtain⟨f16,d16,F16⟩:=QG.a2 X G "term" "slots" h16
 obtain⟨f17,d17,F17⟩:=QM.a2 "self" "term" h17
 obtain⟨f18,d18,F18⟩:=QM.a2 "self" "due" h18
 obtain⟨f19,d19,F19⟩:=QM.a1 "self" h19
 obtain⟨f20,d20,F20⟩:=QM.a3 "self" "place" "worth" h20
 obtain⟨f21,d21,F21⟩:=QM.a3 "self" "due" "worth" h21
 obtain⟨f22,d22,F22⟩:=QM.a3 "self" "due" "worth" h22
 have F23:=zbv (st:=wJ) ql23 qc23 qk23
 obtain⟨f24,d24,F24⟩:=QM.a1 "self" h24
 obtain⟨f25,d25,F25⟩:=QG.a2 X G "table" "place" h25
 obtain⟨f26,d26,F26⟩:=QG.a3 X G "codes" "table" "first" h26
 obtain⟨f27,d27,F27⟩:=QG.a2 X G "script" "k" h27
 obtain⟨f28,d28,F28⟩:=QG.a2 X G "row" "at" h28
 obtain⟨f29,d29,F29⟩:=QG.a2 X G "rows" "first" h29
 obtain⟨f30,d30,F30⟩:=QG.a1 X G "rows" h30
 obtain⟨f31,d31,F31⟩:=QM.a2 "self" "rank" h31
 obtain⟨f32,d32,F32⟩:=QG.a2 X G "ranks" "rank" h32
 obtain⟨f33,d33,F33⟩:=QM.a3 "self" "place" "rank" h33
 obtain⟨f34,d34,F34⟩:=QM.a1 "self" h34
 obtain⟨f35,d35,F35⟩:=QM.a2 "self" "rank" h35
 obtain⟨f36,d36,F36⟩:=QM.a1 "self" h36
 obtain⟨f37,d37,F37⟩:=QG.a3 X G "ranks_at" "place" "rank" h37
 obtain⟨f38,d38,F38⟩:=QM.a2 "self" "rank" h38
 obtain⟨f39,d39,F39⟩:=QM.a2 "self" "ranks" h39
 obtain⟨f40,d40,F40⟩:=QM.a2 "self" "hand" h40
 obtain⟨f41,d41,F41⟩:=QM.a2 "self" "hand" h41
 obtain⟨f42,d42,F42⟩:=QM.a2 "self" "rank" h42
 obtain⟨f43,d43,F43⟩:=QM.a2 "self" "rank" h43
 obtain⟨f44,d44,F44⟩:=QG.a3 X G "ranks_at" "place" "rank" h44
 obtain⟨f45,d45,F45⟩:=QM.a3 "self" "rank" "gifts" h45
 obtain⟨f46,d46,F46⟩:=QM.a3 "self" "place" "rank" h46
 obtain⟨f47,d47,F47⟩:=QM.a3 "self" "place" "rank" h47
 obtain⟨f48,d48,F48⟩:=QM.a3 "self" "rank" "paper" h48
 obtain⟨f49,d49,F49⟩:=QM.a2 "self" "hand" h49
 obtain⟨f50,d50,F50⟩:=QM.a1 "self" h50
 obtain⟨f51,d51,F51⟩:=QM.a1 "self" h51
 obtain⟨f52,d52,F52⟩:=QG.a2 X G "found" "due" h52
 obtain⟨f53,d53,F53⟩:=QG.a2 X G "number" "slots" h53
 obtain⟨f54,d54,F54⟩:=QG.a2 X G "number" "slots" h54
 obtain⟨f55,d55,F55⟩:=QG.a3 X G "xs" "shelves" "slots" h55
 obtain⟨f56,d56,F56⟩:=QG.a3 X G "cell" "shelves" "slots" h56
 obtain⟨f57,d57,F57⟩:=QM.a2 "self" "code" h57
 have F58:=WG (st:=XQ) ql58 qc58 qk58
 exact⟨⟨f0,d0,f1,d1,f2,d2,f3,d3,f4,d4,f5,_,f6,_,f7,_,f8,_,f9,d9,f10,d10,f11,d11,f12,d12,f13,d13,f14,d14,f15,d15,f16,d16,f17,d17,f18,d18,f19,d19,f20,d20,f21,d21,f22,d22,f23,_,f24,d24,f25,d25,f26,d26,f27,d27,f28,d28,f29,d29,f30,d30,f31,d31,f32,d32,f33,d33,f34,d34,f35,d35,f36,d36,f37,d37,f38,d38,f39,d39,f40,d40,f41,d41,f42,d42,f43,d43,f44,d44,f45,d45,f46,d46,f47,d47,f48,d48,f49,d49,f50,d50,f51,d51,f52,d52,f53,d53,f54,d54,f55,d55,f56,d56,f57,d57,f58,_,ga0,ca0,ca1,ca2,ca3,ca4,ca5,ca6⟩,⟨F0,
  F1,
  F2,
  F3,
  F4,
  F5,F5.binds (ps:=["self","table"]) (λ_ _ _ _ _ _ us hl=>match us,hl with | [_,_],_=>rfl),
  F6,F6.binds (ps:=["self","makes"]) (λ_ _ _ _ _ _ us hl=>match us,hl with | [_,_],_=>rfl),
  F7,(λs us hK hl=>match us,(show us.length=5 by simpa using hl) with | [_,_,_,_,_],_=>.of_defaults (T:=dA7) rfl (hK _ _ qd7) rfl rfl rfl),⟨[.int 0 dt7_0],(.cons ⟨_,rfl⟩ .nil),(λs us hK hl=>match us,(show us.length=4 by simpa using hl) with | [_,_,_,_],_=>.of_defaults (T:=dA7) rfl (hK _ _ qd7) rfl rfl rfl)⟩,
  F8,F8.binds (ps:=["self","code"]) (λ_ _ _ _ _ _ us hl=>match us,hl with | [_,_],_=>rfl),
  F9,
  F10,
  F11,
  F12,
  F13,
  F14,
  F15,
  F16,
  F17,
  F18,
  F19,
  F20,
  F21,
  F22,
  F23,(λs us hK hl=>match us,(show us.length=2 by simpa using hl) with | [_,_],_=>.of_defaults (T:=dA23) rfl (hK _ _ qd23) rfl rfl rfl),⟨[.int 0 dt23_0],(.cons ⟨_,rfl⟩ .nil),(λs us hK hl=>match us,(show us.length=1 by simpa using hl) with | [_],_=>.of_defaults (T:=dA23) rfl (hK _ _ qd23) rfl rfl rfl)⟩,⟨qa23,qi23,qk23⟩,
  F24,
  F25,
  F26,
  F27,
  F28,
  F29,
  F30,
  F31,
  F32,
  F33,
  F34,
  F35,
  F36,
  F37,
  F38,
  F39,
  F40,
  F41,
  F42,
  F43,
  F44,
  F45,
  F46,
  F47,
  F48,
  F49,
  F50,
  F51,
  F52,
  F53,
  F54,
  F55,
  F56,
  F57,
  F58,F58.binds (ps:=["script"]) (λ_ _ _ _ _ _ us hl=>match us,hl with | [_],_=>rfl),mR X G qa58,
  λs v=>.of_eq rfl,
  eE X G qz0,
  eE X G qz1,
  eE X G qz2,
  eE X G qz3,
  eE X G qz4,
  eE X G qz5,
  eE X G qz6,
  eE X G qz7,
  eE X G qz8,
  eE X G qz9,
  eE X G qz10,
  eE X G qz11,
  mR X G qg0,λ_=>.inr ⟨_,_,_,qh0,rfl,rfl,(by show 7<=sizeLine;decide),(.cons ⟨_,rfl⟩ (.cons ⟨_,rfl⟩ (.cons ⟨_,rfl⟩ (.cons ⟨_,rfl⟩ (.cons ⟨_,rfl⟩ (.cons ⟨_,rfl⟩ (.cons ⟨_,rfl⟩ .nil)))))))⟩,
  mR X G qv0,
  mR X G qv1,
  mR X G qv2,
  mR X G qv3,
  mR X G qv4,
  mR X G qv5,
  mR X G qv6,
  ⟨pg0,pd0,po0,pe0⟩,
  ⟨pm0_,qa7,qi7,pk0⟩,
  pn0_0,
  pn0_1,
  pn0_2,
  pn0_3,
  pn0_4,
  pn0_5,
  pn0_6,
  pn0_7,
  pn0_8,
  ⟨pg2,pd2,po2,pe2⟩,
  ⟨pm2_,qa6,qi6,pk2⟩,
  pn2_0,
  pn2_1,
  pn2_2,
  pn2_3,
  ⟨pg3,pd3,po3,pe3⟩,
  ⟨pm3_,qa5,qi5,pk3⟩,
  pn3_0,
  pn3_1,
  pn3_2,
  pn3_3,
  ⟨pg5,pd5,po5,pe5⟩,
  ⟨pm5_,qa8,qi8,pk5⟩,
  pn5_0,
  pn5_1,
  pn5_2,
  pn5_3,
  pn5_4,
  pn5_5,
  pn5_6,
  ⟨pg6,pd6,po6,pe6⟩,
  ⟨pm6_,pi6,pk6⟩,
  rx0,
  ry0.to,
  re0_0,
  re0_1,
  rm0_0,
  rx1,
  ry1.to,
  re1_0,
  re1_1,
  rm1_0⟩⟩
structure KF(K:bx):Prop where
 i_b:fM K (.type "int") (.type "bool")=aa am
 i_s:fM K (.type "int") (.type "str")=aa am
 s_i:fM K (.type "str") (.type "int")=aa am
 i_l:fM K (.type "int") (.type "list")=aa am
 i_t:fM K (.type "int") (.type "tuple")=aa am
 s_l:fM K (.type "str") (.type "list")=aa am
 s_t:fM K (.type "str") (.type "tuple")=aa am
 t_l:fM K (.type "tuple") (.type "list")=aa am
def fin(t:Adr)(r:Except Er Int)(Q:VK)(E:XK)(H:Hp):Prop:=match r with
 | .ok i=>Q (.int i) H
 | .error .nought=>E (.ref t.q06) ah H
 | .error .great=>E (.ref t.q07) ah H
 | .error .stuck=>True
def zdO(t:Adr)(e:Er)(E:XK)(H:Hp):Prop:=match e with
 | .nought=>E (.ref t.q06) ah H
 | .great=>E (.ref t.q07) ah H
 | .stuck=>True
def ze7(K:bx):Prop:=fM K (.type "int") (.type "bool")=aa am
def NamesAt(H:Hp)(nm:ac)(ws:List Str):Prop:=H nm=aa (.lst (ws.map V.str))/\∀w∈ws,yI w=af
def Yg:Rw->Prop
 | .off _=>False
 | .iff _ _ _=>False
 | _=>True
def qN:Sp:=λvs H Q _=>∃i,vs=[.int i]/\∀H',Same H H'->Q (.bl (inW i)) H'
def kL(t:Adr):Sp:=λvs H Q E=>∃w a b,vs=[.str w,.int a,.int b]/\w.length<=1000/\inW a=af/\inW b=af/\∀H',Same H H'->if b=0 then E (.ref t.q06) ah H' else Q (.int (if w="over" then a.fdiv b else a.fmod b)) H'
def kM(t:Adr):Sp:=λvs H Q E=>∃w a b,vs=[.str w,.int a,.int b]/\w.length<=1000/\inW a=af/\inW b=af/\∀H',Same H H'->if WN w/\b=0 then E (.ref t.q06) ah H' else Q (.int (jj w a b)) H'
def Zx(t:Adr):Sp:=λvs H Q E=>∃w a b,vs=[.str w,.int a,.int b]/\w.length<=1000/\inW a=af/\inW b=af/\∀H',Same H H'->fin t (vU w a b) Q E H'
def qO(t:Adr):Sp:=λvs H Q E=>∃kvs tm sl ps r,vs=[.ref tm,.ref sl]/\H tm=aa (.tup ps)/\H sl=aa (.dK kvs)/\Good kvs ps r/\(∀v∈ps,kA v)/\ps.length<=1000/\yV kvs/\∀H',Same H H'->fin t r Q E H'
inductive Cs where
 | row (r:Rw)
 | skip (e:List V) (to:Nat)
 | go (en:Nat)
def Rws.isNil:Rws->Bool
 | .nil=>af
 | .cons _ _=>am
def blk(e:List V)(k:Nat)(A:List Cs)(nl:Bool)(B:List Cs):List Cs :=
 if nl=af then .skip e (k + 1 + A.length) :: A else .skip e (k + 2 + A.length) :: (A ++ (.go (k + 2 + A.length + B.length) :: B))
mutual
def xk:Rw->Nat->List Cs
 | .iff e a b,k=>blk e k (zZ a (k + 1)) (Rws.isNil b) (zZ b (k + 2 + (zZ a (k + 1)).length))
 | r,_=>[.row r]
def zZ:Rws->Nat->List Cs
 | .nil,_=>[]
 | .cons r rs,k=>xk r k ++ zZ rs (k + (xk r k).length)
end
def W5:Rw->Prop
 | .iff _ _ _=>False
 | _=>True
def CsAt(H:Hp)(v:V):Cs->Prop
 | .row r=>RwAt JW H v r/\W5 r
 | .skip e to=>∃p te,v=.ref p/\H p=aa (.tup [.str "skip",.ref te,.int (to:Nat)])/\H te=aa (.tup e)
 | .go en=>∃p,v=.ref p/\H p=aa (.tup [.str "go",.int (en:Nat)])
structure W6(n:Nat)(r:Rws):Prop where
 dp:r.deep < n
 ct:r.cnt<=500
 pl:qE r
def qP(n:Nat):Sp:=λvs H Q _=>∃(v:V) (e:List V) (a b:Rws) (k:Nat),vs=[v,.int k]/\RwAt JW H v (.iff e a b)/\W6 n a/\W6 n b/\k + (xk (.iff e a b) k).length<=500/\∀l xs H',Same H H'->H' l=aa (.lst xs)->Paired (CsAt H') xs (xk (.iff e a b) k)->Q (.ref l) H'
def xq(n:Nat):Sp:=λvs H Q _=>∃(v:V) (r:Rws) (k:Nat),vs=[v,.int k]/\RlAt JW H v r/\W6 n r/\k + (zZ r k).length<=500/\∀l xs H',Same H H'->H l=ah->H' l=aa (.lst xs)->Paired (CsAt H') xs (zZ r k)->Q (.ref l) H'
def Yh:Sp:=λvs H Q _=>∃(v:V) (r:Rws),vs=[v]/\RlAt JW H v r/\W6 6 r/\(zZ r 0).length<=500/\∀l xs H',Same H H'->H l=ah->H' l=aa (.lst xs)->Paired (CsAt H') xs (zZ r 0)->Q (.ref l) H'
structure RSt where
 n:Nat
 why:Option Str
 sl:List (Key × V)
 gi:List Row
 no:List Row
 sa:List Int
structure RAd where
 dx:ac
 co:ac
 sl:ac
 gi:ac
 no:ac
 sa:ac
def zg2:Option Str->V
 | none=>.non
 | some w=>.str w
def zg3(a:RAd)(s:RSt):List (Str × V):=[(bc "code",.ref a.co),(bc "at",.int s.n),(bc "why",zg2 s.why),(bc "slots",.ref a.sl),(bc "gifts",.ref a.gi),(bc "notes",.ref a.no),(bc "sayings",.ref a.sa)]
structure RnAt(t:Adr)(H:Hp)(x:ac)(a:RAd)(C:List Cs)(s:RSt):Prop where
 ix:H x=aa (.ins t.q00 a.dx (zg3 a s))
 hc:∃xs,H a.co=aa (.lst xs)/\Paired (CsAt H) xs C
 hs:H a.sl=aa (.dK s.sl)
 hg:H a.gi=aa (.dT (dOf s.gi))
 hn:H a.no=aa (.dT (dOf s.no))
 ha:H a.sa=aa (.lst (s.sa.map V.int))
 ng:a.gi≠a.no
 nc:a.co≠a.sa
def Ow(x:ac)(a:RAd)(b:ac):Prop:=b=x\/b=a.sl\/b=a.gi\/b=a.no\/b=a.sa
def OwA(x:ac)(a:RAd)(b:ac):Prop:=Ow x a b\/b=a.co
def Kp(x:ac)(a:RAd)(H H':Hp):Prop:=∀b o,¬ Ow x a b->H b=aa o->H' b=aa o
def Jn(x:ac)(H H':Hp):Prop:=∀b o,b≠x->H b=aa o->H' b=aa o
structure RnOk(m:Nat)(s:RSt):Prop where
 so:yV s.sl
 gw:∀r∈s.gi,inW r.2=af
 nw:∀r∈s.no,inW r.2=af
 l1:s.sl.length<=m
 l2:s.gi.length<=m
 l3:s.no.length<=m
 l4:s.sa.length<=m
 nd:(s.no.map (·.1)).Nodup
def J5:Cs->Prop
 | .row r=>qD r
 | .skip e _=>TermOk e
 | .go _=>True
def yp(C:List Cs)(s:RSt):Bool:=s.why.isSome || decide (C.length<=s.n)
def xt(p:Pl)(w:Int)(s:RSt):RSt:=if (zx s.gi p).isSome=af\/(zx s.no p).isSome=af then s else { s with no:=s.no ++ [(p,w)] }
def jG(p:Pl)(w:Int)(s:RSt):Int:=(zx s.gi p).getD ((zx s.no p).getD w)
def doR:Rw->Int->RSt->Except Er RSt
 | .take sh e x,w,s=>match rk s.sl e with
  | .error er=>.error er
  | .ok n=>.ok { xt (sh,n) w s with sl:=yC s.sl (.inr x) (.int (jG (sh,n) w s)) }
 | .give sh e f,_,s=>match rk s.sl e with
  | .error er=>.error er
  | .ok n=>match rk s.sl f with
   | .error er=>.error er
   | .ok i=>.ok { s with gi:=s.gi ++ [((sh,n),i)] }
 | .lt x e,_,s=>match rk s.sl e with
  | .error er=>.error er
  | .ok i=>.ok { s with sl:=yC s.sl (.inr x) (.int i) }
 | .say e,_,s=>match rk s.sl e with
  | .error er=>.error er
  | .ok i=>.ok { s with sa:=s.sa ++ [i] }
 | _,_,s=>.ok s
def xm:Cs->Int->RSt->Except Er (Nat × RSt)
 | .go k,_,s=>.ok (k,s)
 | .skip e to,_,s=>match rk s.sl e with
  | .error er=>.error er
  | .ok i=>.ok (if i=0 then to else s.n + 1,s)
 | .row (.off e),_,s=>match rk s.sl e with
  | .error er=>.error er
  | .ok i=>.ok (s.n + 1,if i=0 then s else { s with why:=aa (bc "told") })
 | .row r,w,s=>match doR r w s with
  | .error er=>.error er
  | .ok s'=>.ok (s.n + 1,s')
def yk(c:Cs)(w:Int)(s:RSt):RSt:=match xm c w s with
 | .ok (k,s')=>{ s' with n:=k }
 | .error er=>{ s with why:=aa (Qi er) }
def xU(C:List Cs)(w:Int)(s:RSt):RSt:=if yp C s=af then s else match C[s.n]? with
 | none=>s
 | some c=>yk c w s
def vy(c:Cs)(s:RSt):Option Pl:=match c with
 | .row (.take sh e _)=>match rk s.sl e with
  | .error _=>ah
  | .ok n=>if (zx s.gi (sh,n)).isSome=af\/(zx s.no (sh,n)).isSome=af then ah else aa (sh,n)
 | _=>ah
def jX(C:List Cs)(s:RSt):Option Pl:=if yp C s=af then ah else (C[s.n]?).bind λc=>vy c s
abbrev Qr(H:Hp)(v:V)(q:Row):Prop:=PrAt H v q
abbrev wL(H:Hp)(vs:List V)(rows:List Row):Prop:=Paired (PrAt H) vs rows
def LsAt(H:Hp)(a:ac)(rows:List Row):Prop:=∃xs,H a=aa (.lst xs)/\Paired (PrAt H) xs rows
def zhm(H:Hp)(v:V):Oc->Prop
 | .done sa=>∃o y,v=.ref o/\H o=aa (.tup [.str "done",.ref y])/\H y=aa (.tup (sa.map V.int))
 | .off w=>∃o,v=.ref o/\H o=aa (.tup [.str "off",.str w])
def zgm(s:RSt):Oc:=match s.why with
 | some w=>.off w
 | none=>.done s.sa
def qQ(s:RSt)(out:List Row):Prop:=match s.why with
 | some _=>out=[]
 | none=>Rising out/\∀p w,(p,w)∈out↔zx s.gi p=aa w
structure RnF(K:bx)(t:Adr):Prop where
 cl:Cls K t.q00
 n1:NoAttr K t.q00 "code"
 n2:NoAttr K t.q00 "at"
 n3:NoAttr K t.q00 "why"
 n4:NoAttr K t.q00 "slots"
 n5:NoAttr K t.q00 "gifts"
 n6:NoAttr K t.q00 "notes"
 n7:NoAttr K t.q00 "sayings"
def st0:RSt:=⟨0,ah,[],[],[],[]⟩
def qR(t:Adr):Sp:=λvs H Q _=>∃(x l dx:ac) (xs:List V) (C:List Cs),vs=[.ref x,.ref l]/\H x=aa (.ins t.q00 dx [])/\H l=aa (.lst xs)/\Paired (CsAt H) xs C/\∀H' a,Jn x H H'->RnAt t H' x a C st0->(∀b,OwA x a b->b=x\/H b=ah)->Q .non H'
def yQ(t:Adr):Sp:=λvs H Q _=>∃(x:ac) (a:RAd) (C:List Cs) (s:RSt),vs=[.ref x]/\RnAt t H x a C s/\∀H',Same H H'->Q (.bl (yp C s)) H'
def yi(t:Adr):Sp:=λvs H Q E=>∃(x tm:ac) (e:List V) (a:RAd) (C:List Cs) (s:RSt),vs=[.ref x,.ref tm]/\RnAt t H x a C s/\yV s.sl/\H tm=aa (.tup e)/\TermOk e/\∀H',Same H H'->fin t (rk s.sl e) Q E H'
def yO(t:Adr):Sp:=λvs H Q E=>∃(x p:ac) (xs:List V) (sh:Str) (te:ac) (e:List V) (a:RAd) (C:List Cs) (s:RSt),vs=[.ref x,.ref p]/\RnAt t H x a C s/\yV s.sl/\H p=aa (.tup xs)/\atI xs 1=aa (.str sh)/\atI xs 2=aa (.ref te)/\H te=aa (.tup e)/\TermOk e /\
 (∀i q H',rk s.sl e=.ok i->Same H H'->H' q=aa (.tup [.str sh,.int i])->Q (.ref q) H')/\∀er H',rk s.sl e=.error er->Same H H'->zdO t er E H'
def kN(t:Adr):Sp:=λvs H Q _=>∃(x q:ac) (p:Pl) (w:Int) (a:RAd) (C:List Cs) (s:RSt),vs=[.ref x,.ref q,.int w]/\RnAt t H x a C s/\H q=aa (.tup [.str p.1,.int p.2])/\s.no.length<=900/\∀H',Kp x a H H'->RnAt t H' x a C (xt p w s)->Q (.int (jG p w s)) H'
def qS(t:Adr):Sp:=λvs H Q E=>∃(x:ac) (v:V) (r:Rw) (w:Int) (m:Nat) (a:RAd) (C:List Cs) (s:RSt),vs=[.ref x,v,.int w]/\RnAt t H x a C s/\RwAt JW H v r/\Yg r/\qD r/\RnOk m s/\m<=900 /\
 (∀H' s',doR r w s=.ok s'->Kp x a H H'->RnAt t H' x a C s'->Q .non H')/\∀H' er,doR r w s=.error er->Same H H'->zdO t er E H'
def wR(t:Adr):Sp:=λvs H Q E=>∃(x:ac) (v:V) (c:Cs) (w:Int) (m:Nat) (a:RAd) (C:List Cs) (s:RSt),vs=[.ref x,v,.int w]/\RnAt t H x a C s/\CsAt H v c/\J5 c/\RnOk m s/\m<=900 /\
 (∀H' s' k,xm c w s=.ok (k,s')->Kp x a H H'->RnAt t H' x a C s'->Q (.int (k:Nat)) H')/\∀H' er,xm c w s=.error er->Same H H'->zdO t er E H'
def xX(t:Adr):Sp:=λvs H Q _=>∃(x:ac) (w:Int) (m:Nat) (a:RAd) (C:List Cs) (s:RSt),vs=[.ref x,.int w]/\RnAt t H x a C s/\(∀c∈C,J5 c)/\RnOk m s/\m<=900/\∀H',Kp x a H H'->RnAt t H' x a C (xU C w s)->Q .non H'
def js(t:Adr):Sp:=λvs H Q _=>∃(x:ac) (a:RAd) (C:List Cs) (s:RSt),vs=[.ref x]/\RnAt t H x a C s/\(∀c∈C,J5 c)/\yV s.sl/\(∀H',jX C s=ah->Same H H'->Q .non H')/\∀p q H',jX C s=aa p->Same H H'->H' q=aa (.tup [.str p.1,.int p.2])->Q (.ref q) H'
def ww(t:Adr):Sp:=λvs H Q _=>∃(x:ac) (a:RAd) (C:List Cs) (s:RSt),vs=[.ref x]/\RnAt t H x a C s/\s.no.length<=900/\(s.no.map (·.1)).Nodup/\s.gi.length<=63/\(∀H',yp C s=am->Same H H'->Q .non H') /\
 ∀r o nl gl out H',yp C s=af->Same H H'->H nl=ah->H gl=ah->nl≠gl->H' r=aa (.tup [o,.ref nl,.ref gl])->zhm H' o (zgm s)->LsAt H' nl s.no->LsAt H' gl out->qQ s out->Q (.ref r) H'
def wdJ(w:Str):Prop:=isJ (.str w)=af/\w.length<=1000/\cR w=af
def lfV(v:V):Prop:=(∃i,v=.int i/\inW i=af)\/∃x,v=.str x/\yI x=af
def okD(d:Int):Prop:=0<=d/\d < 1000000000000
def yB(K:bx):Sp:=λvs H Q _=>∃(a:ac) (ns:List Int) (k:Nat),vs=[.ref a,.int k]/\SqL K H a (ns.map V.int)/\ns.length<=63/\(∀i∈ns,Cb i)/\∀c H',Same H H'->Cb c->Q (.int c) H'
def xb:Sp:=λvs H Q _=>∃(c:Int) (m:Nat),vs=[.int c,.int m]/\m<=22/\∀(l:ac) (ds:List Int) (H':Hp),Same H H'->H l=ah->H' l=aa (.lst (ds.map V.int))->ds.length=m->(∀d∈ds,okD d)->Q (.ref l) H'
def YO(P:Nat->Bool)(x:Str):Prop:=x.cps.toList.all P=af
def smW(w:Str):Prop:=1<=w.length/\w.length<=6/\YO inL w
def ym:Sp:=λvs H Q _=>∃w,vs=[.str w]/\smW w/\∀x H',yI x=af->Same H H'->Q (.str x) H'
def vD:Sp:=λvs H Q _=>∃c,vs=[.int c]/\∀nm ws H',Same H H'->H nm=ah->NamesAt H' nm ws->ws.length=2->Q (.ref nm) H'
def yZ:Sp:=λvs H Q _=>∃n,vs=[.int n]/\0<=n/\n < 1000000000000/\∀w H',inW w=af->Same H H'->Q (.int w) H'
def kO:Sp:=λvs H Q _=>∃n a ws,vs=[.int n,.ref a]/\okD n/\NamesAt H a ws/\ws.length=2/\∀p e H',Same H H'->H p=ah->H' p=aa (.tup e)->TermOk e->tmP e->Q (.ref p) H'
def vE:Sp:=λvs H Q _=>∃n a ws,vs=[.int n,.ref a]/\okD n/\NamesAt H a ws/\ws.length=2/\∀p e H',Same H H'->H p=ah->H' p=aa (.tup e)->TermOk e->tmP e->Q (.ref p) H'
def jH:Sp:=λvs H Q _=>∃c a ws,vs=[.int c,.ref a]/\NamesAt H a ws/\ws.length=2/\∀l tab H',Same H H'->H l=ah->LsAt H' l tab->Rising tab->(∀r∈tab,cR r.1.1=af/\inW r.2=af/\r.2≠0)->tab.length<=5->Q (.ref l) H'
mutual
def szR:Rw->Nat
 | .iff _ a b=>qT a + qT b + 2
 | _=>1
def qT:Rws->Nat
 | .nil=>0
 | .cons r rs=>szR r + qT rs
end
def ze8:Cs->Prop
 | .row r=>WZ r
 | _=>True
structure W7(C:List Cs):Prop where
 ok:∀c∈C,J5 c
 pl:∀c∈C,ze8 c
 fw:∀(i to:Nat) (e:List V),C[i]?=aa (Cs.skip e to)->i < to
 fg:∀(i to:Nat),C[i]?=aa (Cs.go to)->i < to
 le:C.length<=40
structure RnI(C:List Cs)(m:Nat)(s:RSt):Prop where
 ok:RnOk m s
 ng:∀r∈s.gi,cR r.1.1=af
 nn:∀r∈s.no,cR r.1.1=af
 at_:s.why=ah->m<=s.n
 wy:∀w,s.why=aa w->cR w=af
def jt:Sp:=λvs H Q _=>∃a rows,vs=[.ref a]/\LsAt H a rows/\(dOf rows).length<=63/\rows.length<=1000/\∀l out H',Same H H'->H l=ah->LsAt H' l out->YH rows out->Q (.ref l) H'
def Zy:Sp:=λvs H Q _=>∃(l q:ac) (rows:List Row) (p:Pl),vs=[.ref l,.ref q]/\LsAt H l rows/\rows.length<=500/\H q=aa (.tup [.str p.1,.int p.2])/\∀H',Same H H'->Q (.int ((zx rows p).getD 0)) H'
def vj(rows:List Row)(p:Pl):Int:=(zx rows p).getD 0
def ZD(C:List Cs)(tb:Pl->Int)(s:RSt):Int:=match jX C s with
 | none=>0
 | some p=>tb p
def jh(C:List Cs)(tb:Pl->Int)(s:RSt):RSt:=xU C (ZD C tb s) s
def Xn(C:List Cs)(tb:Pl->Int):Nat->RSt->RSt
 | 0,s=>s
 | k + 1,s=>Xn C tb k (jh C tb s)
def kP:Sp:=λvs H Q _=>∃a b tab gifts,vs=[.ref a,.ref b]/\LsAt H a tab/\LsAt H b gifts/\(dOf (tab ++ gifts)).length<=63/\(tab ++ gifts).length<=1000/\∀l out H',Same H H'->H l=ah->LsAt H' l out->YH (tab ++ gifts) out->Q (.ref l) H'
noncomputable def giS(s:RSt):List Row:=@Classical.epsilon (List Row) ⟨[]⟩ (qQ s)
inductive AlkV (H:Hp):Nat->V->V->Prop
 | int {n:Nat} (i:Int):AlkV H (n + 1) (.int i) (.int i)
 | str {n:Nat} (x:Str):AlkV H (n + 1) (.str x) (.str x)
 | lst {n:Nat} {a b:ac} {xs ys:List V}:H a=aa (.lst xs)->H b=aa (.lst ys)->xs.length=ys.length->(∀(i:Nat) (x y:V),xs[i]?=aa x->ys[i]?=aa y->AlkV H n x y)->AlkV H (n + 1) (.ref a) (.ref b)
 | tup {n:Nat} {a b:ac} {xs ys:List V}:H a=aa (.tup xs)->H b=aa (.tup ys)->xs.length=ys.length->(∀(i:Nat) (x y:V),xs[i]?=aa x->ys[i]?=aa y->AlkV H n x y)->AlkV H (n + 1) (.ref a) (.ref b)
def yR(n:Nat):Sp:=λvs H Q _=>∃(v u:V),vs=[v,u]/\AlkV H n v u/\∀H',Same H H'->Q (.bl af) H'
structure rwW(r:Rw):Prop where
 nf:W5 r
 pl:WZ r
 ok:qD r
def qU:Sp:=λvs H Q _=>∃(p a b:ac) (ds:List Int) (us ws:List Str),vs=[.ref p,.ref a,.ref b]/\H p=aa (.lst (ds.map V.int))/\ds.length=3/\(∀d∈ds,okD d)/\NamesAt H a us/\us.length=2/\NamesAt H b ws/\ws.length=2/\∀v r H',Same H H'->RwAt (λb=>H b=ah) H' v r->rwW r->Q v H'
def Rws.of:List Rw->Rws
 | []=>.nil
 | r :: rs=>.cons r (Rws.of rs)
structure ze9(rs:List Rw):Prop where
 dp:(Rws.of rs).deep<=1
 pl:qE (Rws.of rs)
 ok:ZJ (Rws.of rs)
 sz:(rs.map λr=>match r with | .iff _ a b=>a.cnt + b.cnt + 3 | _=>1).sum<=11
def kQ:Sp:=λvs H Q _=>∃(c:Int) (a b:ac) (us ws:List Str),vs=[.int c,.ref a,.ref b]/\NamesAt H a us/\us.length=2/\NamesAt H b ws/\ws.length=2/\∀l rs H',Same H H'->RlAt (λb=>H b=ah) H' (.ref l) (Rws.of rs)->ze9 rs->Q (.ref l) H'
def Qs(p:Pl)(made:Int):List Row->Int × Int->Int × Int
 | [],s=>s
 | r :: rs,s=>Qs p made rs (if r.1=p then (made,r.2) else s)
def qg(p:Pl)(rank:Int):List (Int × List Row)->Int × Int->Int × Int
 | [],s=>s
 | l :: ls,s=>qg p rank ls (if s.1 < l.1/\l.1 < rank then Qs p l.1 l.2 s else s)
def v3(rows:List Row)(lays:List (Int × List Row))(p:Pl)(rank:Int):Int:=(qg p rank lays (-1,(zx rows p).getD 0)).2
structure Qt(gs:List Row):Prop where
 nd:(gs.map (·.1)).Nodup
 le:gs.length<=63
def X8(lays:List (Int × List Row))(p:Pl)(r:Int):Prop:=∃gs,(r,gs)∈lays/\p∈gs.map (·.1)
structure RkAt(H:Hp)(rk:ac)(F:ac->Prop)(P:Pl->Int->Prop)(kvs:List (List Key × V)):Prop where
 at_:H rk=aa (.dT kvs)
 nk:(kvs.map (·.1)).Nodup
 nv:(kvs.map (·.2)).Nodup
 ls:∀kv∈kvs,∃(p:Pl) (a:ac) (rs:List Int),kv=(zy p,.ref a)/\F a/\H a=aa (.lst (rs.map V.int))/\rs.Pairwise (· < ·)/\rs≠[]/\∀r,r∈rs↔P p r
 al:∀p r,P p r->zy p∈kvs.map (·.1)
def zfa(H:Hp)(rk:ac)(F:ac->Prop)(kv:Key × V)(y:Int × List Row):Prop:=kv.1=.inl y.1/\∃d,kv.2=.ref d/\F d/\d≠rk/\H d=aa (.dT (dOf y.2))
def Xo(gr:ac)(low:Int)(wo rk:ac):List (Str × V):=[(bc "ground",.ref gr),(bc "folded",.int low),(bc "worths",.ref wo),(bc "ranks",.ref rk)]
structure MrIn(t:Adr)(H:Hp)(m:ac)(F:ac->Prop)(g:List Row)(l:List (Int × List Row))(low:Int)(dx gr wo rk:ac)(wk:List (Key × V))(kk:List (List Key × V)):Prop where
 im:H m=aa (.ins t.q02 dx (Xo gr low wo rk))
 fg:F gr
 fw:F wo
 fk:F rk
 nr:gr≠rk
 hg:H gr=aa (.dT (dOf g))
 hw:H wo=aa (.dK wk)
 wp:Paired (zfa H rk F) wk l
 rr:RkAt H rk F (X8 l) kk
theorem RkAt.keep{H H':Hp}{rk:ac}{F F':ac->Prop}{P:Pl->Int->Prop}(h:RkAt H rk F P kvs)(fk:F rk)(k:∀b o,F b->H b=aa o->H' b=aa o)(ff:∀b,F b->F' b):RkAt H' rk F' P kvs:=
 ⟨k _ _ fk h.at_,h.nk,h.nv,λkv hk=>let ⟨p,a,rs,e,fa,ha,z⟩:=h.ls kv hk;⟨p,a,rs,e,ff a fa,k _ _ fa ha,z⟩,h.al⟩
theorem MrIn.keep{H H':Hp}{m:ac}{F:ac->Prop}{g:List Row}{l:List (Int × List Row)}{low:Int}{dx gr wo rk:ac}{wk:List (Key × V)}{kk:List (List Key × V)}(h:MrIn t H m F g l low dx gr wo rk wk kk)(me:F m)(k:∀b o,F b->H b=aa o->H' b=aa o):MrIn t H' m F g l low dx gr wo rk wk kk:=
 ⟨k _ _ me h.im,h.fg,h.fw,h.fk,h.nr,k _ _ h.fg h.hg,k _ _ h.fw h.hw,Paired.mapP h.wp λ_ _ ⟨e,d,e2,fd,nd,hd⟩=>⟨e,d,e2,fd,nd,k _ _ fd hd⟩,h.rr.keep h.fk k λ_ z=>z⟩
structure MrAt(t:Adr)(H:Hp)(m:ac)(F:ac->Prop)(g:List Row)(l:List (Int × List Row))(low:Int):Prop where
 own:∀b,F b->∃o,H b=aa o
 me:F m
 nd:(l.map (·.1)).Nodup
 ok:∀y∈l,0<=y.1/\Qt y.2
 ex:∃dx gr wo rk wk kk,MrIn t H m F g l low dx gr wo rk wk kk
theorem jY{gr wo rk:ac}{low:Int}(h:f≠bc "ground"/\f≠bc "folded"/\f≠bc "worths"/\f≠bc "ranks"):cU f (Xo gr low wo rk)=ah:=by
 obtain⟨h1,h2,h3,h4⟩:=h
 simp only[Xo,cq,beq_eq_false_iff_ne.mpr h1,beq_eq_false_iff_ne.mpr h2,beq_eq_false_iff_ne.mpr h3,beq_eq_false_iff_ne.mpr h4,List.lookup_nil]
theorem MrAt.ins{H:Hp}{F:ac->Prop}{l:List (Int × List Row)}{low:Int}(h:MrAt t H m F g l low):∃dx fs,H m=aa (.ins t.q02 dx fs)/\cU (bc "lay") fs=ah/\cU (bc "seen") fs=ah/\cU (bc "kept") fs=ah/\cU (bc "fold") fs=ah/\cU (bc "table_for") fs=ah:=by
 obtain⟨dx,gr,wo,rk,wk,kk,z⟩:=h.ex
 exact⟨dx,_,z.im,jY (by lia),jY (by lia),jY (by lia),jY (by lia),jY (by lia)⟩
theorem MrAt.keep{H H':Hp}{F:ac->Prop}{l:List (Int × List Row)}{low:Int}(h:MrAt t H m F g l low)(k:∀b o,F b->H b=aa o->H' b=aa o):MrAt t H' m F g l low:=
 ⟨λb hb=>let ⟨o,e⟩:=h.own b hb;⟨o,k b o hb e⟩,h.me,h.nd,h.ok,let ⟨dx,gr,wo,rk,wk,kk,z⟩:=h.ex;⟨dx,gr,wo,rk,wk,kk,z.keep h.me k⟩⟩
def MkAt(t:Adr)(H:Hp)(m:ac)(F:ac->Prop)(g:List Row)(l:List (Int × List Row)):Prop:=MrAt t H m F g l 0
theorem MkAt.own{H:Hp}{F:ac->Prop}{l:List (Int × List Row)}(h:MkAt t H m F g l):∀b,F b->∃o,H b=aa o:=MrAt.own h
theorem MkAt.me{H:Hp}{F:ac->Prop}{l:List (Int × List Row)}(h:MkAt t H m F g l):F m:=MrAt.me h
theorem MkAt.ins{H:Hp}{F:ac->Prop}{l:List (Int × List Row)}(h:MkAt t H m F g l):∃dx fs,H m=aa (.ins t.q02 dx fs)/\cU (bc "lay") fs=ah/\cU (bc "seen") fs=ah/\cU (bc "kept") fs=ah:=let ⟨dx,fs,a,b,c,d,_⟩:=MrAt.ins h;⟨dx,fs,a,b,c,d⟩
theorem MkAt.keep{H H':Hp}{F:ac->Prop}{l:List (Int × List Row)}(h:MkAt t H m F g l)(k:∀b o,F b->H b=aa o->H' b=aa o)(ts:∀b zs,H b=aa (.tup zs)->H' b=aa (.tup zs)):MkAt t H' m F g l:=MrAt.keep h k
theorem MkAt.same{H H':Hp}{F:ac->Prop}{l:List (Int × List Row)}(h:MkAt t H m F g l)(s:Same H H'):MkAt t H' m F g l:=h.keep (λb o _ e=>s b o e) λb zs e=>s b _ e
def zaW(lays:List (Int × List Row))(rank:Int)(gs:List Row):List (Int × List Row):=(lays.filter λy=>decide (y.1≠rank)) ++ [(rank,gs)]
theorem zdP{lays:List (Int × List Row)}{rank:Int}{gs:List Row}(h:rank ∉ lays.map (·.1)):zaW lays rank gs=lays ++ [(rank,gs)]:=by
 unfold zaW
 have e:(lays.filter λy=>decide (y.1≠rank))=lays:=lJ.mpr λy hy=>decide_eq_true λe=>h (bP.mpr ⟨y,hy,e⟩)
 rw[e]
def yh:Sp:=λvs H Q _=>∃(a:ac) (rs:List Int) (rank:Int),vs=[.ref a,.int rank]/\H a=aa (.lst (rs.map V.int))/\rs.Pairwise (· < ·)/\∀(k:Nat) H',Same H H'->k<=rs.length->(∀r∈rs.take k,r < rank)->(∀r∈rs.drop k,rank<=r)->Q (.int k) H'
def yw(t:Adr):Sp:=λvs H Q _=>∃(m dx:ac) (fs:List (Str × V)) (low rank:Int),vs=[.ref m,.int rank]/\H m=aa (.ins t.q02 dx fs)/\fs.lookup (bc "folded")=aa (.int low)/\low<=rank/\∀H',Same H H'->Q .non H'
def zfb(lays:List (Int × List Row))(rank:Int):List (Int × List Row):=lays.filter λy=>decide (y.1≠rank)
def KeepR(G:ac->Prop)(rk:ac)(H H':Hp):Prop:=∀b o,H b=aa o->b≠rk->((∀xs,o≠.lst xs)\/¬ G b)->H' b=aa o
def Dm(H H':Hp):Prop:=∀b o,H b=aa o->∃o',H' b=aa o'/\∀zs,o'=.tup zs->o=.tup zs
def vb:Sp:=λvs H Q _=>∃(rk pl:ac) (rank:Int) (G:ac->Prop) (P:Pl->Int->Prop) (kk:List (List Key × V)) (q0:Pl),vs=[.ref rk,.ref pl,.int rank]/\RkAt H rk G P kk/\G rk/\(∀b,H b=ah->G b)/\H pl=aa (.tup ((zy q0).map kV))/\¬ P q0 rank/\kk.length<=18900/\(∀rs:List Int,rs.Pairwise (· < ·)->(∀r∈rs,P q0 r)->rs.length<=300)/\∀H' kk',KeepR G rk H H'->Dm H H'->RkAt H' rk G (λp r=>P p r\/(r=rank/\p=q0)) kk'->Q .non H'
def vF:Sp:=λvs H Q _=>∃(rk pl:ac) (rank:Int) (G:ac->Prop) (P:Pl->Int->Prop) (kk:List (List Key × V)) (q0:Pl),vs=[.ref rk,.ref pl,.int rank]/\RkAt H rk G P kk/\G rk/\H pl=aa (.tup ((zy q0).map kV))/\P q0 rank/\∀H' kk',KeepR G rk H H'->Dm H H'->RkAt H' rk G (λp r=>P p r/\¬ (r=rank/\p=q0)) kk'->Q .non H'
def yJ(t:Adr):Sp:=λvs H Q _=>∃m rank F g lays low,vs=[.ref m,.int rank]/\MrAt t H m F g lays low/\∀l ys gs H',Same H H'->H l=ah->H' l=aa (.lst ys)->Paired (zgl H') ys (dOf gs)->((rank,gs)∈lays\/(rank ∉ lays.map (·.1)/\gs=[]))->Q (.ref l) H'
def y6(t:Adr):Sp:=λvs H Q _=>∃m rank F g lays low,vs=[.ref m,.int rank]/\MrAt t H m F g lays low/\rank ∉ lays.map (·.1)/\∀H' F',(∀b o,¬ F b->H b=aa o->H' b=aa o)->(∀b zs,H b=aa (.tup zs)->H' b=aa (.tup zs))->MrAt t H' m F' g (zfb lays rank) low->(∀b,F' b->F b\/H b=ah)->(∀b,F b->F' b)->Q .non H'
def jI(t:Adr):Sp:=λvs H Q _=>∃x h dx rows,vs=[.ref x,.ref h]/\H x=aa (.ins t.q02 dx [])/\LsAt H h rows/\rows.length<=63/\∀H' F,Jn x H H'->MkAt t H' x F rows []->(∀b,F b->b=x\/H b=ah)->Q .non H'
def YQ(t:Adr):Sp:=λvs H Q _=>∃m rank gv F g lays gs,vs=[.ref m,.int rank,.ref gv]/\MkAt t H m F g lays/\0<=rank/\LsAt H gv gs/\¬ F gv/\Qt gs/\lays.length<=200/\rank ∉ lays.map (·.1)/\∀H' F',(∀b o,¬ F b->H b=aa o->H' b=aa o)->(∀b zs,H b=aa (.tup zs)->H' b=aa (.tup zs))->MkAt t H' m F' g (zaW lays rank gs)->(∀b,F' b->F b\/H b=ah)->(∀b,F b->F' b)->Q .non H'
def jJ(t:Adr):Sp:=λvs H Q _=>∃m p rank F g lays q,vs=[.ref m,.ref p,.int rank]/\MkAt t H m F g lays/\0<=rank/\H p=aa (.tup [.str q.1,.int q.2])/\∀H',Same H H'->Q (.int (v3 g lays q rank)) H'
abbrev Tl:=Str × List Int × Option (Pl × Int)
def tlX(H:Hp)(xs:List V):Option (Pl × Int)->Prop
 | none=>xs=[]
 | some y=>∃q,xs=[.ref q,.int y.2]/\H q=aa (.tup [.str y.1.1,.int y.1.2])
def TlAt(H:Hp)(v:V)(x:Tl):Prop:=∃a xs,v=.ref a/\H a=aa (.tup (.str x.1 :: (x.2.1.map V.int ++ xs)))/\tlX H xs x.2.2
def tlW(w:Str)(r:Int):Tl:=(w,[0,r],ah)
def rsT:Tl:=("rest",[0],ah)
def qV(r:Int)(C:List Cs)(tb:Pl->Int)(s:RSt):Tl:=match jX C s with
 | none=>tlW "step" r
 | some p=>("read",[0,r],aa (p,tb p))
def Xp(r:Int)(C:List Cs)(tb:Pl->Int):Nat->RSt->List Tl
 | 0,_=>[]
 | m + 1,s=>if yp C s=af then [] else qV r C tb s :: Xp r C tb m (jh C tb s)
def zdQ(C:List Cs)(tb:Pl->Int):RSt:=Xn C tb C.length st0
noncomputable def J6(tb:Pl->Int)(C:List Cs)(p:Pl):Int:=(zx (giS (zdQ C tb)) p).getD (tb p)
noncomputable def qW:Int->(Pl->Int)->List (List Cs)->List Tl
 | _,_,[]=>[]
 | r,tb,C :: CC=>tlW "take" r :: (Xp r C tb C.length st0 ++ tlW "lay" r :: tlW "settle" r :: qW (r + 1) (J6 tb C) CC)
def CoAt(H:Hp)(v:V)(C:List Cs):Prop:=∃a ys,v=.ref a/\H a=aa (.lst ys)/\Paired (CsAt H) ys C
structure CosAt(H:Hp)(l:ac)(CC:List (List Cs)):Prop where
 at_:∃xs,H l=aa (.lst xs)/\Paired (CoAt H) xs CC
 ok:∀C∈CC,W7 C/\C.length<=11
 le:CC.length<=5
def qX:Sp:=λvs H Q _=>∃(cl tl:ac) (f:Int) (CC:List (List Cs)) (tab:List Row),vs=[.ref cl,.ref tl,.int f]/\CosAt H cl CC/\LsAt H tl tab/\tab.length<=5/\(∀r∈tab,inW r.2=af)/\∀l xs H',Same H H'->H l=ah->H' l=aa (.lst xs)->Paired (TlAt H') xs (qW f (vj tab) CC)->Q (.ref l) H'
structure DAd where
 dx:ac
 wy:ac
 dw:ac
 cl:ac
 wl:ac
 hd:ac
 mks:ac
 jb:ac
 dj:ac
 en:ac
 la:ac
 re:ac
 db:ac
def Yi(a:DAd)(f:Int):List (Str × V):=[(bc "hands",.int 1),(bc "way",.ref a.wy),(bc "first",.int f),(bc "codes",.ref a.cl),(bc "waiting",.ref a.wl),(bc "held",.ref a.hd),(bc "makes",.ref a.mks),(bc "jobs",.ref a.jb),(bc "ended",.ref a.en)]
def X9(m la re db:ac):List (Str × V):=[(bc "makes",.ref m),(bc "laid",.ref la),(bc "readers",.ref re),(bc "doubted",.ref db)]
def dkL(t:Adr)(d:ac)(a:DAd)(f:Int)(cs:List V)(ws:List Int)(kv la db:List (Key × V))(en:List V):List (ac × HO):=[(d,.ins t.q01 a.dx (Yi a f)),(a.wy,.ins t.q09 a.dw []),(a.jb,.ins t.q03 a.dj (X9 a.mks a.la a.re a.db)),(a.cl,.lst cs),(a.wl,.lst (ws.map V.int)),(a.hd,.dK kv),(a.la,.dK la),(a.db,.dK db),(a.en,.lst en)]
structure DkO(t:Adr)(H:Hp)(lb:ac->Nat)(L:List (ac × HO))(m re:ac)(g:List Row)(lays:List (Int × List Row))(P:Pl->Int->Prop)(cs:List V)(CC:List (List Cs)):Prop where
 ob:∀(i:Nat) b o,L[i]?=aa (b,o)->H b=aa o/\lb b=i + 1
 ms:MkAt t H m (λb=>lb b=10) g lays
 rr:∃kk,RkAt H re (λb=>lb b=11) P kk
 rl:lb re=11
 cc:Paired (λv C=>CoAt H v C/\∀c,v=.ref c->lb c=13) cs CC
 ow:∀b,lb b≠0->∃o,H b=aa o
structure Fr(H H':Hp)(lb lb':ac->Nat):Prop where
 ex:∀b o,H b=aa o->lb' b=lb b
 kp:∀b o,lb b=0\/lb b=14->H b=aa o->H' b=aa o
 ts:∀b zs,H b=aa (.tup zs)->H' b=aa (.tup zs)
 al:∀b o,H b=aa o->∃o',H' b=aa o'
def noP(_:Pl)(_:Int):Prop:=False
def ntP(r:Int)(no:List Row)(p:Pl)(i:Int):Prop:=i=r/\p∈no.map (·.1)
def PprAt(H:Hp)(lb:ac->Nat)(r:ac)(no gi:List Row):Prop:=∃o nl gl,H r=aa (.tup [o,.ref nl,.ref gl])/\LsAt H nl no/\LsAt H gl gi/\lb nl=14/\lb gl=14
structure zgn(no gi:List Row):Prop where
 nd:(no.map (·.1)).Nodup
 ng:(gi.map (·.1)).Nodup
 ln:no.length<=40
 lg:gi.length<=40
def jZ(f:Int)(k n:Nat):List Int:=(eG (n - k)).map λi:Nat=>f + (k:Int) + (i:Int)
structure LyOk(f:Int)(k:Nat)(g:List Row)(lays:List (Int × List Row))(tb:Pl->Int):Prop where
 f0:0<=f
 ln:lays.length=k
 lo:∀y∈lays,f<=y.1/\y.1 < f + k
 tl:∀p r,f + k<=r->v3 g lays p r=tb p
 iw:∀p,inW (tb p)=af
structure zgo(CC:List (List Cs)):Prop where
 ok:∀C∈CC,W7 C/\C.length<=11
 le:CC.length<=5
def zgp(t:Adr)(H:Hp)(d:ac)(a:DAd)(lb:ac->Nat)(f:Int)(CC:List (List Cs))(k:Nat)(tb:Pl->Int):Prop:=∃cs g lays en,DkO t H lb (dkL t d a f cs (jZ f k CC.length) [] [] [] en) a.mks a.re g lays noP cs CC/\LyOk f k g lays tb/\en.length=k/\k<=CC.length
def zg4(t:Adr)(H:Hp)(d:ac)(a:DAd)(lb:ac->Nat)(f:Int)(CC:List (List Cs))(k:Nat)(tb:Pl->Int)(C:List Cs)(s:RSt):Prop:=∃cs g lays en tp x ra,DkO t H lb (dkL t d a f cs (jZ f (k + 1) CC.length) [(.inl 0,.ref tp)] [] [] en) a.mks a.re g lays noP cs CC/\LyOk f k g lays tb/\en.length=k/\k < CC.length/\H tp=aa (.tup [.int (f + k),.ref x])/\RnAt t H x ra C s/\∀b,OwA x ra b->lb b=12
def zg5(t:Adr)(H:Hp)(d:ac)(a:DAd)(lb:ac->Nat)(f:Int)(CC:List (List Cs))(k:Nat)(tb tb':Pl->Int)(db:List (Key × V)):Prop:=∃cs g lays en r no gi,DkO t H lb (dkL t d a f cs (jZ f (k + 1) CC.length) [] [(.inl (f + k),.ref r)] db en) a.mks a.re g lays (ntP (f + k) no) cs CC/\LyOk f (k + 1) g lays tb'/\en.length=k/\k < CC.length/\PprAt H lb r no gi/\zgn no gi/\(∀y∈no,y.2=v3 g lays y.1 (f + k))
def dbK(r:Int):List (Key × V):=[(.inl r,.bl af)]
def DkI(t:Adr)(H:Hp)(d:ac)(a:DAd)(lb:ac->Nat)(f:Int)(CC:List (List Cs))(T:List Tl):Prop:=zgo CC/\∃(k:Nat) (tb:Pl->Int),(T=qW (f + k) tb (CC.drop k)/\zgp t H d a lb f CC k tb) \/
 (∃C m s,CC.drop k=C :: CC.drop (k + 1)/\T=Xp (f + k) C tb m s ++ tlW "lay" (f + k) :: tlW "settle" (f + k) :: qW (f + k + 1) (J6 tb C) (CC.drop (k + 1))/\(∃j,RnI C j s/\j + m=C.length/\Xn C tb j st0=s)/\zg4 t H d a lb f CC k tb C s) \/
 (∃tb',T=tlW "settle" (f + k) :: qW (f + k + 1) tb' (CC.drop (k + 1))/\zg5 t H d a lb f CC k tb tb' (dbK (f + k)))
structure DkF(K:bx)(t:Adr):Prop where
 cD:Cls K t.q01
 cJ:Cls K t.q03
 d1:NoAttr K t.q01 "hands"
 d2:NoAttr K t.q01 "way"
 d3:NoAttr K t.q01 "first"
 d4:NoAttr K t.q01 "codes"
 d5:NoAttr K t.q01 "waiting"
 d6:NoAttr K t.q01 "held"
 d7:NoAttr K t.q01 "makes"
 d8:NoAttr K t.q01 "jobs"
 d9:NoAttr K t.q01 "ended"
 j1:NoAttr K t.q03 "makes"
 j2:NoAttr K t.q03 "laid"
 j3:NoAttr K t.q03 "readers"
 j4:NoAttr K t.q03 "doubted"
def xG(t:Adr):Sp:=λvs H Q _=>∃m p rank F g lays q,vs=[.ref m,.ref p,.int rank]/\MkAt t H m F g lays/\H p=aa (.tup ((zy q).map kV))/\(∀y∈lays,y.1<=rank)/\∀H',Same H H'->Q .non H'
def kR(t:Adr):Sp:=λvs H Q _=>∃(x m dx:ac),vs=[.ref x,.ref m]/\H x=aa (.ins t.q03 dx [])/\∀H' la re db,Jn x H H'->H' x=aa (.ins t.q03 dx (X9 m la re db))->H' la=aa (.dK [])->H' re=aa (.dT [])->H' db=aa (.dK [])->H la=ah->H re=ah->H db=ah->la≠db->Q .non H'
def jK(t:Adr):Sp:=λvs H Q _=>∃(j dj m la re db p:ac) (rank:Int) (F G:ac->Prop) (g:List Row) (lays:List (Int × List Row)) (q:Pl) (kk:List (List Key × V)),vs=[.ref j,.ref p,.int rank]/\H j=aa (.ins t.q03 dj (X9 m la re db))/\MkAt t H m F g lays/\RkAt H re G noP kk/\H p=aa (.tup ((zy q).map kV))/\(∀y∈lays,y.1<=rank)/\∀H',Same H H'->Q .non H'
def wM(t:Adr):Sp:=λvs H Q _=>∃(d:ac) (a:DAd) (lb:ac->Nat) (f rank:Int) (cs:List V) (ws:List Int) (en:List V) (g:List Row) (lays:List (Int × List Row)) (CC:List (List Cs)) (r:ac) (no gi:List Row),vs=[.ref a.jb,.int rank,.ref r]/\DkO t H lb (dkL t d a f cs ws [] [] [] en) a.mks a.re g lays noP cs CC/\0<=rank/\(∀y∈lays,y.1 < rank)/\lays.length<=10/\PprAt H lb r no gi/\zgn no gi/\∀H' lb',Fr H H' lb lb'->DkO t H' lb' (dkL t d a f cs ws [] [(.inl rank,.ref r)] (dbK rank) en) a.mks a.re g (lays ++ [(rank,gi)]) (ntP rank no) cs CC->Q .non H'
def xu(t:Adr):Sp:=λvs H Q _=>∃(d:ac) (a:DAd) (lb:ac->Nat) (f rank:Int) (cs:List V) (ws:List Int) (db:List (Key × V)) (en:List V) (g:List Row) (lays:List (Int × List Row)) (CC:List (List Cs)) (r:ac) (no gi:List Row),vs=[.ref a.jb,.int rank]/\DkO t H lb (dkL t d a f cs ws [] [(.inl rank,.ref r)] db en) a.mks a.re g lays (ntP rank no) cs CC/\0<=rank/\PprAt H lb r no gi/\(∀y∈no,y.2=v3 g lays y.1 rank)/\∀H',Same H H'->Q .non H'
def y7(t:Adr):Sp:=λvs H Q _=>∃(d:ac) (a:DAd) (lb:ac->Nat) (f:Int) (cs:List V) (ws:List Int) (la db:List (Key × V)) (en:List V) (g:List Row) (lays:List (Int × List Row)) (P:Pl->Int->Prop) (CC:List (List Cs)),vs=[.ref a.jb]/\DkO t H lb (dkL t d a f cs ws [] la db en) a.mks a.re g lays P cs CC/\(db=[]\/∃rank r no gi,la=[(.inl rank,.ref r)]/\db=dbK rank/\P=ntP rank no/\0<=rank/\PprAt H lb r no gi/\∀y∈no,y.2=v3 g lays y.1 rank)/\∀H',Fr H H' lb lb->DkO t H' lb (dkL t d a f cs ws [] la [] en) a.mks a.re g lays P cs CC->Q .non H'
def xC(t:Adr):Sp:=λvs H Q _=>∃(d:ac) (a:DAd) (lb:ac->Nat) (f rank:Int) (cs:List V) (ws:List Int) (en:List V) (g:List Row) (lays:List (Int × List Row)) (CC:List (List Cs)) (r:ac) (no gi:List Row),vs=[.ref a.jb,.int rank]/\DkO t H lb (dkL t d a f cs ws [] [(.inl rank,.ref r)] [] en) a.mks a.re g lays (ntP rank no) cs CC/\PprAt H lb r no gi/\(no.map (·.1)).Nodup/\∀H' lb',Fr H H' lb lb'->DkO t H' lb' (dkL t d a f cs ws [] [] [] en) a.mks a.re g lays noP cs CC->Q (.ref r) H'
def wz(t:Adr):Sp:=λvs H Q _=>∃(x l w dx dw:ac) (f:Int) (g:List Row),vs=[.ref x,.ref l,.int 1,.ref w,.int f]/\H x=aa (.ins t.q01 dx [])/\LsAt H l g/\g.length<=63/\H w=aa (.ins t.q09 dw [])/\w≠x/\∀H' a lb,(∀b o,b≠x->H b=aa o->H' b=aa o)->(∀b o,b≠x->b≠w->H b=aa o->lb b=0)->DkO t H' lb (dkL t x a f [] [] [] [] [] []) a.mks a.re g [] noP [] []->Q .non H'
def xN(t:Adr):Sp:=λvs H Q _=>∃(d dx:ac) (a:DAd) (f:Int) (en:List V),vs=[.ref d]/\H d=aa (.ins t.q01 dx (Yi a f))/\H a.en=aa (.lst en)/\Q (.int (f + en.length)) H
def wA(t:Adr):Sp:=λvs H Q _=>∃(d dx:ac) (a:DAd) (f:Int) (cs:List V),vs=[.ref d]/\H d=aa (.ins t.q01 dx (Yi a f))/\H a.cl=aa (.lst cs)/\Q (.int (f + cs.length)) H
def qY(t:Adr):Sp:=λvs H Q _=>∃(d:ac) (v:V) (a:DAd) (lb:ac->Nat) (f:Int) (cs:List V) (ws:List Int) (g:List Row) (CC:List (List Cs)) (C:List Cs),vs=[.ref d,v]/\CoAt H v C/\DkO t H lb (dkL t d a f cs ws [] [] [] []) a.mks a.re g [] noP cs CC/\cs.length<=10/\ws.length<=10/\∀H' lb' cs',Fr H H' lb lb'->cs'.length=cs.length + 1->DkO t H' lb' (dkL t d a f cs' (ws ++ [f + cs.length]) [] [] [] []) a.mks a.re g [] noP cs' (CC ++ [C])->Q (.int (f + cs.length)) H'
def ZM:Sp:=λvs H Q _=>∃(x l:ac) (w:Int) (ws:List Int),vs=[.ref x,.ref l]/\H l=aa (.lst ((w :: ws).map V.int))/\Q (.int w) H
def wN(t:Adr):Sp:=λvs H Q _=>∃(d:ac) (a:DAd) (lb:ac->Nat) (f:Int) (CC:List (List Cs)) (k:Nat) (tb:Pl->Int) (C:List Cs),vs=[.ref d,.int 0]/\zgp t H d a lb f CC k tb/\CC[k]?=aa C/\CC.length<=5/\∀v H' lb',Fr H H' lb lb'->TlAt H' v (tlW "take" (f + k))->zg4 t H' d a lb' f CC k tb C st0->Q v H'
def yK(t:Adr):Sp:=λvs H Q _=>∃(d:ac) (a:DAd) (lb:ac->Nat) (f:Int) (CC:List (List Cs)) (T:List Tl) (k:Nat) (tb:Pl->Int),vs=[.ref d,.int 0]/\zgo CC/\((T=qW (f + k) tb (CC.drop k)/\zgp t H d a lb f CC k tb)\/∃tb',T=tlW "settle" (f + k) :: qW (f + k + 1) tb' (CC.drop (k + 1))/\zg5 t H d a lb f CC k tb tb' (dbK (f + k)))/\∀v H' lb',Fr H H' lb lb'->TlAt H' v (T.headD rsT)->DkI t H' d a lb' f CC T.tail->Q v H'
def wB(t:Adr):Sp:=λvs H Q _=>∃(d:ac) (a:DAd) (lb:ac->Nat) (f:Int) (CC:List (List Cs)) (T:List Tl),vs=[.ref d,.int 0]/\DkI t H d a lb f CC T/\∀v H' lb',Fr H H' lb lb'->TlAt H' v (T.headD rsT)->DkI t H' d a lb' f CC T.tail->Q v H'
def v4(t:Adr):Sp:=λvs H Q _=>∃(d:ac) (a:DAd) (lb:ac->Nat) (f:Int) (CC:List (List Cs)) (T:List Tl),vs=[.ref d]/\DkI t H d a lb f CC T/\T.length<=1000/\∀l xs H' lb',Fr H H' lb lb'->lb' l=0->H' l=aa (.lst xs)->Paired (TlAt H') xs T->DkI t H' d a lb' f CC []->Q (.ref l) H'
def sp_law(K:bx):Sp:=λvs H Q _=>∃(a:ac) (ns:List Int),vs=[.ref a]/\SqL K H a (ns.map V.int)/\ns.length<=63/\(∀i∈ns,Cb i)/\∀H',Q (.bl af) H'
def wC(K:bx)(t:Adr):TS:=(zo (zQ (zB (tOp (rIn K am) (zb 0) (yt (zc (tC (.str "take")) (zc (tC (.str "give")) (zc (tC (.str "let")) (zc (tC (.str "say")) (zc (tC (.str "off")) (zc (tC (.str "if")) (zc (tC (.str "else")) (zc (tC (.str "end")) (zc (tC (.str "as")) zi))))))))))))
   (zG (tOp WI (zb 0) (tC (.str "z"))))
   zH)
  (zo (zQ (zB (tOp (rIn K am) (zb 0) (yt (zc (tC (.str "plus")) (zc (tC (.str "minus")) (zc (tC (.str "times")) (zc (tC (.str "over")) (zc (tC (.str "rest")) (zc (tC (.str "under")) (zc (tC (.str "same")) zi))))))))))
    (zG (tOp WI (zb 0) (tC (.str "z"))))
    zH)
  (zG (zb 0))))
def ZN(K:bx)(t:Adr):TS:=(zo (zK (xo zi) (zp 2))
  (zo (zK (tOp (rI0 λi j=>.int (i + j)) (tOp (rI (λ_ j=>0 < j) λi j=>.int (i % j)) (zb 0) (tC (.int 1000003))) (tC (.int 17))) (zp 3))
  (zo (zK (tOp (rI0 λi j=>.int (i + j)) (tOp (rI (λ_ j=>0 < j) λi j=>.int (i % j)) (tOp (rI yG λi j=>.int (i / j)) (zb 0) (tC (.int 1000003))) (tC (.int 999983))) (tC (.int 29))) (zp 4))
  (zo (kj (Wy (zc (zb 1) zi)) (zp 5)
    (zo (zK (tOp (rI (λ_ j=>0 < j) λi j=>.int (i % j)) (tOp (rI0 λi j=>.int (i + j)) (tOp (rI0 λi j=>.int (i + j)) (tOp (rI CMulB λi j=>.int (i * j)) (zb 3) (zb 3)) (tOp (rI CMulB λi j=>.int (i * j)) (tC (.int 3)) (zb 4))) (zb 5)) (tC (.int 1000003))) (zp 3))
  (zo (zK (tOp (rI (λ_ j=>0 < j) λi j=>.int (i % j)) (tOp (rI0 λi j=>.int (i + j)) (tOp (rI0 λi j=>.int (i + j)) (tOp (rI CMulB λi j=>.int (i * j)) (zb 4) (zb 3)) (tOp (rI CMulB λi j=>.int (i * j)) (tC (.int 7)) (zb 3))) (tC (.int 11))) (tC (.int 999983))) (zp 4))
  (yb (tBM K "list" yf (zb 2) (zc (tOp (rI0 λi j=>.int (i + j)) (tOp (rI CMulB λi j=>.int (i * j)) (zb 3) (tC (.int 999983))) (zb 4)) zi))))))
  (zG (zb 2))))))
def v5(K:bx)(t:Adr):TS:=(zo (zQ (Jv (zB (tOp rEq (tOp (rI (λ_ j=>0 < j) λi j=>.int (i % j)) (tOp (rI yG λi j=>.int (i / j)) (zb 0) (tC (.int 900))) (tC (.int 3))) (tC (.int 0)))) (zB (tOp (rI0 λi j=>.bl (decide (i < j))) (tCB (xZ K) (zc (zb 3) zi)) (tC (.int 6)))))
   (zG (xo (zc (zb 3) (zc (zL ym [] E0 (zc (tOp WI (zb 3) (zb 5)) zi)) zi))))
   zH)
  (zo (zQ (Jv (zB (tOp rEq (tOp (rI (λ_ j=>0 < j) λi j=>.int (i % j)) (tOp (rI yG λi j=>.int (i / j)) (zb 0) (tC (.int 900))) (tC (.int 3))) (tC (.int 1)))) (zB (tOp (rI0 λi j=>.bl (decide (i < j))) (tCB (xZ K) (zc (zb 3) zi)) (tC (.int 6)))))
    (zG (xo (zc (zL ym [] E0 (zc (tOp WI (zb 5) (zb 3)) zi)) (zc (zb 3) zi))))
    zH)
  (zG (xo (zc (zb 3) (zc (zL ym [] E0 (zc (tOp WI (tOp WI (tSl zf8 (zb 3) Zr (ji (zb 4))) (zb 5)) (tSl zf8 (zb 3) (ji (tOp (rI0 λi j=>.int (i + j)) (zb 4) (tC (.int 1)))) Zr)) zi)) zi))))))
def v6(K:bx)(t:Adr):TS:=(zo (zK (tOp (rI (λ_ j=>0 < j) λi j=>.int (i % j)) (tOp (rI yG λi j=>.int (i / j)) (zb 0) (tC (.int 6))) (tCB (xZ K) (zc (zb 3) zi))) (zp 4))
  (zo (zK (tOp zbU (zb 1) (tOp (rI (λ_ j=>0 < j) λi j=>.int (i % j)) (tOp (rI0 λi j=>.int (i + j)) (tOp (rI0 λi j=>.int (i + j)) (tBM K "str" Xe (zb 1) (zc (tOp zbU (zb 3) (zb 4)) zi)) (tC (.int 1))) (tOp (rI (λ_ j=>0 < j) λi j=>.int (i % j)) (tOp (rI yG λi j=>.int (i / j)) (zb 0) (tC (.int 36))) (tC (.int 25)))) (tC (.int 26)))) (zp 5))
  (v5 K t)))
def qZ(K:bx)(t:Adr):TS:=(zo (zK (zL ym [] E0 (zc (zb 2) zi)) (zp 3))
  (v6 K t))
def kS(K:bx)(t:Adr):TS:=(zo (zK (tC (.str "abcdefghijklmnopqrstuvwxyz")) (zp 1))
  (zo (zK (tBM K "str" (Xf K) (tC (.str "")) (zc (qf (wV K (zL xb [] E0 (zc (zb 0) (zc (tOp (rI0 λi j=>.int (i + j)) (tC (.int 1)) (tOp (rI (λ_ j=>0 < j) λi j=>.int (i % j)) (zb 0) (tC (.int 6)))) zi)))) (zp 0) KS (tOp zbU (zb 1) (tOp (rI (λ_ j=>0 < j) λi j=>.int (i % j)) (zb 0) (tC (.int 26)))) 1 [1]) zi)) (zp 2))
  (qZ K t)))
def v7(K:bx)(t:Adr):TS:=(zo (zQ (zB (tOp rEq (tOp (rI (λ_ j=>0 < j) λi j=>.int (i % j)) (zb 0) (tC (.int 4))) (tC (.int 0))))
   (zG (tOp (rI0 λi j=>.int (i - j)) (tOp (rI (λ_ j=>0 < j) λi j=>.int (i % j)) (tOp (rI CMulB λi j=>.int (i * j)) (zb 0) (tOp (rI JA λi j=>.int (i ^ j.toNat)) (tC (.int 1000000007)) (tC (.int 3)))) (tOp (rI0 λi j=>.int (i + j)) (tOp (rI CMulB λi j=>.int (i * j)) (tC (.int 2)) (tOp (rI JA λi j=>.int (i ^ j.toNat)) (tC (.int 10)) (tC (.int 30)))) (tC (.int 1)))) (tOp (rI JA λi j=>.int (i ^ j.toNat)) (tC (.int 10)) (tC (.int 30)))))
   zH)
  (zG (tOp (rI0 λi j=>.int (i - j)) (tOp (rI (λ_ j=>0 < j) λi j=>.int (i % j)) (tOp (rI yG λi j=>.int (i / j)) (zb 0) (tC (.int 4))) (tC (.int 6))) (tC (.int 2)))))
def ZO(K:bx)(t:Adr):TS:=(zo (zK (zL xb [] E0 (zc (zb 0) (zc (tC (.int 10)) zi))) (zp 2))
  (zo (zK kt (zp 3))
  (zo (kj (Wy (zc (tOp (rI (λ_ j=>0 < j) λi j=>.int (i % j)) (zb 0) (tC (.int 6))) zi)) (zp 4)
    (zo (zK (zL yZ [] E0 (zc (tOp (yL K) (zb 2) (tOp (rI0 λi j=>.int (i + j)) (zb 4) (tC (.int 5)))) zi)) (zp 5))
  (zQ (zB (tOp rNe (zb 5) (tC (.int 0))))
   (jR (zb 3) (yt (zc (tOp (yL K) (zb 1) (tOp (rI (λ_ j=>0 < j) λi j=>.int (i % j)) (tOp (yL K) (zb 2) (zb 4)) (tC (.int 2)))) (zc (tOp (rI (λ_ j=>0 < j) λi j=>.int (i % j)) (tOp (rI yG λi j=>.int (i / j)) (tOp (yL K) (zb 2) (zb 4)) (tC (.int 2))) (tC (.int 3))) zi))) (zb 5))
   zH)))
  (zG (qf (wV K (tCB Qa (zc (zb 3) zi))) (zp 0) KS (yt (zc (zb 0) (zc (wX (zb 1) (zb 0)) zi))) 1 [3])))))
def jL(K:bx)(t:Adr):TS:=(zo (xK K (zb 0) (tCB YJ (zc (zb 1) zi)) "ground")
  (zo (xK K (zb 0) (tC (.int 0)) "folded")
  (zo (xK K (zb 0) Z2 "worths")
  (xK K (zb 0) kt "ranks"))))
def kT(K:bx)(t:Adr):TS:=(zo (xK K (zb 0) (zb 1) "makes")
  (zo (xK K (zb 0) Z2 "laid")
  (zo (xK K (zb 0) kt "readers")
  (xK K (zb 0) Z2 "doubted"))))
def kU(K:bx)(t:Adr):TS:=(zo (xK K (zb 0) (zb 2) "hands")
  (zo (xK K (zb 0) (zb 3) "way")
  (zo (xK K (zb 0) (zb 4) "first")
  (zo (xK K (zb 0) (xo zi) "codes")
  (zo (xK K (zb 0) (xo zi) "waiting")
  (zo (xK K (zb 0) Z2 "held")
  (zo (xK K (zb 0) (XI t.q02 (jI t) [] E0 (zc (zb 1) zi)) "makes")
  (zo (xK K (zb 0) (XI t.q03 (kR t) [] E0 (zc (zN K (zb 0) "makes") zi)) "jobs")
  (xK K (zb 0) (xo zi) "ended")))))))))
def q8(K:bx)(t:Adr):TS:=(zo (xK K (zb 0) (tCB (zc4 K) (zc (zb 1) zi)) "code")
  (zo (xK K (zb 0) (tC (.int 0)) "at")
  (zo (xK K (zb 0) (tC .non) "why")
  (zo (xK K (zb 0) Z2 "slots")
  (zo (xK K (zb 0) kt "gifts")
  (zo (xK K (zb 0) kt "notes")
  (xK K (zb 0) (xo zi) "sayings")))))))
def ju(K:bx)(t:Adr):TS:=(zo (zK (tCB YJ (zc (zb 0) zi)) (zp 1))
  (zG (qf (wV K (tCB Qa (zc (zb 1) zi))) (zp 0) (zB (tOp rNe (wX (zb 1) (zb 0)) (tC (.int 0)))) (yt (zc (zb 0) (zc (wX (zb 1) (zb 0)) zi))) 1 [1])))
def Yj(K:bx)(t:Adr):TS:=(zG (zL jt [] E0 (zc (tOp ZB (zb 0) (zb 1)) zi)))
def q9(K:bx)(t:Adr):TS:=(zG (zfU (tOp V7 (zN K (zb 0) "why") (tC .non)) (tOp (rI0 λi j=>.bl (decide (j<=i))) (zN K (zb 0) "at") (tCB (xZ K) (zc (zN K (zb 0) "code") zi)))))
def Yk(K:bx)(t:Adr)(E:XK):TS:=(zo (zQ (zB (tOp rEq (zb 2) (tC (.int 0))))
   (WL t.q06 (zc (KY (zb 0)) zi) E)
   zH)
  (zG (tIf (zB (tOp rEq (zb 0) (tC (.str "over")))) (tOp (rI zfF λi j=>.int (i.fdiv j)) (zb 1) (zb 2)) (tOp (rI (λ_ j=>j≠0) λi j=>.int (i.fmod j)) (zb 1) (zb 2)))))
def Yl(K:bx)(t:Adr)(E:XK):TS:=(zo (zQ (zB (tOp rEq (zb 0) (tC (.str "plus"))))
   (zG (tOp (rI0 λi j=>.int (i + j)) (zb 1) (zb 2)))
   zH)
  (zo (zQ (zB (tOp rEq (zb 0) (tC (.str "minus"))))
    (zG (tOp (rI0 λi j=>.int (i - j)) (zb 1) (zb 2)))
    zH)
  (zo (zQ (zB (tOp rEq (zb 0) (tC (.str "times"))))
    (zG (tOp (rI CMulB λi j=>.int (i * j)) (zb 1) (zb 2)))
    zH)
  (zo (zQ (zB (tOp rEq (zb 0) (tC (.str "under"))))
    (zG (tIf (zB (tOp (rI0 λi j=>.bl (decide (i < j))) (zb 1) (zb 2))) (tC (.int 1)) (tC (.int 0))))
    zH)
  (zo (zQ (zB (tOp rEq (zb 0) (tC (.str "same"))))
    (zG (tIf (zB (tOp rEq (zb 1) (zb 2))) (tC (.int 1)) (tC (.int 0))))
    zH)
  (zG (zL (kL t) [] E (zc (zb 0) (zc (zb 1) (zc (zb 2) zi))))))))))
def Za(K:bx)(t:Adr):TS:=(zo (zQ (tOr (Y8 (tB (tCB (qo K) (zc (zb 0) (zc (tC (.ty "int")) zi))))) (tB (tCB (qo K) (zc (zb 0) (zc (tC (.ty "bool")) zi)))))
   (zG (tC (.bl am)))
   zH)
  (zG (zam (rI0 λi j=>.bl (decide (i<=j))) (rI0 λi j=>.bl (decide (i<=j))) (tUn (rU λi=>.int (-i)) (tOp (rI JA λi j=>.int (i ^ j.toNat)) (tC (.int 10)) (tC (.int 30)))) (zb 0) (tOp (rI JA λi j=>.int (i ^ j.toNat)) (tC (.int 10)) (tC (.int 30))))))
def Xq(K:bx)(t:Adr)(E:XK):TS:=(zo (zK (zL (kM t) [] E (zc (zb 0) (zc (zb 1) (zc (zb 2) zi)))) (zp 3))
  (zo (zQ (Y8 (tB (zL qN [] E (zc (zb 3) zi))))
    (WL t.q07 (zc (KY (zb 0)) zi) E)
    zH)
  (zG (zb 3))))
def ZP(K:bx)(t:Adr)(E:XK):TS:=(zo (zK (zbV K "list" qA (zb 2)) (zp 4))
  (zo (zK (zbV K "list" qA (zb 2)) (zp 5))
  (yb (tBM K "list" yf (zb 2) (zc (zL (Zx t) [] E (zc (zb 3) (zc (zb 5) (zc (zb 4) zi)))) zi)))))
def ZQ(K:bx)(t:Adr)(E:XK):TS:=(yb (tBM K "list" yf (zb 2) (zc (tIf (tB (tCB (qo K) (zc (zb 3) (zc (tC (.ty "str")) zi)))) (xh (zb 1) (zb 3) (tC (.int 0))) (zb 3)) zi)))
def ZR(K:bx)(t:Adr)(E:XK):TS:=(zQ (zB (tOp (rIn K am) (zb 3) (tC (.ref t.q0v))))
   (ZP K t E)
   (ZQ K t E))
def Zb(K:bx)(t:Adr)(E:XK):TS:=(zo (zK (xo zi) (zp 2))
  (zo (kj (zfW K (zb 0)) (zp 3)
    (ZR K t E))
  (zG (zbV K "list" qA (zb 2)))))
def vm(K:bx)(t:Adr)(E:XK):TS:=(zG (zL (qO t) [] E (zc (zb 1) (zc (zN K (zb 0) "slots") zi))))
def vn(K:bx)(t:Adr)(E:XK):TS:=(zG (yt (zc (tOp (yS K) (zb 1) (tC (.int 1))) (zc (zO t.q00 "worth_of" (yi t) [] E (zb 0) (zc (tOp (yS K) (zb 1) (tC (.int 2))) zi)) zi))))
def Vx(K:bx)(t:Adr):TS:=(zo (zQ (tOr (zB (tOp (Vr am) (zb 1) (zN K (zb 0) "gifts"))) (zB (tOp (Vr am) (zb 1) (zN K (zb 0) "notes"))))
   (zG (tC .non))
   zH)
  (zG (zb 1)))
def Vy(K:bx)(t:Adr):TS:=(zo (zfI K (zfD (JV t.q00 "place_in" (yO t) (zb 0) (zc (tOp (yL K) (zN K (zb 0) "code") (zN K (zb 0) "at")) zi)) 1) t.q07 t.q06 (zG (tC .non)))
  (Vx K t))
def XR(K:bx)(t:Adr):TS:=(zo (zQ (tOr (tB (zO t.q00 "over" (yQ t) [] E0 (zb 0) zi)) (zB (tOp rNe (tOp (yS K) (tOp (yL K) (zN K (zb 0) "code") (zN K (zb 0) "at")) (tC (.int 0))) (tC (.str "take")))))
   (zG (tC .non))
   zH)
  (Vy K t))
def kW(K:bx)(t:Adr):TS:=(zo (zQ (zB (tOp (Vr am) (zb 1) (zN K (zb 0) "gifts")))
   (zG (wX (zN K (zb 0) "gifts") (zb 1)))
   zH)
  (zo (zQ (zB (tOp (Vr af) (zb 1) (zN K (zb 0) "notes")))
    (jR (zN K (zb 0) "notes") (zb 1) (zb 2))
    zH)
  (zG (wX (zN K (zb 0) "notes") (zb 1)))))
def Vz(K:bx)(t:Adr)(E:XK):TS:=(jR (zN K (zb 0) "slots") (tOp (yS K) (zb 1) (tC (.int 1))) (zO t.q00 "worth_of" (yi t) [] E (zb 0) (zc (tOp (yS K) (zb 1) (tC (.int 2))) zi)))
def ZS(K:bx)(t:Adr)(E:XK):TS:=(yb (tBM K "list" yf (zN K (zb 0) "sayings") (zc (zO t.q00 "worth_of" (yi t) [] E (zb 0) (zc (tOp (yS K) (zb 1) (tC (.int 1))) zi)) zi)))
def VA(K:bx)(t:Adr)(E:XK):TS:=(zo (zK (zO t.q00 "place_in" (yO t) [] E (zb 0) (zc (zb 1) zi)) (zp 3))
  (jR (zN K (zb 0) "gifts") (zb 3) (zO t.q00 "worth_of" (yi t) [] E (zb 0) (zc (tOp (yS K) (zb 1) (tC (.int 3))) zi))))
def VB(K:bx)(t:Adr)(E:XK):TS:=(jR (zN K (zb 0) "slots") (tOp (yS K) (zb 1) (tC (.int 3))) (zO t.q00 "taken" (kN t) [] E (zb 0) (zc (zO t.q00 "place_in" (yO t) [] E (zb 0) (zc (zb 1) zi)) (zc (zb 2) zi))))
def XS(K:bx)(t:Adr)(E:XK):TS:=(zQ (zB (tOp rEq (tOp (yS K) (zb 1) (tC (.int 0))) (tC (.str "take"))))
   (VB K t E)
   (zQ (zB (tOp rEq (tOp (yS K) (zb 1) (tC (.int 0))) (tC (.str "give"))))
   (VA K t E)
   (zQ (zB (tOp rEq (tOp (yS K) (zb 1) (tC (.int 0))) (tC (.str "let"))))
   (Vz K t E)
   (ZS K t E))))
def Wa(K:bx)(t:Adr)(E:XK):TS:=(zQ (zB (tOp rNe (zO t.q00 "worth_of" (yi t) [] E (zb 0) (zc (tOp (yS K) (zb 1) (tC (.int 1))) zi)) (tC (.int 0))))
   (xK K (zb 0) (tC (.str "told")) "why")
   zH)
def Wb(K:bx)(t:Adr)(E:XK):TS:=(yb (zO t.q00 "does" (qS t) [] E (zb 0) (zc (zb 1) (zc (zb 2) zi))))
def Wc(K:bx)(t:Adr)(E:XK):TS:=(zG (tIf (zB (tOp rEq (zO t.q00 "worth_of" (yi t) [] E (zb 0) (zc (tOp (yS K) (zb 1) (tC (.int 1))) zi)) (tC (.int 0)))) (tOp (yS K) (zb 1) (tC (.int 2))) (tOp (rI0 λi j=>.int (i + j)) (zN K (zb 0) "at") (tC (.int 1)))))
def Wd(K:bx)(t:Adr)(E:XK):TS:=(zo (zQ (zB (tOp rEq (tOp (yS K) (zb 1) (tC (.int 0))) (tC (.str "off"))))
   (Wa K t E)
   (Wb K t E))
  (zG (tOp (rI0 λi j=>.int (i + j)) (zN K (zb 0) "at") (tC (.int 1)))))
def We(K:bx)(t:Adr)(E:XK):TS:=(zo (zQ (zB (tOp rEq (tOp (yS K) (zb 1) (tC (.int 0))) (tC (.str "skip"))))
   (Wc K t E)
   zH)
  (Wd K t E))
def ZU(K:bx)(t:Adr)(E:XK):TS:=(zo (zQ (zB (tOp rEq (tOp (yS K) (zb 1) (tC (.int 0))) (tC (.str "go"))))
   (zG (tOp (yS K) (zb 1) (tC (.int 1))))
   zH)
  (We K t E))
def Zc(K:bx)(t:Adr):TS:=(zo (zQ (tB (zO t.q00 "over" (yQ t) [] E0 (zb 0) zi))
   zcy
   zH)
  (zaK K (zdK K (zb 0) (JV t.q00 "led_by" (wR t) (zb 0) (zc (tOp (yL K) (zN K (zb 0) "code") (zN K (zb 0) "at")) (zc (zb 1) zi))) "at") t.q07 (xK K (zb 0) (tC (.str "great")) "why") t.q06 (xK K (zb 0) (tC (.str "nought")) "why")))
def Zd(K:bx)(t:Adr):TS:=(zo (zQ (zB (tOp V7 (zN K (zb 0) "why") (tC .non)))
   (zG (yt (zc (yt (zc (tC (.str "off")) (zc (zN K (zb 0) "why") zi))) (zc (zb 1) (zc (xo zi) zi)))))
   zH)
  (zG (yt (zc (yt (zc (tC (.str "done")) (zc (tCB (zgW K) (zc (zN K (zb 0) "sayings") zi)) zi))) (zc (zb 1) (zc (tCB zdx (zc (JX (zN K (zb 0) "gifts")) zi)) zi))))))
def Ze(K:bx)(t:Adr):TS:=(zo (zK (tCB zds (zc (JX (zN K (zb 0) "notes")) zi)) (zp 1))
  (Zd K t))
def kX(K:bx)(t:Adr):TS:=(zo (zQ (Y8 (tB (zO t.q00 "over" (yQ t) [] E0 (zb 0) zi)))
   (zG (tC .non))
   zH)
  (Ze K t))
def Xr(K:bx)(t:Adr):TS:=(zG (xh (tCB YJ (zc (zb 0) zi)) (zb 1) (tC (.int 0))))
def XT(K:bx)(t:Adr):TS:=(zo (zK (xo zi) (zp 3))
  (zo (kj (Wy (zc (tCB (xZ K) (zc (zb 0) zi)) zi)) (zp 4)
    (zo (zK (tOp (rI0 λi j=>.int (i + j)) (zb 2) (zb 4)) (zp 5))
  (zo (zK (XI t.q00 (qR t) [] E0 (zc (tOp (yL K) (zb 0) (zb 4)) zi)) (zp 6))
  (zo (yb (tBM K "list" yf (zb 3) (zc (yt (zc (tC (.str "take")) (zc (tC (.int 0)) (zc (zb 5) zi)))) zi)))
  (zo (kj (Wy (zc (tCB (xZ K) (zc (tOp (yL K) (zb 0) (zb 4)) zi)) zi)) (zp 7)
    (zo (zQ (tB (zO t.q00 "over" (yQ t) [] E0 (zb 6) zi))
    zcw
    zH)
  (zo (zK (zO t.q00 "asks" (js t) [] E0 (zb 6) zi) (zp 8))
  (zQ (zB (tOp zeG (zb 8) (tC .non)))
   (zo (yb (tBM K "list" yf (zb 3) (zc (yt (zc (tC (.str "step")) (zc (tC (.int 0)) (zc (zb 5) zi)))) zi)))
  (yb (zO t.q00 "step" (xX t) [.int 0] E0 (zb 6) zi)))
   (zo (yb (tBM K "list" yf (zb 3) (zc (yt (zc (tC (.str "read")) (zc (tC (.int 0)) (zc (zb 5) (zc (zb 8) (zc (zL Zy [] E0 (zc (zb 1) (zc (zb 8) zi))) zi)))))) zi)))
  (yb (zO t.q00 "step" (xX t) [] E0 (zb 6) (zc (zL Zy [] E0 (zc (zb 1) (zc (zb 8) zi))) zi))))))))
  (zo (zK (tOp ZB (zb 3) (xo (zc (yt (zc (tC (.str "lay")) (zc (tC (.int 0)) (zc (zb 5) zi)))) (zc (yt (zc (tC (.str "settle")) (zc (tC (.int 0)) (zc (zb 5) zi)))) zi)))) (zp 3))
  (zK (zL kP [] E0 (zc (zb 1) (zc (tOp (yS K) (zO t.q00 "paper" (ww t) [] E0 (zb 6) zi) (tC (.int 2))) zi))) (zp 1))))))))
  (zG (zb 3))))
def vo(K:bx)(t:Adr):TS:=(zo (zQ (zB (tOp (rI0 λi j=>.bl (decide (i < j))) (zb 1) (tCB (xZ K) (zc (zb 0) zi))))
   (zG (tOp (yL K) (zb 0) (zb 1)))
   zH)
  (zG (tC (.int 0))))
def Xs(K:bx)(t:Adr)(n:Nat):TS:=(zG (tOp ZB (xo (zc (yt (zc (tC (.str "skip")) (zc (tOp (yS K) (zb 0) (tC (.int 1))) (zc (zb 3) zi)))) zi)) (zb 2)))
def Xt(K:bx)(t:Adr)(n:Nat):TS:=(zo (zK (zL (xq  n) [] E0 (zc (tOp (yS K) (zb 0) (tC (.int 3))) (zc (tOp (rI0 λi j=>.int (i + j)) (zb 3) (tC (.int 1))) zi))) (zp 4))
  (zG (tOp ZB (tOp ZB (tOp ZB (xo (zc (yt (zc (tC (.str "skip")) (zc (tOp (yS K) (zb 0) (tC (.int 1))) (zc (tOp (rI0 λi j=>.int (i + j)) (zb 3) (tC (.int 1))) zi)))) zi)) (zb 2)) (xo (zc (yt (zc (tC (.str "go")) (zc (tOp (rI0 λi j=>.int (i + j)) (tOp (rI0 λi j=>.int (i + j)) (zb 3) (tC (.int 1))) (tCB (xZ K) (zc (zb 4) zi))) zi))) zi))) (zb 4))))
def j6(K:bx)(t:Adr)(n:Nat):TS:=(zo (zQ (zB (tOp (JP K) (tOp (yS K) (zb 0) (tC (.int 3))) (xo zi)))
   (Xs K t n)
   zH)
  (Xt K t n))
def Zf(K:bx)(t:Adr)(n:Nat):TS:=(zo (zK (zL (xq  n) [] E0 (zc (tOp (yS K) (zb 0) (tC (.int 2))) (zc (tOp (rI0 λi j=>.int (i + j)) (zb 1) (tC (.int 1))) zi))) (zp 2))
  (zo (zK (tOp (rI0 λi j=>.int (i + j)) (tOp (rI0 λi j=>.int (i + j)) (zb 1) (tC (.int 1))) (tCB (xZ K) (zc (zb 2) zi))) (zp 3))
  (j6 K t n)))
def XU(K:bx)(t:Adr)(n:Nat):TS:=(zo (zK (xo zi) (zp 2))
  (zo (kj (wV K (zb 0)) (zp 3)
    (zQ (zB (tOp rEq (tOp (yS K) (zb 3) (tC (.int 0))) (tC (.str "if"))))
    (yb (tBM K "list" Ql (zb 2) (zc (zL (qP  n) [] E0 (zc (zb 3) (zc (tOp (rI0 λi j=>.int (i + j)) (zb 1) (tCB (xZ K) (zc (zb 2) zi))) zi))) zi)))
    (yb (tBM K "list" yf (zb 2) (zc (zb 3) zi)))))
  (zG (zb 2))))
def Ym(K:bx)(t:Adr):TS:=(zG (zL (xq  6) [] E0 (zc (zb 0) (zc (tC (.int 0)) zi))))
def xQ(K:bx)(t:Adr):TS:=(zQ (zB (tOp (rI0 λi j=>.bl (decide (i < j))) (zb 1) (zN K (zb 0) "folded")))
   Wx
   zH)
def jM(K:bx)(t:Adr):TS:=(zo (zK (tC (.int 0)) (zp 2))
  (zo (zK (tCB (xZ K) (zc (zb 0) zi)) (zp 3))
  (zo (Jz (zB (tOp (rI0 λi j=>.bl (decide (i < j))) (zb 2) (zb 3))) (zo (zK (tOp (rI yG λi j=>.int (i / j)) (tOp (rI0 λi j=>.int (i + j)) (zb 2) (zb 3)) (tC (.int 2))) (zp 4))
  (zQ (zB (tOp (rI0 λi j=>.bl (decide (i < j))) (tOp (yL K) (zb 0) (zb 4)) (zb 1)))
   (zK (tOp (rI0 λi j=>.int (i + j)) (zb 4) (tC (.int 1))) (zp 2))
   (zK (zb 4) (zp 3)))))
  (zG (zb 2)))))
def wS(K:bx)(t:Adr):TS:=(zo (yb (zO t.q02 "heed_fold" (yw t) [] E0 (zb 0) (zc (zb 2) zi)))
  (zo (zK (xh (zN K (zb 0) "ranks") (zb 1) (xo zi)) (zp 3))
  (zo (zK (zL yh [] E0 (zc (zb 3) (zc (zb 2) zi))) (zp 4))
  (zo (zQ (zB (tOp rEq (zb 4) (tC (.int 0))))
    (zG (xh (zN K (zb 0) "ground") (zb 1) (tC (.int 0))))
    zH)
  (zG (wX (wX (zN K (zb 0) "worths") (tOp (yL K) (zb 3) (tOp (rI0 λi j=>.int (i - j)) (zb 4) (tC (.int 1))))) (zb 1)))))))
def qh(K:bx)(t:Adr):TS:=(zG (tOp (rI0 λi j=>.int (i + j)) (zN K (zb 0) "first") (tCB (xZ K) (zc (zN K (zb 0) "ended") zi))))
def vc(K:bx)(t:Adr):TS:=(zo (kj (wV K (tOp (yS K) (wX (zN K (zb 0) "laid") (zb 1)) (tC (.int 1)))) (zcA K 2 (Yv (zp 2) (Yv (zp 3) zcz)))
   (zo (zK (zO t.q02 "seen" (jJ t) [] E0 (zN K (zb 0) "makes") (zc (zb 2) (zc (zb 1) zi))) (zp 4))
  (zQ (zB (tOp rNe (zb 4) (zb 3)))
   (zG (yt (zc (zb 2) (zc (zb 3) (zc (zb 4) zi)))))
   zH)))
  (zG (tC .non)))
def wD(K:bx)(t:Adr):TS:=(zo (zK (tCB zfJ (zc (zN K (zb 0) "doubted") zi)) (zp 1))
  (zo (kj (wV K (zb 1)) (zp 2)
    (zo (zK (zO t.q03 "changed_note" (xu t) [] E0 (zb 0) (zc (zb 2) zi)) (zp 3))
  (zo (zQ (zB (tOp V7 (zb 3) (tC .non)))
    (zG (tOp (zcI K) (yt (zc (zb 2) zi)) (zb 3)))
    zH)
  (yb (JH (zN K (zb 0) "doubted") (zb 2))))))
  (zG (tC .non))))
def kY(K:bx)(t:Adr):TS:=(zo (zK (wX (zb 0) (zb 1)) (zp 3))
  (zo (yb (tBM K "list" jp (zb 3) (zc (zb 2) zi)))
  (zQ (zB (tOp (JP K) (zb 3) (xo zi)))
   (yb (zaP (zb 0) (zb 1)))
   zH)))
def j7(K:bx)(t:Adr):TS:=(zo (zK (JH (zN K (zb 0) "laid") (zb 1)) (zp 2))
  (zo (yb (zaw (zN K (zb 0) "doubted") (zb 1) (tC .non)))
  (zo (kj (wV K (tOp (yS K) (zb 2) (tC (.int 1)))) (zcA K 2 (Yv (zp 3) (Yv (zp 4) zcz)))
    (yb (zL vF [] E0 (zc (zN K (zb 0) "readers") (zc (zb 3) (zc (zb 1) zi))))))
  (zG (zb 2)))))
def ZV(K:bx)(t:Adr):TS:=(zG (tOp (yL K) (zb 1) (tC (.int 0))))
def j8(K:bx)(t:Adr):TS:=(zo (zK (zO t.q09 "chosen" ZM [] E0 (zN K (zb 0) "way") (zc (tCB (zc4 K) (zc (zN K (zb 0) "waiting") zi)) zi)) (zp 2))
  (zo (yb (tBM K "list" jp (zN K (zb 0) "waiting") (zc (zb 2) zi)))
  (zo (jR (zN K (zb 0) "held") (zb 1) (yt (zc (zb 2) (zc (XI t.q00 (qR t) [] E0 (zc (tOp (yL K) (zN K (zb 0) "codes") (tOp (rI0 λi j=>.int (i - j)) (zb 2) (zN K (zb 0) "first"))) zi)) zi))))
  (zG (yt (zc (tC (.str "take")) (zc (zb 1) (zc (zb 2) zi))))))))
def v9(K:bx)(t:Adr):TS:=(zo (zK (zO t.q01 "settled" (xN t) [] E0 (zb 0) zi) (zp 2))
  (zo (zK (zO t.q03 "lowest_changed" (y7 t) [] E0 (zN K (zb 0) "jobs") zi) (zp 3))
  (zo (zQ (Jv (zB (tOp (Vr am) (zb 2) (zN K (zN K (zb 0) "jobs") "laid"))) (tOr (zB (tOp zeG (zb 3) (tC .non))) (zB (tOp rNe (tOp (yS K) (zb 3) (tC (.int 0))) (zb 2)))))
    (zo (yb (tBM K "list" yf (zN K (zb 0) "ended") (zc (zO t.q03 "take_off" (xC t) [] E0 (zN K (zb 0) "jobs") (zc (zb 2) zi)) zi)))
  (zG (yt (zc (tC (.str "settle")) (zc (zb 1) (zc (zb 2) zi))))))
   zH)
  (zo (zQ (zB (tOp V7 (zb 3) (tC .non)))
    (zo (yb (zO t.q03 "take_off" (xC t) [] E0 (zN K (zb 0) "jobs") (zc (tOp (yS K) (zb 3) (tC (.int 0))) zi)))
  (zo (yb (tBM K "list" jo (zN K (zb 0) "waiting") (zc (zL yh [] E0 (zc (zN K (zb 0) "waiting") (zc (tOp (yS K) (zb 3) (tC (.int 0))) zi))) (zc (tOp (yS K) (zb 3) (tC (.int 0))) zi))))
  (zG (tOp (zcI K) (yt (zc (tC (.str "again")) (zc (zb 1) zi))) (zb 3)))))
   zH)
  (zo (zQ (zB (tOp (zdC K) (zN K (zb 0) "waiting") (xo zi)))
    (zG (zO t.q01 "taken_up" (wN t) [] E0 (zb 0) (zc (zb 1) zi)))
    zH)
  (zG (yt (zc (tC (.str "rest")) (zc (zb 1) zi)))))))))
def xR(K:bx)(t:Adr):TS:=(zG (tCB zdJ (zc (xh (zN K (zb 0) "worths") (zb 1) kt) zi)))
def Zg(K:bx)(t:Adr):TS:=(kj (wV K (zb 2)) (zp 3)
   (yb (zL vF [] E0 (zc (zN K (zb 0) "ranks") (zc (zb 3) (zc (zb 1) zi))))))
def ja(K:bx)(t:Adr):TS:=(zo (zK (zO t.q02 "places_of" (yJ t) [] E0 (zb 0) (zc (zb 1) zi)) (zp 2))
  (zo (yb (zaw (zN K (zb 0) "worths") (zb 1) (tC .non)))
  (Zg K t)))
def Zh(K:bx)(t:Adr):TS:=(zo (zK (zaQ (zb 0) (zb 1) (xo zi)) (zp 3))
  (yb (tBM K "list" jo (zb 3) (zc (zL yh [] E0 (zc (zb 3) (zc (zb 2) zi))) (zc (zb 2) zi)))))
def jd(K:bx)(t:Adr):TS:=(jR (zN K (zb 0) "worths") (zb 1) (zb 3))
def je(K:bx)(t:Adr):TS:=(zo (zgd (kj (iDT (zb 3)) (zp 4)
   (yb (zL vb [] E0 (zc (zN K (zb 0) "ranks") (zc (zb 4) (zc (zb 1) zi)))))))
  (jd K t))
def vG(K:bx)(t:Adr):TS:=(zo (yb (zO t.q02 "heed_fold" (yw t) [] E0 (zb 0) (zc (zb 1) zi)))
  (zo (yb (zO t.q02 "take_away" (y6 t) [] E0 (zb 0) (zc (zb 1) zi)))
  (zo (zK (tCB YJ (zc (zb 2) zi)) (zp 3))
  (je K t))))
def xH(K:bx)(t:Adr):TS:=(zo (zK (xh (zN K (zb 0) "ranks") (zb 1) (xo zi)) (zp 3))
  (zo (zK (zL yh [] E0 (zc (zb 3) (zc (tOp (rI0 λi j=>.int (i + j)) (zb 2) (tC (.int 1))) zi))) (zp 4))
  (zG (tIf (zB (tOp rEq (zb 4) (tCB (xZ K) (zc (zb 3) zi)))) (tC .non) (tOp (yL K) (zb 3) (zb 4))))))
def ZW(K:bx)(t:Adr):TS:=(zo (zK (xh (zN K (zb 0) "readers") (zb 1) (xo zi)) (zp 3))
  (zo (zK (zO t.q02 "next_above" (xG t) [] E0 (zN K (zb 0) "makes") (zc (zb 1) (zc (zb 2) zi))) (zp 4))
  (zo (zK (tIf (zB (tOp zeG (zb 4) (tC .non))) (tCB (xZ K) (zc (zb 3) zi)) (zL yh [] E0 (zc (zb 3) (zc (tOp (rI0 λi j=>.int (i + j)) (zb 4) (tC (.int 1))) zi)))) (zp 5))
  (kj (wV K (tSl (KH K) (zb 3) (ji (zL yh [] E0 (zc (zb 3) (zc (tOp (rI0 λi j=>.int (i + j)) (zb 2) (tC (.int 1))) zi)))) (ji (zb 5)))) (zp 6)
    (jR (zN K (zb 0) "doubted") (zb 6) (tC (.bl af)))))))
def j9(K:bx)(t:Adr):TS:=(zo (zK (zO t.q02 "places_of" (yJ t) [] E0 (zN K (zb 0) "makes") (zc (zb 1) zi)) (zp 3))
  (zo (yb (zO t.q02 "lay" (YQ t) [] E0 (zN K (zb 0) "makes") (zc (zb 1) (zc (tOp (yS K) (zb 2) (tC (.int 2))) zi))))
  (zo (kj (wV K (tOp ZB (zb 3) (zO t.q02 "places_of" (yJ t) [] E0 (zN K (zb 0) "makes") (zc (zb 1) zi)))) (zp 4)
    (yb (zO t.q03 "doubt" (jK t) [] E0 (zb 0) (zc (zb 4) (zc (zb 1) zi)))))
  (zo (jR (zN K (zb 0) "laid") (zb 1) (zb 2))
  (zo (jR (zN K (zb 0) "doubted") (zb 1) (tC (.bl af)))
  (kj (wV K (tOp (yS K) (zb 2) (tC (.int 1)))) (zcA K 2 (Yv (zp 4) (Yv (zp 5) zcz)))
    (yb (zL vb [] E0 (zc (zN K (zb 0) "readers") (zc (zb 4) (zc (zb 1) zi)))))))))))
def kZ(K:bx)(t:Adr):TS:=(zo (zQ (tOr (zB (tOp (rI0 λi j=>.bl (decide (i < j))) (zb 1) (tC (.int 0)))) (zB (tOp (rI0 λi j=>.bl (decide (j<=i))) (zb 1) (zN K (zb 0) "hands"))))
   Wx
   zH)
  (zo (zQ (zB (tOp (Vr af) (zb 1) (zN K (zb 0) "held")))
    (zG (zO t.q01 "moved_free" (yK t) [] E0 (zb 0) (zc (zb 1) zi)))
    zH)
  (zo (zK (tOp (yS K) (wX (zN K (zb 0) "held") (zb 1)) (tC (.int 0))) (zp 2))
  (zo (zK (tOp (yS K) (wX (zN K (zb 0) "held") (zb 1)) (tC (.int 1))) (zp 3))
  (zo (zQ (tB (zO t.q00 "over" (yQ t) [] E0 (zb 3) zi))
    (zo (yb (JH (zN K (zb 0) "held") (zb 1)))
  (zo (yb (zO t.q03 "lay_down" (wM t) [] E0 (zN K (zb 0) "jobs") (zc (zb 2) (zc (zO t.q00 "paper" (ww t) [] E0 (zb 3) zi) zi))))
  (zG (yt (zc (tC (.str "lay")) (zc (zb 1) (zc (zb 2) zi)))))))
   zH)
  (zo (zK (zO t.q00 "asks" (js t) [] E0 (zb 3) zi) (zp 4))
  (zo (zQ (zB (tOp zeG (zb 4) (tC .non)))
    (zo (yb (zO t.q00 "step" (xX t) [.int 0] E0 (zb 3) zi))
  (zG (yt (zc (tC (.str "step")) (zc (zb 1) (zc (zb 2) zi))))))
   zH)
  (zo (zK (zO t.q02 "seen" (jJ t) [] E0 (zN K (zb 0) "makes") (zc (zb 4) (zc (zb 2) zi))) (zp 5))
  (zo (yb (zO t.q00 "step" (xX t) [] E0 (zb 3) (zc (zb 5) zi)))
  (zG (yt (zc (tC (.str "read")) (zc (zb 1) (zc (zb 2) (zc (zb 4) (zc (zb 5) zi))))))))))))))))
def jv(K:bx)(t:Adr):TS:=(zG (tOp (rI0 λi j=>.int (i + j)) (zN K (zb 0) "first") (tCB (xZ K) (zc (zN K (zb 0) "codes") zi))))
def Zi(K:bx)(t:Adr):TS:=(zo (zK (xo zi) (zp 1))
  (zo (Jz (zB (tOp (rI0 λi j=>.bl (decide (i < j))) (zO t.q01 "settled" (xN t) [] E0 (zb 0) zi) (zO t.q01 "next_rank" (wA t) [] E0 (zb 0) zi))) (yb (tBM K "list" yf (zb 1) (zc (zO t.q01 "move" (wB t) [] E0 (zb 0) (zc (tOp (rI (λ_ j=>0 < j) λi j=>.int (i % j)) (tCB (xZ K) (zc (zb 1) zi)) (zN K (zb 0) "hands")) zi)) zi))))
  (zG (zb 1))))
def jN(K:bx)(t:Adr)(n:Nat):TS:=(zo (zQ (tOr (tB (tCB (qo K) (zc (zb 1) (zc (tC (.ty "list")) zi)))) (tB (tCB (qo K) (zc (zb 1) (zc (tC (.ty "tuple")) zi)))))
   (zo (zQ (Jv (Y8 (tB (tCB (qo K) (zc (zb 0) (zc (tC (.ty "list")) zi))))) (Y8 (tB (tCB (qo K) (zc (zb 0) (zc (tC (.ty "tuple")) zi))))))
   (zG (tC (.bl am)))
   zH)
  (zo (zQ (tOr (zB (tOp rNe (tCB (qo K) (zc (zb 0) (zc (tC (.ty "list")) zi))) (tCB (qo K) (zc (zb 1) (zc (tC (.ty "list")) zi))))) (zB (tOp rNe (tCB (xZ K) (zc (zb 0) zi)) (tCB (xZ K) (zc (zb 1) zi)))))
    (zG (tC (.bl am)))
    zH)
  (zo (kj (zfH K (zc (zb 0) (zc (zb 1) zi))) (zcA K 2 (Yv (zp 2) (Yv (zp 3) zcz)))
    (zQ (Y8 (tB (zL (yR  n) [] E0 (zc (zb 2) (zc (zb 3) zi)))))
    (zG (tC (.bl am)))
    zH))
  (zG (tC (.bl af))))))
   zH)
  (zo (zQ (tB (tCB (qo K) (zc (zb 1) (zc (tC (.ty "str")) zi))))
    (zG (Kz (tCB (qo K) (zc (zb 0) (zc (tC (.ty "str")) zi))) (tOp rEq (zb 0) (zb 1))))
    zH)
  (zG (Kz (tCB (qo K) (zc (zb 0) (zc (tC (.ty "int")) zi))) (Kz (zfx (tCB (qo K) (zc (zb 0) (zc (tC (.ty "bool")) zi)))) (tOp rEq (zb 0) (zb 1)))))))
def k8(K:bx)(t:Adr):TS:=(zo (zK (tOp (rI (λ_ j=>0 < j) λi j=>.int (i % j)) (zb 0) (tC (.int 5))) (zp 2))
  (zo (zQ (zB (tOp (rI0 λi j=>.bl (decide (i < j))) (zb 2) (tC (.int 2))))
    (zG (yt (zc (tOp (rI (λ_ j=>0 < j) λi j=>.int (i % j)) (tOp (rI yG λi j=>.int (i / j)) (zb 0) (tC (.int 5))) (tC (.int 3))) zi)))
    zH)
  (zo (zQ (zB (tOp rEq (zb 2) (tC (.int 2))))
    (zG (yt (zc (tOp (yL K) (zb 1) (tOp (rI (λ_ j=>0 < j) λi j=>.int (i % j)) (tOp (rI yG λi j=>.int (i / j)) (zb 0) (tC (.int 5))) (tC (.int 2)))) zi)))
    zH)
  (zo (zQ (Jv (zB (tOp rEq (zb 2) (tC (.int 3)))) (zB (tOp rEq (tOp (rI (λ_ j=>0 < j) λi j=>.int (i % j)) (tOp (rI yG λi j=>.int (i / j)) (zb 0) (tC (.int 10))) (tC (.int 3))) (tC (.int 0)))))
    (zG (yt (zc (tC (.int 7)) (zc (tOp (yL K) (zb 1) (tOp (rI (λ_ j=>0 < j) λi j=>.int (i % j)) (tOp (rI yG λi j=>.int (i / j)) (zb 0) (tC (.int 30))) (tC (.int 2)))) (zc (tC (.str "over")) zi)))))
    zH)
  (zo (zQ (zB (tOp rEq (zb 2) (tC (.int 3))))
    (zG (yt (zc (tOp (yL K) (zb 1) (tOp (rI (λ_ j=>0 < j) λi j=>.int (i % j)) (tOp (rI yG λi j=>.int (i / j)) (zb 0) (tC (.int 5))) (tC (.int 2)))) (zc (tC (.int 3)) (zc (tC (.str "rest")) zi)))))
    zH)
  (zG (yt (zc (zL yZ [] E0 (zc (tOp (rI yG λi j=>.int (i / j)) (zb 0) (tC (.int 5))) zi)) zi))))))))
def k9(K:bx)(t:Adr):TS:=(zo (zK (xo (zc (tC (.str "plus")) (zc (tC (.str "minus")) (zc (tC (.str "times")) (zc (tC (.str "over")) (zc (tC (.str "rest")) (zc (tC (.str "under")) (zc (tC (.str "same")) zi)))))))) (zp 2))
  (zo (zK (tOp (rI (λ_ j=>0 < j) λi j=>.int (i % j)) (zb 0) (tC (.int 9))) (zp 3))
  (zo (zQ (zB (tOp rEq (zb 3) (tC (.int 0))))
    (zG (yt (zc (zL yZ [] E0 (zc (tOp (rI yG λi j=>.int (i / j)) (zb 0) (tC (.int 9))) zi)) zi)))
    zH)
  (zo (zQ (zB (tOp rEq (zb 3) (tC (.int 1))))
    (zG (yt (zc (tOp (yL K) (zb 1) (tOp (rI (λ_ j=>0 < j) λi j=>.int (i % j)) (tOp (rI yG λi j=>.int (i / j)) (zb 0) (tC (.int 9))) (tC (.int 2)))) zi)))
    zH)
  (zo (zQ (zB (tOp rEq (tOp (rI (λ_ j=>0 < j) λi j=>.int (i % j)) (tOp (rI yG λi j=>.int (i / j)) (zb 0) (tC (.int 9))) (tC (.int 2))) (tC (.int 0))))
    (zG (yt (zc (tOp (yL K) (zb 1) (tOp (rI (λ_ j=>0 < j) λi j=>.int (i % j)) (tOp (rI yG λi j=>.int (i / j)) (zb 0) (tC (.int 18))) (tC (.int 2)))) (zc (zL yZ [] E0 (zc (tOp (rI yG λi j=>.int (i / j)) (zb 0) (tC (.int 36))) zi)) (zc (tOp (yL K) (zb 2) (tOp (rI0 λi j=>.int (i - j)) (zb 3) (tC (.int 2)))) zi)))))
    zH)
  (zG (yt (zc (tOp (yL K) (zb 1) (tOp (rI (λ_ j=>0 < j) λi j=>.int (i % j)) (tOp (rI yG λi j=>.int (i / j)) (zb 0) (tC (.int 18))) (tC (.int 2)))) (zc (tOp (yL K) (zb 1) (tOp (rI (λ_ j=>0 < j) λi j=>.int (i % j)) (tOp (rI yG λi j=>.int (i / j)) (zb 0) (tC (.int 36))) (tC (.int 2)))) (zc (tOp (yL K) (zb 2) (tOp (rI0 λi j=>.int (i - j)) (zb 3) (tC (.int 2)))) zi))))))))))
def jO(K:bx)(t:Adr):TS:=(zo (zQ (zB (tOp (rI0 λi j=>.bl (decide (i < j))) (zb 3) (tC (.int 4))))
   (zG (yt (zc (tC (.str "take")) (zc (zb 4) (zc (zb 6) (zc (zb 5) zi))))))
   zH)
  (zo (zQ (zB (tOp (rI0 λi j=>.bl (decide (i < j))) (zb 3) (tC (.int 7))))
    (zG (yt (zc (tC (.str "give")) (zc (zb 4) (zc (zb 6) (zc (zb 7) zi))))))
    zH)
  (zo (zQ (zB (tOp rEq (zb 3) (tC (.int 7))))
    (zG (yt (zc (tC (.str "let")) (zc (zb 5) (zc (zb 7) zi)))))
    zH)
  (zo (zQ (zB (tOp rEq (zb 3) (tC (.int 8))))
    (zG (yt (zc (tC (.str "say")) (zc (zb 7) zi))))
    zH)
  (zG (yt (zc (tC (.str "off")) (zc (yt (zc (zb 5) (zc (tOp (rI0 λi j=>.int (i + j)) (tOp (rI (λ_ j=>0 < j) λi j=>.int (i % j)) (tOp (yL K) (zb 0) (tC (.int 1))) (tC (.int 3))) (tC (.int 1))) (zc (tC (.str "same")) zi)))) zi))))))))
def Zj(K:bx)(t:Adr):TS:=(zo (zK (tOp (rI (λ_ j=>0 < j) λi j=>.int (i % j)) (tOp (yL K) (zb 0) (tC (.int 0))) (tC (.int 10))) (zp 3))
  (zo (zK (tOp (yL K) (zb 1) (tOp (rI (λ_ j=>0 < j) λi j=>.int (i % j)) (tOp (rI yG λi j=>.int (i / j)) (tOp (yL K) (zb 0) (tC (.int 0))) (tC (.int 10))) (tC (.int 2)))) (zp 4))
  (zo (zK (tOp (yL K) (zb 2) (tOp (rI (λ_ j=>0 < j) λi j=>.int (i % j)) (tOp (rI yG λi j=>.int (i / j)) (tOp (yL K) (zb 0) (tC (.int 0))) (tC (.int 20))) (tC (.int 2)))) (zp 5))
  (zo (zK (zL kO [] E0 (zc (tOp (yL K) (zb 0) (tC (.int 1))) (zc (zb 2) zi))) (zp 6))
  (zo (zK (zL vE [] E0 (zc (tOp (yL K) (zb 0) (tC (.int 2))) (zc (zb 2) zi))) (zp 7))
  (jO K t))))))
def jf(K:bx)(t:Adr):TS:=(zo (zQ (zB (tOp rEq (tOp (rI (λ_ j=>0 < j) λi j=>.int (i % j)) (tOp (rI yG λi j=>.int (i / j)) (zb 0) (tC (.int 7))) (tC (.int 3))) (tC (.int 0))))
   (zo (zK (tOp (rI (λ_ j=>0 < j) λi j=>.int (i % j)) (tOp (yL K) (zb 3) (tC (.int 18))) (tOp (rI0 λi j=>.int (i + j)) (tCB (xZ K) (zc (zb 4) zi)) (tC (.int 1)))) (zp 5))
  (zo (zK (tOp (rI0 λi j=>.int (i + j)) (zb 5) (tOp (rI (λ_ j=>0 < j) λi j=>.int (i % j)) (tOp (yL K) (zb 3) (tC (.int 21))) (tOp (rI0 λi j=>.int (i - j)) (tOp (rI0 λi j=>.int (i + j)) (tCB (xZ K) (zc (zb 4) zi)) (tC (.int 1))) (zb 5)))) (zp 6))
  (zo (zK (yt (zc (tC (.str "if")) (zc (zL vE [] E0 (zc (tOp (yL K) (zb 3) (tC (.int 19))) (zc (zb 2) zi))) (zc (tSl (KH K) (zb 4) (ji (zb 5)) (ji (zb 6))) (zc (tSl (KH K) (zb 4) Zr (ji (tOp (rI (λ_ j=>0 < j) λi j=>.int (i % j)) (tOp (yL K) (zb 3) (tC (.int 20))) (tC (.int 3))))) zi))))) (zp 7))
  (zK (tOp ZB (tOp ZB (tSl (KH K) (zb 4) Zr (ji (zb 5))) (xo (zc (zb 7) zi))) (tSl (KH K) (zb 4) (ji (zb 6)) Zr)) (zp 4)))))
   zH)
  (zG (zb 4)))
def YR(K:bx)(t:Adr):TS:=(zo (zK (zL xb [] E0 (zc (zb 0) (zc (tC (.int 22)) zi))) (zp 3))
  (zo (zK (qf (Wy (zc (tOp (rI (λ_ j=>0 < j) λi j=>.int (i % j)) (zb 0) (tC (.int 7))) zi)) (zp 0) KS (zL qU [] E0 (zc (tSl (KH K) (zb 1) (ji (tOp (rI CMulB λi j=>.int (i * j)) (tC (.int 3)) (zb 0))) (ji (tOp (rI0 λi j=>.int (i + j)) (tOp (rI CMulB λi j=>.int (i * j)) (tC (.int 3)) (zb 0)) (tC (.int 3))))) (zc (zb 2) (zc (zb 3) zi)))) 1 [3,1,2]) (zp 4))
  (jf K t)))
def XV(K:bx)(t:Adr):TS:=(zo (zK (zO t.q01 "next_rank" (wA t) [] E0 (zb 0) zi) (zp 2))
  (zo (yb (tBM K "list" yf (zN K (zb 0) "codes") (zc (tCB (zc4 K) (zc (zb 1) zi)) zi)))
  (zo (yb (tBM K "list" yf (zN K (zb 0) "waiting") (zc (zb 2) zi)))
  (zG (zb 2)))))
def Jo(K:bx)(t:Adr):TS:=(zo (zK (tOp ZB (zb 9) (zO t.q01 "finish" (v4 t) [] E0 (zb 6) zi)) (zp 9))
  (zo (zQ (Y8 (tB (zL (yR  4) [] E0 (zc (zb 9) (zc (zb 8) zi)))))
    (zG (tC (.bl am)))
    zH)
  (zG (Kz (zL (yR  4) [] E0 (zc (zO t.q01 "settled" (xN t) [] E0 (zb 6) zi) (zc (tOp (rI0 λi j=>.int (i + j)) (zb 5) (tCB (xZ K) (zc (zb 4) zi))) zi))) (zL (yR  4) [] E0 (zc (zO t.q01 "move" (wB t) [] E0 (zb 6) (zc (tC (.int 0)) zi)) (zc (yt (zc (tC (.str "rest")) (zc (tC (.int 0)) zi))) zi)))))))
def Jp(K:bx)(t:Adr):TS:=(zo (zK (tOp ZB (zb 8) (tOp zgO (xo (zc (yt (zc (tC (.str "rest")) (zc (tC (.int 0)) zi))) zi)) (tCB zgY (zc (tC (.int 0)) (zc (tOp (rI0 λi j=>.int (i - j)) (tCB (xZ K) (zc (zb 9) zi)) (tCB (xZ K) (zc (zb 8) zi))) zi))))) (zp 8))
  (Jo K t))
def Qu(K:bx)(t:Adr):TS:=(zo (zK (qf (wV K (zb 0)) (zp 0) KS (zO t.q01 "move" (wB t) [] E0 (zb 1) (zc (tC (.int 0)) zi)) 1 [6]) (zp 9))
  (Jp K t))
def Qv(K:bx)(t:Adr):TS:=(zo (zK (zL qX [] E0 (zc (zb 4) (zc (zb 3) (zc (zb 5) zi)))) (zp 8))
  (Qu K t))
def Qw(K:bx)(t:Adr):TS:=(zo (kj (Wy (zc (tCB (xZ K) (zc (zb 4) zi)) zi)) (zp 7)
   (zQ (Y8 (tB (zL (yR  4) [] E0 (zc (zO t.q01 "add" (qY t) [] E0 (zb 6) (zc (tOp (yL K) (zb 4) (zb 7)) zi)) (zc (tOp (rI0 λi j=>.int (i + j)) (zb 5) (zb 7)) zi)))))
   (zG (tC (.bl am)))
   zH))
  (Qv K t))
def Qx(K:bx)(t:Adr):TS:=(zo (zK (tC (.int 0)) (zp 5))
  (zo (zK (XI t.q01 (wz t) [.int 0] E0 (zc (tCB (zc4 K) (zc (zb 3) zi)) (zc (tC (.int 1)) (zc (zaR t.q09) zi)))) (zp 6))
  (zo (zQ (zB (tOp rEq (tOp (rI (λ_ j=>0 < j) λi j=>.int (i % j)) (zL (yB K) [] E0 (zc (zb 0) (zc (tC (.int 0)) zi))) (tC (.int 2))) (tC (.int 1))))
    (zo (zK (tOp (rI (λ_ j=>0 < j) λi j=>.int (i % j)) (tOp (rI CMulC λi j=>.int (i * j)) (tOp (rI yG λi j=>.int (i / j)) (zL (yB K) [] E0 (zc (zb 0) (zc (tC (.int 0)) zi))) (tC (.int 2))) (tOp (rI JA λi j=>.int (i ^ j.toNat)) (tC (.int 1000000007)) (tC (.int 3)))) (tOp (rI0 λi j=>.int (i - j)) (tOp (rI JA λi j=>.int (i ^ j.toNat)) (tC (.int 10)) (tC (.int 29))) (tC (.int 300)))) (zp 5))
  (zK (XI t.q01 (wz t) [] E0 (zc (tCB (zc4 K) (zc (zb 3) zi)) (zc (tC (.int 1)) (zc (zaR t.q09) (zc (zb 5) zi))))) (zp 6)))
   zH)
  (Qw K t))))
def Qy(K:bx)(t:Adr):TS:=(zo (zK (qf (wV K (tSl (KH K) (zb 0) (ji (tC (.int 3))) (ji (tC (.int 8))))) (zp 0) KS (zL Yh [] E0 (zc (zL kQ [] E0 (zc (zb 0) (zc (zb 1) (zc (zb 2) zi)))) zi)) 1 [1,2]) (zp 4))
  (Qx K t))
def zdR(K:bx)(t:Adr):TS:=(zo (zK (zL vD [] E0 (zc (zL (yB K) [] E0 (zc (zb 0) (zc (tC (.int 1)) zi))) zi)) (zp 1))
  (zo (zK (zL vD [] E0 (zc (zL (yB K) [] E0 (zc (zb 0) (zc (tC (.int 2)) zi))) zi)) (zp 2))
  (zo (zK (zL jH [] E0 (zc (tOp (rI yG λi j=>.int (i / j)) (zL (yB K) [] E0 (zc (zb 0) (zc (tC (.int 1)) zi))) (tC (.int 7))) (zc (zb 1) zi))) (zp 3))
  (Qy K t))))
section
variable {K:bx}{t:Adr}{H:Hp}{Q:VK}
theorem zdS{j:Int}(h0:0<=j)(h1:j<=100):JA 10 j:=⟨h0,by lia,by lia⟩
theorem y8(h:n<=100000):n<=sizeLine:=bN h (by lia)
theorem xv(T:String):fM K (.type T) (.type T)=aa af:=by
 unfold fM
 rw[ao (by simp)]
theorem kf(K:bx):KF K:=⟨by with_unfolding_all rfl,by with_unfolding_all rfl,by with_unfolding_all rfl,by with_unfolding_all rfl,by with_unfolding_all rfl,by with_unfolding_all rfl,by with_unfolding_all rfl,by with_unfolding_all rfl⟩
theorem dB{i j:Int}(h0:0 < j:=by lia)(h1:j < 10000000000000000000000000000000000000000000000:=by lia):yG i j:=by
 have hb:(10000000000000000000000000000000000000000000000:Int) < big:=by lia
 exact⟨h0,by lia⟩
theorem Qz{α:Type}{xs:List α}{i:Int}(h0:0<=i)(h1:i < xs.length):∃x,atI xs i=aa x/\x∈xs:=by
 obtain⟨n,rfl⟩:∃n:Nat,i=(n:Int):=⟨i.toNat,by lia⟩
 have hn:n < xs.length:=by lia
 refine⟨xs[n],?_,eN hn⟩
 unfold atI ixN
 rw[ao h0,ao h1]
 simp[hn]
theorem zgq{α:Type}{xs:List α}(e:Int)(n:Nat)(hl:xs.length=n)(hn:0 < (n:Int)):∃x,atI xs (e % n)=aa x/\x∈xs :=
 Qz (dO _ (by lia)) (by rw[hl];exact dC _ hn)
theorem J7{i:Int}(hK:ze7 K)(q:∀H',Same H H'->Q (.bl (inW i)) H') :
  Za K t (qqN Q) (L2.start ["thing"] [.int i]) H:=by
 simp only[Za,L2.start,zo,zG,zH,tOp,tUn,zb,tC,zc,zi,zQ,tOr,Y8,tB,tCB,zam,rI,rI0,rU,qo,cM,bD,b8,bO,bf,bu,ap,V.int.injEq,V.bl.injEq,V.ty.injEq,bQ,and_true,and_assoc,aq,cg,b9,decide_eq_true_eq,dt,Int.reduceToNat,Int.reducePow,Int.reduceNeg,if_true]
 have q:=q H (Same.refl H)
 refine⟨_,.int i,af,xv _,?_⟩
 rw[ak (by lia)]
 refine⟨_,.int i,am,hK,?_⟩
 rw[ak (by lia)]
 refine⟨zdS (by lia) (by lia),xp (λc=>⟨zdS (by lia) (by lia),?_⟩) λc=>?_⟩
 ·have e:inW i=decide (i<=1000000000000000000000000000000):=by
   unfold inW
   by_cases h:i<=1000000000000000000000000000000
   ·rw[decide_eq_true h,decide_eq_true ⟨c,h⟩]
   ·rw[decide_eq_false h,decide_eq_false λz=>h z.2]
  rw[e] at q
  exact q
 ·have e:inW i=am:=decide_eq_false λz=>c z.1
  rw[e] at q
  exact q
theorem QA{vs:List V}{E:XK}(h:kL t vs H Q E) :
  Yk K t E (qqN Q) (L2.start ["word","first","second"] vs) H:=by
 obtain⟨w,a,b,rfl,hw,ha,hb,q⟩:=h
 simp only[Yk,L2.start,WL,KY,zo,zG,zH,tOp,zb,tC,zc,zi,zQ,zB,tIf,rEq,rI,JB,cM,bD,b8,bO,bf,bp,bu,ap,V.int.injEq,V.str.injEq,V.bl.injEq,true_and,aq,cg,b9,decide_eq_true_eq]
 have q:=q H (Same.refl H)
 have B:=JQ hb
 refine xp (λc=>?_) λc=>?_
 ·rw[ao c] at q
  exact⟨by lia,λy=>⟨by lia,q⟩⟩
 ·rw[ak c] at q
  refine xp (λe=>?_) λe=>?_
  ·rw[ao e] at q
   exact⟨⟨c,B⟩,q⟩
  ·rw[ak e] at q
   exact⟨c,q⟩
theorem QB{vs:List V}{E:XK}(h:kM t vs H Q E) :
  Yl K t E (qqN Q) (L2.start ["word","first","second"] vs) H:=by
 obtain⟨w,a,b,rfl,hw,ha,hb,q⟩:=h
 simp only[Yl,kL,L2.start,zo,zG,zH,tOp,zb,tC,zc,zi,zQ,zB,tIf,zL,rEq,rI,rI0,JB,cM,bD,b8,bO,bf,bp,bu,ap,V.int.injEq,V.str.injEq,V.bl.injEq,bQ,and_true,true_and,and_assoc,aq,cg,b9,decide_eq_true_eq]
 have A:=JQ ha
 have B:=JQ hb
 have nd:¬ WN w->Q (.int (jj w a b)) H:=λh=>by
  have q:=q H (Same.refl H)
  rw[ak λz=>h z.1] at q
  exact q
 refine xp (λc=>?_) λc1=>xp (λc=>?_) λc2=>xp (λc=>⟨⟨A,B⟩,?_⟩) λc3=>xp (λc=>?_) λc4=>xp (λc=>?_) λc5=>⟨hw,ha,hb,λH' s=>?_⟩
 ·subst c
  have q:=nd λz=>z.1 rfl
  exact q
 ·subst c
  have q:=nd λz=>z.2.1 rfl
  rw[show jj "minus" a b=a - b by unfold jj;rw[ak c1,ao rfl]] at q
  exact q
 ·subst c
  have q:=nd λz=>z.2.2.1 rfl
  rw[show jj "times" a b=a * b by unfold jj;rw[ak c1,ak c2,ao rfl]] at q
  exact q
 ·subst c
  have q:=nd λz=>z.2.2.2.1 rfl
  rw[show jj "under" a b=if a < b then 1 else 0 by unfold jj;rw[ak c1,ak c2,ak c3,ao rfl]] at q
  refine xp (λd=>?_) λd=>?_
  ·rw[ao d] at q;exact q
  ·rw[ak d] at q;exact q
 ·subst c
  have q:=nd λz=>z.2.2.2.2 rfl
  rw[show jj "same" a b=if a=b then 1 else 0 by unfold jj;rw[ak c1,ak c2,ak c3,ak c4,ao rfl]] at q
  refine xp (λd=>?_) λd=>?_
  ·rw[ao d] at q;exact q
  ·rw[ak d] at q;exact q
 ·have q:=q H' s
  have hd:WN w:=⟨c1,c2,c3,c4,c5⟩
  refine xp (λd=>?_) λd=>?_
  ·rw[ao ⟨hd,d⟩] at q;exact q
  ·rw[ak λz=>d z.2] at q
   unfold jj at q
   rw[ak c1,ak c2,ak c3,ak c4,ak c5] at q
   exact q
theorem zaX{vs:List V}{E:XK}(h:Zx t vs H Q E) :
  Xq K t E (qqN Q) (L2.start ["word","first","second","worth"] vs) H:=by
 obtain⟨w,a,b,rfl,hw,ha,hb,q⟩:=h
 simp only[Xq,kM,qN,L2.start,WL,KY,zo,zK,zp,zG,zH,zb,zc,zi,zQ,Y8,tB,zL,cM,bD,b8,ca,cz,bO,bf,bp,bu,ap,V.int.injEq,V.str.injEq,V.bl.injEq,bQ,and_true,and_assoc,aq,cf,cA,cg,b9,dt]
 refine⟨hw,ha,hb,λH1 s1=>xp (λc=>?_) λc H2 s2=>xp (λd=>?_) λd=>?_⟩
 ·have q:=q H1 s1
  unfold vU at q
  rw[ao c] at q
  exact q
 ·have q:=q H2 (s1.trans s2)
  unfold vU at q
  rw[ak c,ak (by rw[d];decide)] at q
  exact⟨by lia,λy=>⟨by lia,q⟩⟩
 ·have q:=q H2 (s1.trans s2)
  unfold vU at q
  rw[ak c,ao (by simpa using d)] at q
  exact q
theorem QC{xs:List V} :(xs ++ [y])[(xs ++ [y]).length - 1]?=aa y:=by simp
theorem Xu{xs:List V} :(xs ++ [y]).dropLast=xs:=by simp
theorem y9{H H':Hp}(s:Same H H')(hw:H w=ah):Same H (upd H' w o):=λb u e=>by rw[zk (zC e hw)];exact s b u e
theorem zgr(st:List Int):(∃l a b,st=l ++ [a,b])\/∀kvs v,isJ v=af->wF kvs st v=.error .stuck:=by
 cases h:st.reverse with
 | nil =>
  refine .inr λkvs v hv=>?_
  unfold wF
  rw[hv,ao rfl,h]
  split <;> rename_i e1 e2 <;> first | rfl | cases e2
 | cons b r =>
  cases r with
  | nil =>
   refine .inr λkvs v hv=>?_
   unfold wF
   rw[hv,ao rfl,h]
   split <;> rename_i e1 e2 <;> first | rfl | cases e2
  | cons a r =>
   refine .inl ⟨r.reverse,a,b,?_⟩
   have:=congrArg List.reverse h
   rw[List.reverse_reverse] at this
   rw[this];simp
theorem zdT{kvs:List (Key × V)}{l:List Int}{a b:Int}{w:Str}(hw:isJ (.str w)=af):wF kvs (l ++ [a,b]) (.str w)=match vU w a b with | .ok c=>.ok (l ++ [c]) | .error e=>.error e:=by
 unfold wF
 rw[hw,ao rfl]
 simp only[oB,pB,pO,cz,ca]
 cases vU w a b with
 | error e=>rfl
 | ok c=>simp
def rkI(kvs:List (Key × V))(ps:List V)(tm sl w:ac)(H:Hp)(i:Nat)(σ:St)(H':Hp):Prop:=∃st,(∃o3 o4 o5,σ=[aa (.ref tm),aa (.ref sl),aa (.ref w),o3,o4,o5])/\wZ kvs (ps.take i) []=.ok st/\(∀x∈st,inW x=af)/\st.length<=i/\H' w=aa (.lst (st.map V.int))/\Same H H'
theorem J8{E:XK}{kvs:List (Key × V)}{tm sl:ac}{ps:List V}{r:Except Er Int}(hK:fM K (.type "int") (.type "str")=aa am)(hJ:∀H:Hp,SqT K H t.q0v jw)(h1:H tm=aa (.tup ps))(h2:H sl=aa (.dK kvs))(h3:Good kvs ps r)(h4:∀v∈ps,kA v)(h5:ps.length<=1000)(h6:yV kvs)
  (q:∀H',Same H H'->fin t r Q E H'):Zb K t E (qqN Q) (L2.start ["term","slots","worths","part","second","first"] [.ref tm,.ref sl]) H:=by
 simp only[Zb,L2.start,qA,zeA,zo,zK,zp,zG,zb,xo,zi,kj,zbV,tyV,zfW,cM,bD,b8,ca,cz,bf,bu,ap,V.ref.injEq,true_and,aq,cf,cA,cg,b9]
 refine⟨by lia,λw hw=>⟨⟨_,SqT.of ((isV w hw) _ _ h1)⟩,?_⟩⟩
 have run0:=h3.1 []
 have fe:∀ {e:Er} {H':Hp},wZ kvs ps []=.error e->Same H H'->fin t (.error e) Q E H':=λ{e H'} z s=>by
  rw[z] at run0
  cases r with
  | ok i=>cases run0
  | error e' =>
   cases run0
   exact q _ s
 have ns:wZ kvs ps []≠.error .stuck:=λz=>by
  rw[z] at run0
  cases r with
  | ok i=>cases run0
  | error e' =>
   cases run0
   exact h3.2 rfl
 refine zcV ps (rkI kvs ps tm sl w H) ⟨[],⟨_,_,_,rfl⟩,rfl,(λx z=>nomatch z),bh _,zg,isV w hw⟩ (λi σ H' ⟨st,a,b,c,d,e,s⟩=>SqT.of (s _ _ h1)) ?_ ?_
 ·rintro i v σ H' hv ⟨st,⟨o3,o4,o5,rfl⟩,hr,hW,hl,hst,hS⟩
  have hi:i < ps.length:=(bq.mp hv).1
  have one:=zeP hr hv
  have ok:=h4 v (cE hv)
  have fl:Yz v=af:=by rcases ok with ⟨j,rfl,_⟩ | ⟨x,rfl,_⟩ <;> rfl
  simp only[ZR,tOp,zb,tC,zQ,zB,rIn,bf,bp,bu,ap,V.ref.injEq,V.bl.injEq,aq,cf,cA,cC,ite_false]
  refine⟨jw,.inr (hJ H'),fl,rfl,xp (λc=>?_) λc=>?_⟩
  ·simp only[ZP,Zx,yf,qA,Wm,zeA,zo,zK,zp,yb,zb,zc,zi,tBM,zbV,tyV,zL,bO,bf,bp,bu,ap,V.ref.injEq,bQ,and_true,true_and,and_assoc,aq,cf,cA]
   rcases zgr st with ⟨l,a,b,rfl⟩ | z
   ·obtain⟨x,rfl,hx⟩:∃x:Str,v=.str x/\x.length<=1000:=by
     rcases ok with ⟨j,rfl,_⟩ | h
     ·exact absurd c (by rw[show inV (V.int j) jw=am from rfl];decide)
     ·exact h
    have e1:cM V.int (l ++ [a,b])=(l.map V.int ++ [.int a]) ++ [.int b]:=by simp
    rw[e1] at hst
    have one':=one.trans (zdT c)
    have wa:=hW a (by simp)
    have wb:=hW b (by simp)
    refine⟨.inl ⟨_,SqL.of hst⟩,_,hst,_,QC,.inl ⟨_,SqL.of zg⟩,_,by rw[Xu];exact zg,_,QC,.inl ⟨_,SqL.of zg⟩,x,rfl,a,rfl,b,rfl,hx,wa,wb,λH2 s2=>?_⟩
    rw[Xu,Xu] at s2
    have S2:Same H H2:=(y9 (y9 hS hw) hw).trans s2
    cases e:vU x a b with
    | ok d =>
     rw[e] at one'
     have hd:inW d=af:=by
      unfold vU at e
      split at e
      ·cases e
      ·split at e
       ·rename_i z;cases e;exact z
       ·cases e
     refine⟨_,s2 _ _ zg,?_,l ++ [d],⟨_,_,_,rfl⟩,one',?_,?_,?_,y9 S2 hw⟩
     ·rw[bo]
      have:(l ++ [a,b]).length=l.length + 2:=by simp
      exact bY (by lia:l.length<=1000) (by lia)
     ·intro y hy
      rcases bJ.mp hy with h | h
      ·exact hW y (dP _ h)
      ·have:y=d:=by simpa using h
       rw[this];exact hd
     ·have:(l ++ [a,b]).length=l.length + 2:=by simp
      rw[bn];show l.length + 1<=i + 1
      lia
     ·rw[cB];exact zg
    | error er =>
     rw[e] at one'
     have:=fe (zbp one') S2
     cases er with
     | nought=>exact this
     | great=>exact this
     | stuck=>trivial
   ·exact absurd (zbp (one.trans (z kvs v c))) ns
  ·simp only[ZQ,xh,xh,yf,Wm,yb,zb,tC,zc,zi,tB,tIf,tCB,tBM,tyV,qo,bf,bp,bu,ap,V.ref.injEq,V.bl.injEq,V.ty.injEq,bQ,and_true,true_and,and_assoc,aq]
   have st1:wF kvs st v=.ok (st ++ [zaz kvs v]):=by
    unfold wF
    rw[ak (by unfold isJ;exact c)]
   have one':=one.trans st1
   have hwv:=K3 h6 ok
   have fin1:∀u,u=V.int (zaz kvs v)->rkI kvs ps tm sl w H (i + 1) [aa (V.ref tm),aa (V.ref sl),aa (V.ref w),aa v,o4,o5] (upd H' w (HO.lst (cM V.int st ++ [u]))):=λu hu=>by
    subst hu
    refine⟨st ++ [zaz kvs v],⟨_,_,_,rfl⟩,one',?_,?_,?_,y9 hS hw⟩
    ·intro y hy
     rcases bJ.mp hy with h | h
     ·exact hW y h
     ·have:y=zaz kvs v:=by simpa using h
      rw[this];exact hwv
    ·rw[bn];show st.length + 1<=i + 1
     lia
    ·rw[cB];exact zg
   have sz:(cM V.int st).length < sizeLine:=by
    rw[bo]
    exact bY (by lia:st.length<=1000) (by lia)
   refine⟨.inl ⟨_,SqL.of hst⟩,?_⟩
   rcases ok with ⟨j,rfl,hj⟩ | ⟨x,rfl,hx⟩
   ·refine⟨_,.int j,am,hK,?_⟩
    rw[ak (by lia)]
    exact⟨_,hst,sz,fin1 _ rfl⟩
   ·refine⟨_,.str x,af,xv _,?_⟩
    rw[ao rfl]
    refine⟨.inl ⟨kvs,.inl (hS _ _ h2)⟩,_,DGet.k (k:=.inr x) (hS _ _ h2),_,hst,sz,fin1 _ ?_⟩
    show (yd kvs (.inr x)).getD (V.int 0)=V.int (match yd kvs (.inr x) with | some (.int i)=>i | _=>0)
    cases e:yd kvs (.inr x) with
    | none=>rfl
    | some u =>
     obtain⟨i,rfl,_⟩:=h6 _ _ e
     rfl
 ·rintro σ H' ⟨st,⟨o3,o4,o5,rfl⟩,hr,hW,hl,hst,hS⟩
  rw[fi] at hr
  simp only[bf,bp,bu,ap,V.ref.injEq]
  rw[hr] at run0
  cases r with
  | error e=>cases run0
  | ok i =>
   have e:st=[i]:=by injection run0
   subst e
   exact⟨.inl ⟨_,SqL.of hst⟩,_,hst,_,rfl,q _ (y9 hS hw)⟩
theorem zbw(c:Nat):({ cps:=#[c] }:Str).length=1:=rfl
theorem Xv{vs:List V}{_E:XK}(h:yB K vs H Q _E) :
  vo K t (qqN Q) (L2.start ["script","k"] vs) H:=by
 obtain⟨a,ns,k,rfl,hS,hl,hb,q⟩:=h
 simp only[vo,L2.start,zo,zG,zH,tOp,zb,tC,zc,zi,zQ,zB,tCB,KC,yL,rI0,xZ,cM,bD,b8,bO,bf,bp,bu,ap,V.int.injEq,V.ref.injEq,V.bl.injEq,bQ,and_true,aq,cg,b9,decide_eq_true_eq]
 refine⟨_,.inl ⟨_,hS,rfl⟩,xp (λe=>?_) λe=>?_⟩
 ·rw[bo] at e
  obtain⟨v,h1,h2⟩:=Qz (xs:=ns.map V.int) (i:=(k:Int)) (by lia) (by rw[bo];lia)
  obtain⟨x,hx,rfl⟩:=bP.mp h2
  exact⟨_,hS,_,h1,q _ _ (Same.refl _) (hb x hx)⟩
 ·exact q _ _ (Same.refl _) (Cb.of (by lia))
theorem zJ{H H':Hp}(s:Same H H')(h:H' D=ah):H D=ah:=by
 cases e:H D with
 | none=>rfl
 | some o=>rw[s _ _ e] at h;cases h
theorem fin_err{Q:VK}{E:XK}{H:Hp}:fin t (.error e) Q E H↔zdO t e E H:=by cases e <;> rfl
theorem fin_ok{i:Int}{Q:VK}{E:XK}{H:Hp}:fin t (.ok i) Q E H↔Q (.int i) H:=p9
theorem CsAt.same{H H':Hp}(h:CsAt H v c)(s:Same H H'):CsAt H' v c:=by
 cases c with
 | row r=>exact⟨h.1.mono s,h.2⟩
 | skip e to =>
  obtain⟨p,te,h1,h2,h3⟩:=h
  exact⟨p,te,h1,s _ _ h2,s _ _ h3⟩
 | go en =>
  obtain⟨p,h1,h2⟩:=h
  exact⟨p,h1,s _ _ h2⟩
theorem xO{H H':Hp}(s:Same H H'):∀ {xs:List V} {C:List Cs},Paired (CsAt H) xs C->Paired (CsAt H') xs C
 | _,_,.nil=>.nil
 | _,_,.cons h r=>.cons (h.same s) (xO s r)
def TSm(H H':Hp):Prop:=∀b ys,H b=aa (.tup ys)->H' b=aa (.tup ys)
theorem CsAt.ts{H H':Hp}(s:TSm H H')(h:CsAt H v c):CsAt H' v c:=by
 cases c with
 | row r =>
  obtain⟨h,n⟩:=h
  refine⟨?_,n⟩
  cases r with
  | iff e a b=>exact n.elim
  | take sh e sl =>
   obtain⟨r,te,a1,a2,a3,a4,a5⟩:=h
   exact⟨r,te,a1,a2,a3,s _ _ a4,s _ _ a5⟩
  | give sh e f =>
   obtain⟨r,te,tf,a1,a2,a3,a4,a5,a6,a7⟩:=h
   exact⟨r,te,tf,a1,a2,a3,a4,s _ _ a5,s _ _ a6,s _ _ a7⟩
  | lt sl e =>
   obtain⟨r,te,a1,a2,a3,a4,a5⟩:=h
   exact⟨r,te,a1,a2,a3,s _ _ a4,s _ _ a5⟩
  | say e =>
   obtain⟨r,te,a1,a2,a3,a4,a5⟩:=h
   exact⟨r,te,a1,a2,a3,s _ _ a4,s _ _ a5⟩
  | off e =>
   obtain⟨r,te,a1,a2,a3,a4,a5⟩:=h
   exact⟨r,te,a1,a2,a3,s _ _ a4,s _ _ a5⟩
 | skip e to =>
  obtain⟨p,te,h1,h2,h3⟩:=h
  exact⟨p,te,h1,s _ _ h2,s _ _ h3⟩
 | go en =>
  obtain⟨p,h1,h2⟩:=h
  exact⟨p,h1,s _ _ h2⟩
theorem xI{H H':Hp}(s:TSm H H'):∀ {xs:List V} {C:List Cs},Paired (CsAt H) xs C->Paired (CsAt H') xs C
 | _,_,.nil=>.nil
 | _,_,.cons h r=>.cons (h.ts s) (xI s r)
theorem zbx(x:Rw):(∃e a b,x=.iff e a b)\/W5 x:=by
 cases x with
 | iff e a b=>exact .inl ⟨e,a,b,rfl⟩
 | _=>exact .inr trivial
theorem vK(h:W5 x)(k:Nat):xk x k=[.row x]:=by
 cases x with
 | iff e a b=>exact h.elim
 | _=>rw[xk];intro e a b z;cases z
theorem zfc{F:ac->Prop}(h:RwAt F H v r):∃p xs hd,v=.ref p/\H p=aa (.tup xs)/\atI xs 0=aa (.str hd)/\(hd="if"↔¬ W5 r):=by
 cases r with
 | take sh e sl =>
  unfold RwAt at h
  obtain⟨r,te,rfl,_,_,e2,e3⟩:=h
  exact⟨r,_,_,rfl,e2,rfl,⟨λz=>absurd z (by lia),λz=>absurd trivial z⟩⟩
 | give sh e f =>
  unfold RwAt at h
  obtain⟨r,te,tf,rfl,_,_,_,e2,e3⟩:=h
  exact⟨r,_,_,rfl,e2,rfl,⟨λz=>absurd z (by lia),λz=>absurd trivial z⟩⟩
 | lt sl e =>
  unfold RwAt at h
  obtain⟨r,te,rfl,_,_,e2,e3⟩:=h
  exact⟨r,_,_,rfl,e2,rfl,⟨λz=>absurd z (by lia),λz=>absurd trivial z⟩⟩
 | say e =>
  unfold RwAt at h
  obtain⟨r,te,rfl,_,_,e2,e3⟩:=h
  exact⟨r,_,_,rfl,e2,rfl,⟨λz=>absurd z (by lia),λz=>absurd trivial z⟩⟩
 | off e =>
  unfold RwAt at h
  obtain⟨r,te,rfl,_,_,e2,e3⟩:=h
  exact⟨r,_,_,rfl,e2,rfl,⟨λz=>absurd z (by lia),λz=>absurd trivial z⟩⟩
 | iff e a b =>
  unfold RwAt at h
  obtain⟨r,te,la,lb,xs,ys,rfl,f1,f2,f3,f4,e2,e3⟩:=h
  exact⟨r,_,_,rfl,e2,rfl,⟨λ_ z=>z,λ_=>rfl⟩⟩
theorem Paired.app2{α β:Type}{F:α->β->Prop}:∀ {a:List α} {b:List β} {c:List α} {d:List β},Paired F a b->Paired F c d->Paired F (a ++ c) (b ++ d)
 | _,_,_,_,.nil,h=>h
 | _,_,_,_,.cons h r,h2=>.cons h (Paired.app2 r h2)
theorem QD{vs:List V}{_E:XK}(h:Yh vs H Q _E) :
  Ym K t (qqN Q) (L2.start ["rows"] vs) H:=by
 obtain⟨v,r,rfl,h1,h2,h3,q⟩:=h
 simp only[Ym,xq,L2.start,zG,zb,tC,zc,zi,zL,cM,bD,b8,bO,bf,bu,ap,V.int.injEq,bQ,and_true,and_assoc,aq,cg,b9]
 exact⟨r,0,rfl,h1,h2,by lia,q⟩
def sfI(v:V)(L:ac)(xs:List V)(k n:Nat)(r:Rws)(H:Hp)(i:Nat)(σ:St)(H':Hp):Prop:=∃(rest:Rws) (ys:List V) (C:List Cs),(∃o,σ=[aa v,aa (.int k),aa (.ref L),o])/\Same H H'/\H' L=aa (.lst ys)/\Paired (CsAt H') ys C/\RwsAt JW H (xs.drop i) rest/\W6 (n + 1) rest/\C ++ zZ rest (k + C.length)=zZ r k
theorem J9{H:Hp}(h:H L=aa (.lst ys)):TSm H (upd H L (.lst zs)):=λb us e=>by rw[zk (zT e h (by lia))];exact e
theorem Ka{v:V}{r:Rws}{k n:Nat}(h1:RlAt JW H v r)(h2:W6 (n + 1) r)(h3:k + (zZ r k).length<=500)(q:∀l xs H',Same H H'->H l=ah->H' l=aa (.lst xs)->Paired (CsAt H') xs (zZ r k)->Q (.ref l) H') :
  XU K t n (qqN Q) (L2.start ["rows","first","steps","row"] [v,.int k]) H:=by
 obtain⟨p,xs,rfl,_,hp,hx⟩:=h1
 refine⟨bW _,λL hL=>?_⟩
 have s0:=isV (o:=HO.lst []) L hL
 refine⟨_,rfl,p,rfl,⟨_,SqL.of (s0 _ _ hp)⟩,?_⟩
 refine vI xs (sfI (.ref p) L xs k n r H) ⟨r,[],[],⟨_,rfl⟩,s0,zg,.nil,by rw[gG];exact hx,h2,rfl⟩ (λi σ H' ⟨_,_,_,_,s,_⟩=>SqL.of (s _ _ hp)) ?_ ?_
 ·rintro i u σ H' hu ⟨rest,ys,C,⟨o,rfl⟩,s,hy,pr,hr,ok,eq⟩
  obtain⟨x,rs,rfl,rx,rr⟩:=hr.get hu
  have e0:zZ (.cons x rs) (k + C.length)=xk x (k + C.length) ++ zZ rs (k + C.length + (xk x (k + C.length)).length):=by rw[zZ]
  rw[e0] at eq
  have okd:=ok.dp
  have c1:(Rws.cons x rs).deep=max x.deep rs.deep:=by rw[Rws.deep]
  rw[c1] at okd
  have okc:=ok.ct
  have c2:(Rws.cons x rs).cnt=x.cnt + rs.cnt:=by rw[Rws.cnt]
  rw[c2] at okc
  have okp:=ok.pl
  unfold qE at okp
  have le:=congrArg b8 eq
  rw[bn,bn] at le
  have ly:=bF pr
  have nx:∀ {H2:Hp} {o':Option V} {zs:List V},Same H H2->H2 L=aa (.lst zs)->Paired (CsAt H2) zs (C ++ xk x (k + C.length))->sfI (.ref p) L xs k n r H (i + 1) [aa (.ref p),aa (.int k),aa (.ref L),o'] H2:=λ{H2 o' zs} s2 g2 p2 =>
   ⟨rs,zs,_,⟨_,rfl⟩,s2,g2,p2,rr,⟨by lia,by lia,okp.2⟩,by rw[fC,bn,<-oU];exact eq⟩
  obtain⟨p1,fs,hd,rfl,e2,e3,e4⟩:=zfc rx
  refine kC rfl (s _ _ e2) e3 (λez=>?_) λez=>?_
  ·rcases zbx x with ⟨e,a,b,rfl⟩ | hni
   rotate_left
   ·exact absurd hni (e4.mp ez)
   have d1:(Rw.iff e a b).deep=max a.deep b.deep + 1:=by rw[Rw.deep]
   have d2:(Rw.iff e a b).cnt=max a.cnt b.cnt + 1:=by rw[Rw.cnt]
   rw[d1] at okd
   rw[d2] at okc
   have pl:=okp.1
   unfold WZ at pl
   refine⟨_,rfl,.inl ⟨rfl,_,SqL.of hy⟩,_,rfl,_,rfl,zdN rfl hy ⟨_,_,rfl,rfl,_,e,a,b,k + C.length,by rw[<-ly];rfl,rx.mono s,⟨by lia,by lia,pl.2.1⟩,⟨by lia,by lia,pl.2.2⟩,by lia,λl us H2 s2 hl pu=>?_⟩⟩
   have lu:=bF pu
   refine⟨L,_,ys,us,rfl,rfl,s2 _ _ hy,hl,bN (by lia:ys.length + us.length<=1000) (by lia),?_⟩
   exact nx (y9 (s.trans s2) hL) zg (xI (J9 (s2 _ _ hy)) (Paired.app2 (xO s2 pr) pu))
  ·have hni:W5 x:=by
    rcases zbx x with ⟨e,a,b,rfl⟩ | hni
    ·exact absurd (e4.mpr (λz=>z)) ez
    ·exact hni
   have ec:=vK hni (k + C.length)
   rw[ec] at nx
   refine⟨_,rfl,.inl ⟨rfl,_,SqL.of hy⟩,_,rfl,L,ys,_,rfl,rfl,hy,bY (by lia:ys.length<=900) (by lia),?_⟩
   exact nx (y9 s hL) zg (Paired.snocP (xI (J9 hy) pr) (CsAt.ts (J9 hy) ⟨rx.mono s,hni⟩))
 ·rintro σ H' ⟨rest,ys,C,⟨o,rfl⟩,s,hy,pr,hr,ok,eq⟩
  have e:=hr.none
  subst e
  rw[show zZ .nil (k + C.length)=[] by rw[zZ],bO] at eq
  rw[eq] at pr
  exact⟨_,rfl,q L ys H' s hL hy pr⟩
theorem x8{H H':Hp}(e:upd H a o=H')(h:H a=ah):Same H H'/\H' a=aa o:=⟨e ▸ isV a h,e ▸ zg⟩
theorem Wf{v:V}{e:List V}{a b:Rws}{k n:Nat}(h1:RwAt JW H v (.iff e a b))(h2:W6 n a)(h3:W6 n b)(h4:k + (xk (.iff e a b) k).length<=500)(q:∀l xs H',Same H H'->H' l=aa (.lst xs)->Paired (CsAt H') xs (xk (.iff e a b) k)->Q (.ref l) H') :
  Zf K t n (qqN Q) (L2.start ["row","at","steps","to","others"] [v,.int k]) H:=by
 unfold RwAt at h1
 obtain⟨p,te,la,lb,xs,ys,rfl,f1,f2,f3,f4,e2,e3,e4,e6,e5,e7⟩:=h1
 have ec:xk (.iff e a b) k=blk e k (zZ a (k + 1)) (Rws.isNil b) (zZ b (k + 2 + (zZ a (k + 1)).length)):=by rw[xk]
 rw[ec] at h4 q
 refine W1 rfl e2 rfl ⟨_,rfl,_,_,rfl,rfl,.ref la,a,k + 1,rfl,⟨la,xs,rfl,f3,e4,e6⟩,h2,?_,λl us H1 s1 fl hl pu=>?_⟩
 ·unfold blk at h4;split at h4 <;> simp only[bR,bn] at h4 <;> lia
 have lu:=bF pu
 generalize zZ a (k + 1)=A at *
 refine⟨_,rfl,_,_,rfl,rfl,zdN rfl hl ⟨_,_,rfl,rfl,?_⟩⟩
 have ei:(k:Int) + 1 + us.length=((k + 1 + A.length:Nat):Int):=by lia
 show j6 K t n _ [aa (.ref p),aa (.int k),aa (.ref l),aa (.int ((k:Int) + 1 + us.length)),ah] H1
 rw[ei]
 refine W1 rfl (s1 _ _ e2) rfl ⟨bW _,λz gz=>?_⟩
 generalize f0:upd H1 z _=H2
 obtain⟨s2,hz⟩:=x8 f0 gz
 have S2:=s1.trans s2
 refine⟨lb,z,ys,rfl,rfl,SqL.of (S2 _ _ e5),SqL.of hz,_,rfl,?_⟩
 have nb:Rws.isNil b=decide (ys=[]):=by
  cases b with
  | nil=>unfold RwsAt at e7;simp[Rws.isNil,e7]
  | cons x r=>unfold RwsAt at e7;obtain⟨v,vs,rfl,_⟩:=e7;simp[Rws.isNil]
 have hl2:=s2 _ _ hl
 have pu2:=xO s2 pu
 show if _ then _ else _
 by_cases hb:ys=[]
 ·rw[ao (decide_eq_true hb)]
  have eb:∀B,blk e k A (Rws.isNil b) B=.skip e (k + 1 + A.length) :: A:=λB=>by unfold blk;rw[ao (by rw[nb];exact decide_eq_true hb)]
  rw[eb] at q h4
  rw[bR] at h4
  refine W1 rfl (S2 _ _ e2) rfl ⟨_,rfl,by show (3:Nat)<=sizeLine;decide,λp1 g1=>?_⟩
  generalize c1:upd H2 p1 _=H3
  obtain⟨t1,hp1⟩:=x8 c1 g1
  refine⟨by show (1:Nat)<=sizeLine;decide,λp2 g2=>?_⟩
  generalize c2:upd H3 p2 _=H4
  obtain⟨t2,hp2⟩:=x8 c2 g2
  have T:=t1.trans t2
  refine⟨_,rfl,_,_,_,us,rfl,rfl,hp2,T _ _ hl2,bN (by show 1 + us.length<=1000;lia) (by lia),λp3 g3=>?_⟩
  have t3:=isV (o:=HO.lst ([V.ref p1] ++ us)) p3 g3
  exact q p3 ([V.ref p1] ++ us) _ (S2.trans (T.trans t3)) zg (.cons ⟨p1,te,rfl,(t2.trans t3) _ _ hp1,(S2.trans (T.trans t3)) _ _ e3⟩ (xO (T.trans t3) pu2))
 ·rw[ak (by rw[decide_eq_true_eq];exact hb)]
  have eb:∀B,blk e k A (Rws.isNil b) B=.skip e (k + 2 + A.length) :: (A ++ (.go (k + 2 + A.length + B.length) :: B)):=λB=>by unfold blk;rw[ak (by rw[nb];simpa using hb)]
  rw[eb] at q h4
  rw[bR,bn,bR] at h4
  have ej:((k + 1 + A.length:Nat):Int) + 1=((k + 2 + A.length:Nat):Int):=by lia
  refine W1 rfl (S2 _ _ e2) rfl ⟨_,rfl,_,_,rfl,rfl,.ref lb,b,k + 2 + A.length,?_,⟨lb,ys,rfl,f4,S2 _ _ e5,e7.mono S2⟩,h3,by lia,λl2 ws H3 s3 fl2 hl3 pw=>?_⟩
  ·show [V.ref lb,V.int (((k + 1 + A.length:Nat):Int) + 1)]=_
   rw[ej]
  have lw:=bF pw
  generalize zZ b (k + 2 + A.length)=B at *
  have S3:=S2.trans s3
  refine W1 rfl (S3 _ _ e2) rfl ⟨_,rfl,_,_,rfl,rfl,by show (3:Nat)<=sizeLine;decide,λp1 g1=>?_⟩
  generalize c1:upd H3 p1 _=H4
  obtain⟨t1,hp1⟩:=x8 c1 g1
  have hp1:H4 p1=aa (.tup [.str (bc "skip"),.ref te,.int ((k + 2 + A.length:Nat):Int)]):=by rw[<-ej];exact hp1
  refine⟨by show (1:Nat)<=sizeLine;decide,λp2 g2=>?_⟩
  generalize c2:upd H4 p2 _=H5
  obtain⟨t2,hp2⟩:=x8 c2 g2
  have T2:=t1.trans t2
  refine⟨_,rfl,_,_,_,us,rfl,rfl,hp2,(s3.trans T2) _ _ hl2,bN (by show 1 + us.length<=1000;lia) (by lia),λp3 g3=>?_⟩
  generalize c3:upd H5 p3 _=H6
  obtain⟨t3,hp3⟩:=x8 c3 g3
  have T3:=T2.trans t3
  refine⟨_,rfl,_,_,rfl,rfl,zdN rfl (T3 _ _ hl3) ⟨_,_,rfl,rfl,by show (2:Nat)<=sizeLine;decide,λp4 g4=>?_⟩⟩
  generalize c4:upd H6 p4 _=H7
  obtain⟨t4,hp4⟩:=x8 c4 g4
  have eg:((k + 1 + A.length:Nat):Int) + 1 + ws.length=((k + 2 + A.length + B.length:Nat):Int):=by lia
  have hp4:H7 p4=aa (.tup [.str (bc "go"),.int ((k + 2 + A.length + B.length:Nat):Int)]):=by rw[<-eg];exact hp4
  refine⟨by show (1:Nat)<=sizeLine;decide,λp5 g5=>?_⟩
  generalize c5:upd H7 p5 _=H8
  obtain⟨t5,hp5⟩:=x8 c5 g5
  refine⟨_,_,_,_,rfl,rfl,(t4.trans t5) _ _ hp3,hp5,bN (by show ([V.ref p1] ++ us).length + 1<=1000;rw[bn,cN];lia) (by lia),λp6 g6=>?_⟩
  generalize c6:upd H8 p6 _=H9
  obtain⟨t6,hp6⟩:=x8 c6 g6
  have T6:=t4.trans (t5.trans t6)
  refine⟨_,rfl,_,_,_,ws,rfl,rfl,hp6,(T3.trans T6) _ _ hl3,bN (by rw[bn,bn,cN,cN];lia:_<=1000) (by lia),λp7 g7=>?_⟩
  generalize c7:upd H9 p7 _=H10
  obtain⟨t7,hp7⟩:=x8 c7 g7
  have T7:=T6.trans t7
  have U:=T3.trans T7
  have el:[V.ref p1] ++ us ++ [V.ref p4] ++ ws=V.ref p1 :: (us ++ (V.ref p4 :: ws)):=by simp
  refine q p7 ([V.ref p1] ++ us ++ [V.ref p4] ++ ws) _ (S3.trans U) hp7 ?_
  rw[el]
  exact .cons ⟨p1,te,rfl,(t2.trans (t3.trans T7)) _ _ hp1,(S3.trans U) _ _ e3⟩ (Paired.app2 (xO (s3.trans U) pu2) (.cons ⟨p4,rfl,(t5.trans (t6.trans t7)) _ _ hp4⟩ (xO U pw)))
theorem YS{H:Hp}{Q:VK}{E:XK}(h:xq 0 vs H Q E):False:=by
 obtain⟨v,r,k,e,h1,h2,h3⟩:=h
 have:=h2.dp
 lia
theorem rnF{P:Str->Option ae}(T:Txt K P t):RnF K t:=⟨T.q04,T.q2g,T.q2f,T.q2l,T.q2k,T.q2h,T.q2i,T.q2j⟩
section
variable {x:ac}{a:RAd}{C:List Cs}{s:RSt}
theorem RnAt.notup(R:RnAt t H x a C s)(h:H b=aa (.tup zs)):¬ Ow x a b:=by
 rintro(rfl | rfl | rfl | rfl | rfl)
 ·rw[R.ix] at h;cases h
 ·rw[R.hs] at h;cases h
 ·rw[R.hg] at h;cases h
 ·rw[R.hn] at h;cases h
 ·rw[R.ha] at h;cases h
theorem RnAt.ts{H':Hp}(R:RnAt t H x a C s)(k:Kp x a H H'):TSm H H':=λb ys e=>k b _ (R.notup e) e
theorem Kp.of_same{H':Hp}(s:Same H H'):Kp x a H H':=λb o _ e=>s b o e
theorem Kp.trans{H' H'':Hp}(h:Kp x a H H')(k:Kp x a H' H''):Kp x a H H'':=λb o n e=>k b o n (h b o n e)
theorem wO(h:Ow x a b):Kp x a H (upd H b o):=λc o' n e=>by rw[zk (λz=>n (by rw[z];exact h))];exact e
theorem RnAt.same{H':Hp}(R:RnAt t H x a C s)(k:Same H H'):RnAt t H' x a C s :=
 ⟨k _ _ R.ix,let ⟨xs,h1,h2⟩:=R.hc;⟨xs,k _ _ h1,xO k h2⟩,k _ _ R.hs,k _ _ R.hg,k _ _ R.hn,k _ _ R.ha,R.ng,R.nc⟩
theorem RnAt.keep{H':Hp}(R:RnAt t H x a C s)(k:∀b o,OwA x a b->H b=aa o->H' b=aa o)(ts:TSm H H'):RnAt t H' x a C s :=
 ⟨k _ _ (.inl (.inl rfl)) R.ix,let ⟨xs,h1,h2⟩:=R.hc;⟨xs,k _ _ (.inr rfl) h1,xI ts h2⟩,k _ _ (.inl (.inr (.inl rfl))) R.hs,k _ _ (.inl (.inr (.inr (.inl rfl)))) R.hg,k _ _ (.inl (.inr (.inr (.inr (.inl rfl))))) R.hn,k _ _ (.inl (.inr (.inr (.inr (.inr rfl))))) R.ha,R.ng,R.nc⟩
theorem RnAt.putI(R:RnAt t H x a C s)(s':RSt)(e1:s'.sl=s.sl)(e2:s'.gi=s.gi)(e3:s'.no=s.no)(e4:s'.sa=s.sa):RnAt t (upd H x (.ins t.q00 a.dx (zg3 a s'))) x a C s':=by
 refine⟨zg,?_,?_,?_,?_,?_,R.ng,R.nc⟩
 ·obtain⟨xs,h1,h2⟩:=R.hc
  exact⟨xs,by rw[zk (zT h1 R.ix (by lia))];exact h1,xI (R.ts (wO (.inl rfl))) h2⟩
 ·rw[zk (zT R.hs R.ix (by lia)),e1];exact R.hs
 ·rw[zk (zT R.hg R.ix (by lia)),e2];exact R.hg
 ·rw[zk (zT R.hn R.ix (by lia)),e3];exact R.hn
 ·rw[zk (zT R.ha R.ix (by lia)),e4];exact R.ha
theorem RnAt.putS(R:RnAt t H x a C s)(kvs:List (Key × V)):RnAt t (upd H a.sl (.dK kvs)) x a C { s with sl:=kvs }:=by
 refine⟨by rw[zk (zT R.ix R.hs (by lia))];exact R.ix,?_,zg,?_,?_,?_,R.ng,R.nc⟩
 ·obtain⟨xs,h1,h2⟩:=R.hc
  exact⟨xs,by rw[zk (zT h1 R.hs (by lia))];exact h1,xI (R.ts (wO (.inr (.inl rfl)))) h2⟩
 ·rw[zk (zT R.hg R.hs (by lia))];exact R.hg
 ·rw[zk (zT R.hn R.hs (by lia))];exact R.hn
 ·rw[zk (zT R.ha R.hs (by lia))];exact R.ha
theorem RnAt.putG(R:RnAt t H x a C s)(rows:List Row):RnAt t (upd H a.gi (.dT (dOf rows))) x a C { s with gi:=rows }:=by
 refine⟨by rw[zk (zT R.ix R.hg (by lia))];exact R.ix,?_,?_,zg,?_,?_,R.ng,R.nc⟩
 ·obtain⟨xs,h1,h2⟩:=R.hc
  exact⟨xs,by rw[zk (zT h1 R.hg (by lia))];exact h1,xI (R.ts (wO (.inr (.inr (.inl rfl))))) h2⟩
 ·rw[zk (zT R.hs R.hg (by lia))];exact R.hs
 ·rw[zk (fc R.ng)];exact R.hn
 ·rw[zk (zT R.ha R.hg (by lia))];exact R.ha
theorem RnAt.putO(R:RnAt t H x a C s)(rows:List Row):RnAt t (upd H a.no (.dT (dOf rows))) x a C { s with no:=rows }:=by
 refine⟨by rw[zk (zT R.ix R.hn (by lia))];exact R.ix,?_,?_,?_,zg,?_,R.ng,R.nc⟩
 ·obtain⟨xs,h1,h2⟩:=R.hc
  exact⟨xs,by rw[zk (zT h1 R.hn (by lia))];exact h1,xI (R.ts (wO (.inr (.inr (.inr (.inl rfl)))))) h2⟩
 ·rw[zk (zT R.hs R.hn (by lia))];exact R.hs
 ·rw[zk R.ng];exact R.hg
 ·rw[zk (zT R.ha R.hn (by lia))];exact R.ha
theorem RnAt.putA(R:RnAt t H x a C s)(is:List Int):RnAt t (upd H a.sa (.lst (is.map V.int))) x a C { s with sa:=is }:=by
 refine⟨by rw[zk (zT R.ix R.ha (by lia))];exact R.ix,?_,?_,?_,?_,zg,R.ng,R.nc⟩
 ·obtain⟨xs,h1,h2⟩:=R.hc
  exact⟨xs,by rw[zk R.nc];exact h1,xI (R.ts (wO (.inr (.inr (.inr (.inr rfl)))))) h2⟩
 ·rw[zk (zT R.hs R.ha (by lia))];exact R.hs
 ·rw[zk (zT R.hg R.ha (by lia))];exact R.hg
 ·rw[zk (zT R.hn R.ha (by lia))];exact R.hn
end
theorem YT(h:¬ yp C s=af):s.n < C.length:=by
 unfold yp at h
 simp only[Bool.or_eq_true,decide_eq_true_eq,not_or] at h
 lia
theorem zaY(rows:List Row)(p:Pl)(w:Int):zx (rows ++ [(p,w)]) p=aa w:=by
 have h:=xA (rows ++ [(p,w)]) p
 rw[qC,WC,ao rfl] at h
 cases hl:zx (rows ++ [(p,w)]) p with
 | none=>rw[hl] at h;cases h
 | some i=>rw[hl] at h;cases h;rfl
theorem zgs(h:CsAt H v c):∃p zs hd,v=.ref p/\H p=aa (.tup zs)/\atI zs 0=aa (.str hd)/\(hd=bc "take"->∃sh e x te,c=.row (.take sh e x)/\atI zs 1=aa (.str sh)/\atI zs 2=aa (.ref te)/\H te=aa (.tup e))/\(hd≠bc "take"->∀s,vy c s=ah):=by
 cases c with
 | row r =>
  have h1:=h.1
  cases r with
  | take sh e sl=>unfold RwAt at h1;obtain⟨r,te,rfl,_,_,e2,e3⟩:=h1;exact⟨r,_,_,rfl,e2,rfl,λ_=>⟨sh,e,sl,te,rfl,rfl,rfl,e3⟩,λz=>absurd rfl z⟩
  | give sh e f=>unfold RwAt at h1;obtain⟨r,te,tf,rfl,_,_,_,e2,e3⟩:=h1;exact⟨r,_,_,rfl,e2,rfl,λz=>absurd z (by lia),λ_ _=>rfl⟩
  | lt sl e=>unfold RwAt at h1;obtain⟨r,te,rfl,_,_,e2,e3⟩:=h1;exact⟨r,_,_,rfl,e2,rfl,λz=>absurd z (by lia),λ_ _=>rfl⟩
  | say e=>unfold RwAt at h1;obtain⟨r,te,rfl,_,_,e2,e3⟩:=h1;exact⟨r,_,_,rfl,e2,rfl,λz=>absurd z (by lia),λ_ _=>rfl⟩
  | off e=>unfold RwAt at h1;obtain⟨r,te,rfl,_,_,e2,e3⟩:=h1;exact⟨r,_,_,rfl,e2,rfl,λz=>absurd z (by lia),λ_ _=>rfl⟩
  | iff e b d=>exact(h.2:False).elim
 | skip e to=>obtain⟨p,te,e1,e2,_⟩:=h;exact⟨p,_,_,e1,e2,rfl,λz=>absurd z (by lia),λ_ _=>rfl⟩
 | go en=>obtain⟨p,e1,e2⟩:=h;exact⟨p,_,_,e1,e2,rfl,λz=>absurd z (by lia),λ_ _=>rfl⟩
theorem zaZ{κ:Type} [DecidableEq κ]{kvs:List (κ × V)}{k:κ}(h:k ∉ kvs.map (·.1)):yd kvs k=ah:=by
 cases e:yd kvs k with
 | none=>rfl
 | some v=>exact absurd (zbh e) h
theorem zby:∀(gs:List Row) (kvs:List (List Key × V)),(∀r∈gs,zy r.1 ∉ kvs.map (·.1))->(gs.map (·.1)).Nodup->gs.foldl YG kvs=kvs ++ gs.map λr=>(zy r.1,V.int r.2)
 | [],kvs,_,_=>by simp
 | r :: gs,kvs,h,nd=>by
  rw[bM,cO] at nd
  rw[eA,YG,qv _ (zaZ (h r bt)),zby gs _ (λq hq=>?_) nd.2,bM,fC,List.singleton_append]
  rw[cB,bJ,not_or]
  refine⟨h q (br _ hq),λz=>nd.1 ?_⟩
  have z2:zy q.1=zy r.1:=by simpa using z
  rw[<-yN z2]
  exact bX hq
theorem W8{gs:List Row}(nd:(gs.map (·.1)).Nodup):dOf gs=gs.map λr=>(zy r.1,V.int r.2):=by
 unfold dOf
 rw[zby gs [] (λ_ _ h=>nomatch h) nd,cz]
theorem YU{H H':Hp}(s:Same H H'):∀ {ys:List V} {rows:List Row},Paired (PrAt H) ys rows->Paired (PrAt H') ys rows
 | _,_,.nil=>.nil
 | _,_,.cons ⟨r,p,e1,e2,e3⟩ t=>.cons ⟨r,p,e1,s _ _ e2,s _ _ e3⟩ (YU s t)
section
variable {x:ac}{a:RAd}{C:List Cs}{s:RSt}{E:XK}
theorem Kb{vs:List V}{_E:XK}(F:RnF K t)(h:yQ t vs H Q _E) :
  q9 K t (qqN Q) (L2.start ["self"] vs) H:=by
 obtain⟨x,a,C,s,rfl,R,q⟩:=h
 simp only[q9,zN,L2.start,zG,tOp,zb,tC,zc,zi,zfU,tCB,KC,rI0,V7,xZ,cM,bD,b8,bO,bf,bu,ap,V.int.injEq,V.ref.injEq,V.bl.injEq,bQ,and_true,true_and,aq,cg,b9,dt,decide_eq_false_iff_not]
 obtain⟨xs,hx,pr⟩:=R.hc
 have lx:=bF pr
 refine⟨_,_,_,R.ix,F.cl,F.n3,_,rfl,?_⟩
 cases hw:s.why with
 | some w =>
  rw[ao (by lia)]
  have e:yp C s=af:=by unfold yp;rw[hw];rfl
  rw[e] at q
  exact q H λ_ _ z=>z
 | none =>
  rw[ak (λz=>z rfl)]
  refine⟨_,_,_,R.ix,F.cl,F.n2,_,rfl,_,_,_,R.ix,F.cl,F.n1,_,rfl,xs.length,.inl ⟨_,SqL.of hx,rfl⟩,_,rfl,?_⟩
  have e:yp C s=decide ((xs.length:Int)<=(s.n:Int)):=by unfold yp;rw[hw,lx];simp
  rw[<-e]
  exact q H λ_ _ z=>z
theorem Xw{tm:ac}{e:List V}(F:RnF K t)(R:RnAt t H x a C s)(h2:yV s.sl)(h3:H tm=aa (.tup e))(h4:TermOk e)
  (q:∀H',Same H H'->fin t (rk s.sl e) Q E H'):vm K t E (qqN Q) (L2.start ["self","term"] [.ref x,.ref tm]) H:=by
 simp only[vm,qO,zN,L2.start,zG,zb,zc,zi,zL,cM,bD,b8,bO,bf,bp,bu,ap,V.ref.injEq,bQ,and_true,and_assoc,aq,cg,b9]
 exact⟨_,_,_,R.ix,F.cl,F.n4,_,rfl,s.sl,_,rfl,e,h3,R.hs,_,h4.good s.sl,h4.2.1,h4.2.2,h2,q⟩
theorem Xx{vs:List V}(F:RnF K t)(h:yO t vs H Q E) :
  vn K t E (qqN Q) (L2.start ["self","due"] vs) H:=by
 obtain⟨x,p,xs,sh,te,e,a,C,s,rfl,R,h2,h3,h4,h5,h6,h7,q1,q2⟩:=h
 simp only[vn,yi,zO,L2.start,yS,zG,tOp,zb,tC,yt,zc,zi,yS,cM,bD,b8,bO,bf,bp,bu,ap,V.int.injEq,V.ref.injEq,bQ,and_true,and_assoc,aq,cg,b9]
 refine⟨_,SqT.of h3,_,h4,_,_,R.ix,rfl,_,SqT.of h3,_,h5,_,rfl,e,a,C,s,R,h2,h6,h7,λH1 s1=>?_⟩
 cases hk:rk s.sl e with
 | error er=>exact fin_err.mpr (q2 er H1 hk s1)
 | ok n =>
  refine fin_ok.mpr ⟨by lia,λp hp=>?_⟩
  exact q1 n p _ hk (s1.trans (isV (o:=HO.tup [V.str sh,V.int n]) p hp)) zg
theorem VC{vs:List V}{_E:XK}(F:RnF K t)(h:kN t vs H Q _E) :
  kW K t (qqN Q) (L2.start ["self","place","worth"] vs) H:=by
 obtain⟨x,q,p,w,a,C,s,rfl,R,h2,h3,k⟩:=h
 simp only[kW,jR,Vr,wX,zN,L2.start,zo,zG,zH,tOp,zb,zQ,zB,cM,bD,b8,bO,bf,bp,bu,ap,V.ref.injEq,V.bl.injEq,aq,cg,b9,dt,if_true,cC,ite_false]
 have g1:DGet H a.gi (.ref q) ((zx s.gi p).map V.int):=.inr ⟨dOf s.gi,zy p,q,.inl R.hg,rfl,h2,(xA _ _).symm⟩
 have g2:DGet H a.no (.ref q) ((zx s.no p).map V.int):=.inr ⟨dOf s.no,zy p,q,.inl R.hn,rfl,h2,(xA _ _).symm⟩
 refine⟨_,_,_,R.ix,F.cl,F.n5,_,rfl,_,rfl,_,g1,?_⟩
 cases hg:zx s.gi p with
 | some i =>
  rw[ao (by simp)]
  have e:xt p w s=s:=by unfold xt;rw[ao (.inl (by rw[hg];rfl))]
  have e2:jG p w s=i:=by unfold jG;rw[hg];rfl
  rw[e,e2] at k
  rw[hg] at g1
  exact⟨_,_,_,R.ix,F.cl,F.n5,_,rfl,_,rfl,_,g1,k H (.of_same λ_ _ z=>z) R⟩
 | none =>
  rw[ak (by simp)]
  refine⟨_,_,_,R.ix,F.cl,F.n6,_,rfl,_,rfl,_,g2,?_⟩
  cases ho:zx s.no p with
  | some i =>
   rw[ak (by simp)]
   have e:xt p w s=s:=by unfold xt;rw[ao (.inr (by rw[ho];rfl))]
   have e2:jG p w s=i:=by unfold jG;rw[hg,ho];rfl
   rw[e,e2] at k
   rw[ho] at g2
   exact⟨_,_,_,R.ix,F.cl,F.n6,_,rfl,_,rfl,_,g2,k H (.of_same λ_ _ z=>z) R⟩
  | none =>
   rw[ao (by simp)]
   have e:xt p w s={ s with no:=s.no ++ [(p,w)] }:=by unfold xt;rw[ak (by rw[hg,ho];simp)]
   have e2:jG p w s=w:=by unfold jG;rw[hg,ho];rfl
   rw[e,e2] at k
   have ld:=wj s.no
   have ep:yC (dOf s.no) (zy p) (V.int w)=dOf (s.no ++ [(p,w)]):=(qC s.no (p,w)).symm
   have D:=DPut.t (k:=zy p) (v:=V.int w) R.hn h2 (bY (by lia:_<=900) (by lia))
   rw[ep] at D
   have R2:=R.putO (s.no ++ [(p,w)])
   have K2:Kp x a H (upd H a.no (.dT (dOf (s.no ++ [(p,w)])))):=wO (.inr (.inr (.inr (.inl rfl))))
   refine⟨_,_,_,R.ix,F.cl,F.n6,_,rfl,_,rfl,_,D,_,_,_,R2.ix,F.cl,F.n6,_,rfl,_,rfl,V.int w,?_,k _ K2 R2⟩
   refine .inr ⟨_,zy p,q,.inl R2.hn,rfl,K2 _ _ (R.notup h2) h2,?_⟩
   rw[xA,zaY];rfl
theorem Kc{vs:List V}{_E:XK}{P:Str->Option ae}(T:Txt K P t)(h:xX t vs H Q _E) :
  Zc K t (qqN Q) (L2.start ["self","worth"] vs) H:=by
 obtain⟨x,w,m,a,C,s,rfl,R,h2,h3,h4,q⟩:=h
 simp only[Zc,yQ,wR,zN,xK,zO,JV,zaK,zdK,L2.start,zo,zcy,zH,tOp,zb,tC,zc,zi,zQ,tB,yL,cM,bD,b8,bO,bf,bp,bu,ap,V.int.injEq,V.ref.injEq,V.bl.injEq,bQ,and_true,and_assoc,aq,cg,b9]
 have F:=rnF T
 refine⟨_,_,R.ix,rfl,a,C,s,R,λH1 s1=>?_⟩
 have R1:=R.same s1
 by_cases ho:yp C s=af
 ·rw[ao ho]
  exact q H1 (.of_same s1) (by unfold xU;rw[ao ho];exact R1)
 rw[ak ho]
 obtain⟨xs,hx,pr⟩:=R1.hc
 have lx:=bF pr
 have lt:=YT ho
 have hc:C[s.n]?=aa C[s.n]:=bb lt
 have hv:xs[s.n]?=aa xs[s.n]:=bb (by lia)
 have cv:=yv pr hv hc
 have es:∀w,xU C w s=yk C[s.n] w s:=λw=>by unfold xU;rw[ak ho,hc]
 rw[es] at q
 refine⟨_,_,R1.ix,rfl,_,_,_,R1.ix,F.cl,F.n1,_,rfl,_,_,_,R1.ix,F.cl,F.n2,_,rfl,_,rfl,xs,_,rfl,SqL.of hx,_,wc hv,C[s.n],m,a,C,s,R1,cv,h2 _ (eN lt),h3,h4,λH2 s' k e K2 R2=>⟨_,_,_,R2.ix,F.cl,F.n2,(by show (7:Nat) < 1000;decide),?_⟩,λH2 er e s2=>?_⟩
 ·have z:=R2.putI { s' with n:=k } rfl rfl rfl rfl
  exact q _ ((Kp.of_same s1).trans (K2.trans (wO (.inl rfl)))) (by unfold yk;rw[e];exact z)
 ·have R3:=R1.same s2
  have z:=R3.putI { s with why:=aa (Qi er) } rfl rfl rfl rfl
  have q':=q _ ((Kp.of_same s1).trans ((Kp.of_same s2).trans (wO (.inl rfl)))) (by unfold yk;rw[e];exact z)
  cases er with
  | nought=>exact⟨t.q06,rfl,.inr ⟨T.q2o,T.q2p,_,_,_,R3.ix,F.cl,F.n3,(by show (7:Nat) < 1000;decide),q'⟩⟩
  | great=>exact⟨t.q07,rfl,.inl ⟨T.q2r,_,_,_,R3.ix,F.cl,F.n3,(by show (7:Nat) < 1000;decide),q'⟩⟩
  | stuck=>trivial
theorem VD{vs:List V}{_E:XK}(F:RnF K t)(h:ww t vs H Q _E) :
  kX K t (qqN Q) (L2.start ["self","notes"] vs) H:=by
 obtain⟨x,a,C,s,rfl,R,h2,h3,h4,q1,q2⟩:=h
 simp only[kX,yQ,zO,L2.start,zo,zG,zH,zb,tC,zi,zQ,Y8,tB,cM,bD,b8,ca,cz,bO,bf,bu,ap,V.ref.injEq,V.bl.injEq,bQ,and_true,aq,cg,b9,dt]
 refine⟨_,_,R.ix,rfl,a,C,s,R,λH1 s1=>?_⟩
 have R1:=R.same s1
 cases ho:yp C s with
 | false=>rw[ao rfl];exact q1 H1 ho s1
 | true =>
  rw[ak (by lia)]
  simp only[Ze,Zd,zgW,zN,JX,zds,zdx,zo,zK,zp,zG,zH,tOp,zb,tC,xo,yt,zc,zi,zQ,zB,tCB,V7,b8,bf,bp,bu,ap,V.ref.injEq,V.bl.injEq,bQ,and_true,true_and,aq,cf,cA,b9,dt,decide_eq_false_iff_not]
  refine⟨_,_,_,R1.ix,F.cl,F.n6,_,rfl,_,rfl,_,R1.hn,λr hr=>⟨a.no,zg,dOf s.no,(by rw[zk (zC R1.hn hr)];exact R1.hn),(by have:=wj s.no;lia),λl ys H2 s2 fl hl pr=>?_⟩⟩
  have sv:=isV (o:=ZK r a.no) r hr
  have S2:=sv.trans s2
  have R2:=R1.same S2
  have nl:H l=ah:=zJ (s1.trans sv) fl
  rw[W8 h3] at pr
  have pn:=zdy pr
  refine⟨_,_,_,R2.ix,F.cl,F.n3,_,rfl,?_⟩
  cases hw:s.why with
  | some w =>
   rw[ao (by lia)]
   refine⟨_,_,_,R2.ix,F.cl,F.n3,_,rfl,by lia,λp hp=>⟨by lia,λg hg=>⟨by lia,λr2 hr2=>?_⟩⟩⟩
   rw[hw]
   rw[hw] at hg hr2
   have t1:=isV (o:=HO.tup [V.str (bc "off"),zg2 (aa w)]) p hp
   have t2:=isV (o:=HO.lst []) g hg
   have t3:=isV (o:=HO.tup [V.ref p,V.ref l,V.ref g]) r2 hr2
   have T3:=t1.trans (t2.trans t3)
   refine q2 r2 (.ref p) l g [] _ ho (s1.trans (S2.trans T3)) nl (zJ (s1.trans (S2.trans t1)) hg) (λz=>by rw[<-z,t1 _ _ hl] at hg;cases hg) zg ?_ ⟨ys,T3 _ _ hl,YU T3 pn⟩ ⟨[],t3 _ _ zg,.nil⟩ ?_
   ·unfold zgm;rw[hw];exact⟨p,rfl,(t2.trans t3) _ _ zg⟩
   ·unfold qQ;rw[hw]
  | none =>
   rw[ak (λz=>z rfl)]
   refine⟨_,_,_,R2.ix,F.cl,F.n7,_,rfl,_,rfl,_,.inl ⟨SqL.of R2.ha,λy hy=>⟨by lia,λp hp=>?_⟩⟩⟩
   have t1:=isV (o:=HO.tup (cM V.int s.sa)) y hy
   have t2:=isV (o:=HO.tup [V.str (bc "done"),V.ref y]) p hp
   have R3:=R2.same (t1.trans t2)
   have ly:=t2 _ _ (zg (H:=H2) (a:=y) (o:=HO.tup (cM V.int s.sa)))
   have lp:upd (upd H2 y (HO.tup (cM V.int s.sa))) p (HO.tup [V.str (bc "done"),V.ref y]) p=aa (HO.tup [V.str (bc "done"),V.ref y]):=zg
   have T2:=t1.trans t2
   generalize upd (upd H2 y (HO.tup (cM V.int s.sa))) p (HO.tup [V.str (bc "done"),V.ref y])=H3 at *
   refine⟨_,_,_,R3.ix,F.cl,F.n5,_,rfl,_,rfl,_,R3.hg,λr3 hr3=>⟨a.gi,zg,s.gi,(by rw[zk (zC R3.hg hr3)];exact R3.hg),(by have:=wj s.gi;lia),λg zs srt H4 s4 fg hg ps ri mi=>⟨by lia,λr2 hr2=>?_⟩⟩⟩
   have t3:=(isV (o:=ZK r3 a.gi) r3 hr3).trans s4
   have t5:=isV (o:=HO.tup [V.ref p,V.ref l,V.ref g]) r2 hr2
   have T5:=t3.trans t5
   have fg3:H3 g=ah:=zJ (isV (o:=ZK r3 a.gi) r3 hr3) fg
   refine q2 r2 (.ref p) l g srt _ ho (s1.trans (S2.trans (T2.trans T5))) nl (zJ (s1.trans (S2.trans T2)) fg3) (λz=>by rw[<-z,T2 _ _ hl] at fg3;cases fg3) zg ?_ ⟨ys,(T2.trans T5) _ _ hl,YU (T2.trans T5) pn⟩ ⟨zs,t5 _ _ hg,YU t5 ps⟩ ?_
   ·unfold zgm;rw[hw];exact⟨p,y,rfl,T5 _ _ lp,T5 _ _ ly⟩
   ·unfold qQ;rw[hw];exact⟨ri,mi⟩
end
theorem zdU(p:Pl)(w:Int)(s:RSt):(xt p w s).sl=s.sl:=by unfold xt;split <;> rfl
theorem zfd(p:Pl)(w:Int)(s:RSt):(xt p w s).n=s.n:=by unfold xt;split <;> rfl
theorem zg6{w:Int}(h:Yg r)(e:doR r w s=.ok s'):s'.n=s.n:=by
 cases r with
 | take sh e' x =>
  cases hk:rk s.sl e' with
  | error er=>simp only[doR,hk] at e;cases e
  | ok n=>simp only[doR,hk] at e;cases e;exact zfd _ _ _
 | give sh e' f =>
  cases hk:rk s.sl e' with
  | error er=>simp only[doR,hk] at e;cases e
  | ok n =>
   cases hk2:rk s.sl f with
   | error er=>simp only[doR,hk,hk2] at e;cases e
   | ok i=>simp only[doR,hk,hk2] at e;cases e;rfl
 | lt x e' =>
  cases hk:rk s.sl e' with
  | error er=>simp only[doR,hk] at e;cases e
  | ok n=>simp only[doR,hk] at e;cases e;rfl
 | say e' =>
  cases hk:rk s.sl e' with
  | error er=>simp only[doR,hk] at e;cases e
  | ok n=>simp only[doR,hk] at e;cases e;rfl
 | off e'=>exact h.elim
 | iff e' b d=>exact h.elim
theorem QE{r:Rw}{w:Int}{s:RSt}(h:Yg r):xm (.row r) w s=match doR r w s with
  | .error er=>.error er
  | .ok s'=>.ok (s.n + 1,s'):=by
 cases r with
 | off e'=>exact h.elim
 | iff e' b d=>exact h.elim
 | take sh e' x=>rfl
 | give sh e' f=>rfl
 | lt x e'=>rfl
 | say e'=>rfl
theorem zfe(r:Rw)(h:W5 r):(∃e,r=.off e)\/Yg r:=by
 cases r with
 | off e'=>exact .inl ⟨e',rfl⟩
 | iff e' b d=>exact h.elim
 | take sh e' x=>exact .inr trivial
 | give sh e' f=>exact .inr trivial
 | lt x e'=>exact .inr trivial
 | say e'=>exact .inr trivial
theorem zff{F:ac->Prop}(h:RwAt F H v r)(d:Yg r):∃p xs hd,v=.ref p/\H p=aa (.tup xs)/\atI xs 0=aa (.str hd)/\hd≠bc "go"/\hd≠bc "skip"/\hd≠bc "off":=by
 cases r with
 | take sh e sl=>unfold RwAt at h;obtain⟨r,te,rfl,_,_,e2,e3⟩:=h;exact⟨r,_,_,rfl,e2,rfl,by lia,by lia,by lia⟩
 | give sh e f=>unfold RwAt at h;obtain⟨r,te,tf,rfl,_,_,_,e2,e3⟩:=h;exact⟨r,_,_,rfl,e2,rfl,by lia,by lia,by lia⟩
 | lt sl e=>unfold RwAt at h;obtain⟨r,te,rfl,_,_,e2,e3⟩:=h;exact⟨r,_,_,rfl,e2,rfl,by lia,by lia,by lia⟩
 | say e=>unfold RwAt at h;obtain⟨r,te,rfl,_,_,e2,e3⟩:=h;exact⟨r,_,_,rfl,e2,rfl,by lia,by lia,by lia⟩
 | off e=>exact d.elim
 | iff e a b=>exact d.elim
theorem Zz(h:yI x=af):cR x=af:=(zc7 h).flat
def QH(H H':Hp):Prop:=∀b ys,H b=aa (.tup ys)->H' b=aa (.tup ys)
theorem Same.ts{H H':Hp}(s:Same H H'):QH H H':=λb ys e=>s _ _ e
theorem QI{J:It}{H1:Hp}{Q:Hp->Prop}{B:V->St->Hp->(V->St->Hp->Prop)->(St->Hp->Prop)->Prop}(n:Nat)(hn:n<=1000000)(C:St->Prop)(R:Nat->List V->Hp->Prop)(hm:∀i ys H H',QH H H'->R i ys H->R i ys H')(hC:C τ₀)(h0:R 0 [] H1)
  (go:∀i H,Same H1 H->i < n->J.go i H) (stop:∀H,Same H1 H->J.stop n H) (hD:H1 D=ah)
  (hs:∀i x τ ys H H',C τ->Same H1 H->i < n->R i ys H->J.yld i H x H'->B x τ H' (λv τ' H4=>C τ'/\R (i + 1) (ys ++ [v]) H4/\Same H H4) (λτ' H4=>C τ'/\R (i + 1) ys H4/\Same H H4))
  (hd:∀ys H,ys.length<=n->R n ys H->Same H1 H->H D=aa (.lst ys)->Q H) :
  ∃W:Nat->Nat->List V->St->Hp->Prop,(∃m,W 0 m [] τ₀ (upd H1 D (.lst [])))/\∀i m ys τ H,W i m ys τ H->H D=aa (.lst ys) /\
  ((J.stop i H/\Q H)\/(J.go i H/\ys.length < sizeLine/\∃N:V->St->Hp->Prop,
   (∀v τ' H',N v τ' H'->H' D=aa (.lst ys)/\∃m',m' < m/\W (i + 1) m' (ys ++ [v]) τ' (upd H' D (.lst (ys ++ [v]))))/\∃Nf:St->Hp->Prop,(∀τ' H',Nf τ' H'->∃m',m' < m/\W (i + 1) m' ys τ' H') /\
   ∀x H',J.yld i H x H'->B x τ H' N Nf)):=by
 have ext:∀ {H:Hp} {o:HO},Same H1 H->Same H1 (upd H D o):=λ{H o} h b u e=>by
  rw[zk (zC e hD)];exact h b u e
 refine⟨λi m ys τ H=>m=n - i/\i<=n/\ys.length<=i/\R i ys H/\Same H1 H/\H D=aa (.lst ys)/\C τ,⟨n,by simp,bW _,bh _,hm _ _ _ _ (Same.ts (ext (Same.refl _))) h0,ext (Same.refl _),zg,hC⟩,?_⟩
 rintro i m ys τ H ⟨rfl,hi,hl,hR,hS,hy,hc⟩
 refine⟨hy,?_⟩
 by_cases hlt:i < n
 ·refine .inr ⟨go i H hS hlt,bY (by lia:ys.length<=1000000) (by lia),_,?_,_,?_,λx H' y=>hs i x τ ys H H' hc hS hlt hR y⟩
  ·rintro v τ' H4 ⟨c4,r4,s4⟩
   have y4:=s4 _ _ hy
   exact⟨y4,n - (i + 1),by lia,rfl,hlt,by simp;lia,hm _ _ _ _ (λb zs e=>by rw[zk (zT e y4 (by simp))];exact e) r4,ext (hS.trans s4),zg,c4⟩
  ·rintro τ' H4 ⟨c4,r4,s4⟩
   exact⟨n - (i + 1),by lia,rfl,hlt,by lia,r4,hS.trans s4,s4 _ _ hy,c4⟩
 ·obtain rfl:i=n:=by lia
  exact .inl ⟨stop H hS,hd ys H hl hR hS hy⟩
theorem YV{P:Nat->Bool}(h:YO P x)(h':YO P y):YO P (x ++ y):=by
 unfold YO at *
 rw[zeL,rf,h,h'];rfl
theorem zdV{P:Nat->Bool}(h:P c=af):YO P ⟨#[c]⟩:=by
 show [c].all P=af
 rw[gp,h];rfl
theorem zfg{P:Nat->Bool}(h:YO P x)(k:Nat):YO P (gF x ah (aa (k:Int))):=by
 unfold YO at *
 rw[KZ]
 rw[iV] at *
 exact λc hc=>h c (dR hc)
theorem zcj{P:Nat->Bool}(h:YO P x)(k:Nat):YO P (gF x (aa (k:Int)) ah):=by
 unfold YO at *
 rw[WM]
 rw[iV] at *
 exact λc hc=>h c (dA hc)
theorem zgt(x:Str)(k:Nat)(h:k<=x.length):(gF x ah (aa (k:Int))).length=k:=by
 rw[YD] at *
 rw[KZ,cH];lia
theorem zdW(x:Str)(k:Nat):(gF x (aa (k:Int)) ah).length=x.length - k:=by
 rw[YD,YD,WM,cT]
theorem zbz{P:Str->Prop}:∀ {ys:List V},(∀v∈ys,∃x,v=.str x/\P x)->∃ls:List Str,ys=ls.map V.str/\∀x∈ls,P x
 | [],_=>⟨[],rfl,λ_ z=>nomatch z⟩
 | v :: r,h=>by
  obtain⟨x,rfl,px⟩:=h v bt
  obtain⟨ls,rfl,pl⟩:=zbz (ys:=r) λu hu=>h u (br _ hu)
  exact⟨x :: ls,rfl,λy hy=>by
   rcases bE.mp hy with rfl | hy
   ·exact px
   ·exact pl y hy⟩
structure RnP(m:Nat)(s:RSt):Prop where
 ok:RnOk m s
 ng:∀r∈s.gi,cR r.1.1=af
 nn:∀r∈s.no,cR r.1.1=af
theorem RnOk.up(h:RnOk m s):RnOk (m + 1) s:=⟨h.so,h.gw,h.nw,cu h.l1,cu h.l2,cu h.l3,cu h.l4,h.nd⟩
theorem RnP.up(h:RnP m s):RnP (m + 1) s:=⟨h.ok.up,h.ng,h.nn⟩
theorem zdX{p:Pl}{l:List Row}(nd:(l.map (·.1)).Nodup)(h:zx l p=ah):p ∉ l.map (·.1):=λz=>by
 obtain⟨r,hr,e⟩:=bP.mp z
 have:=(YI (w:=r.2) nd).mpr (show (p,r.2)∈l by rw[<-e];exact hr)
 rw[h] at this
 cases this
theorem zdY{w:Int}(h:RnOk m s)(hw:inW w=af):inW (jG p w s)=af:=by
 unfold jG
 cases e:zx s.gi p with
 | some i=>exact vB (P:=λr=>inW r.2=af) h.gw e
 | none =>
  cases e2:zx s.no p with
  | some i=>exact vB (P:=λr=>inW r.2=af) h.nw e2
  | none=>exact hw
theorem zfh{m:Nat}{s:RSt}{p:Pl}{w i:Int}{x:Str}(h:RnP m s)(hp:cR p.1=af)(hw:inW w=af)(hi:inW i=af):RnP (m + 1) { xt p w s with sl:=yC s.sl (.inr x) (.int i) }:=by
 have so:=Jg h.ok.so (.inr x) hi
 have l1:(yC s.sl (.inr x) (V.int i)).length<=m + 1:=bN (xT _ _ _) (fQ h.ok.l1)
 unfold xt
 by_cases c:(zx s.gi p).isSome=af\/(zx s.no p).isSome=af
 ·rw[ao c]
  exact⟨⟨so,h.ok.gw,h.ok.nw,l1,cu h.ok.l2,cu h.ok.l3,cu h.ok.l4,h.ok.nd⟩,h.ng,h.nn⟩
 ·rw[ak c]
  have cn:zx s.no p=ah:=by
   cases e:zx s.no p with
   | none=>rfl
   | some i=>exact absurd (.inr (by rw[e];rfl)) c
  refine⟨⟨so,h.ok.gw,λr hr=>?_,l1,cu h.ok.l2,?_,cu h.ok.l4,?_⟩,h.ng,λr hr=>?_⟩
  ·rcases bJ.mp hr with hr | hr
   ·exact h.ok.nw r hr
   ·rw[bI.mp hr];exact hw
  ·show (s.no ++ [(p,w)]).length<=m + 1
   rw[bn];exact fQ h.ok.l3
  ·show ((s.no ++ [(p,w)]).map (·.1)).Nodup
   rw[cB]
   refine List.nodup_append.mpr ⟨h.ok.nd,by simp,λa ha b hb=>?_⟩
   have hb:b=p:=by simpa using hb
   rw[hb]
   exact λz=>zdX h.ok.nd cn (by rw[<-z];exact ha)
  ·rcases bJ.mp hr with hr | hr
   ·exact h.nn r hr
   ·rw[bI.mp hr];exact hp
theorem zgu{w:Int}(h:RnP m s)(d:Yg r)(k:qD r)(pl:WZ r)(hw:inW w=af)(e:doR r w s=.ok s'):RnP (m + 1) s'/\s'.why=s.why:=by
 cases r with
 | off e'=>exact d.elim
 | iff e' b c=>exact d.elim
 | take sh e' x =>
  cases hk:rk s.sl e' with
  | error er=>simp only[doR,hk] at e;cases e
  | ok n =>
   simp only[doR,hk] at e
   cases e
   exact⟨zfh h pl.1 hw (zdY h.ok hw),by show (xt _ _ _).why=_;unfold xt;split <;> rfl⟩
 | give sh e' f =>
  cases hk:rk s.sl e' with
  | error er=>simp only[doR,hk] at e;cases e
  | ok n =>
   cases hk2:rk s.sl f with
   | error er=>simp only[doR,hk,hk2] at e;cases e
   | ok i =>
    simp only[doR,hk,hk2] at e
    cases e
    have hi:=zdo h.ok.so k.2.2.1 hk2
    refine⟨⟨⟨h.ok.so,λr hr=>?_,h.ok.nw,cu h.ok.l1,?_,cu h.ok.l3,cu h.ok.l4,h.ok.nd⟩,λr hr=>?_,h.nn⟩,rfl⟩
    ·rcases bJ.mp hr with hr | hr
     ·exact h.ok.gw r hr
     ·rw[bI.mp hr];exact hi
    ·show (s.gi ++ [((sh,n),i)]).length<=m + 1
     rw[bn];exact fQ h.ok.l2
    ·rcases bJ.mp hr with hr | hr
     ·exact h.ng r hr
     ·rw[bI.mp hr];exact pl.1
 | lt x e' =>
  cases hk:rk s.sl e' with
  | error er=>simp only[doR,hk] at e;cases e
  | ok i =>
   simp only[doR,hk] at e
   cases e
   have hi:=zdo h.ok.so k.2.1 hk
   exact⟨⟨⟨Jg h.ok.so _ hi,h.ok.gw,h.ok.nw,bN (xT _ _ _) (fQ h.ok.l1),cu h.ok.l2,cu h.ok.l3,cu h.ok.l4,h.ok.nd⟩,h.ng,h.nn⟩,rfl⟩
 | say e' =>
  cases hk:rk s.sl e' with
  | error er=>simp only[doR,hk] at e;cases e
  | ok i =>
   simp only[doR,hk] at e
   cases e
   exact⟨⟨⟨h.ok.so,h.ok.gw,h.ok.nw,cu h.ok.l1,cu h.ok.l2,cu h.ok.l3,by show (s.sa ++ [i]).length<=m + 1;rw[bn];exact fQ h.ok.l4,h.ok.nd⟩,h.ng,h.nn⟩,rfl⟩
theorem zgv(er:Er):cR (Qi er)=af:=by cases er <;> lia
theorem Kd{w:Int}(O:W7 C)(h:RnI C m s)(ho:yp C s=am)(hw:inW w=af):RnI C (m + 1) (xU C w s):=by
 have no:¬ yp C s=af:=by rw[ho];decide
 have lt:=YT no
 have hc:C[s.n]?=aa C[s.n]:=bb lt
 have es:xU C w s=yk C[s.n] w s:=by unfold xU;rw[ak no,hc]
 have wn:s.why=ah:=by
  cases e:s.why with
  | none=>rfl
  | some v=>exact absurd (show yp C s=af by unfold yp;rw[e];rfl) no
 have mn:=h.at_ wn
 have ok:=O.ok _ (eN lt)
 have pl:=O.pl _ (eN lt)
 have P:RnP m s:=⟨h.ok,h.ng,h.nn⟩
 have fin:∀ {s':RSt} {k:Nat},RnP (m + 1) s'->(s'.why=ah->m + 1<=k)->(∀v,s'.why=aa v->cR v=af)->RnI C (m + 1) { s' with n:=k }:=λ{s' k} p l y =>
  ⟨⟨p.ok.so,p.ok.gw,p.ok.nw,p.ok.l1,p.ok.l2,p.ok.l3,p.ok.l4,p.ok.nd⟩,p.ng,p.nn,l,y⟩
 have bad:∀er,RnI C (m + 1) { s with why:=aa (Qi er) }:=λer=>⟨⟨P.up.ok.so,P.up.ok.gw,P.up.ok.nw,P.up.ok.l1,P.up.ok.l2,P.up.ok.l3,P.up.ok.l4,P.up.ok.nd⟩,P.ng,P.nn,λz=>(by cases z),λv z=>by cases z;exact zgv er⟩
 have does:∀r:Rw,Yg r->J5 (.row r)->ze8 (.row r)->RnI C (m + 1) (yk (.row r) w s):=λr hf ok pl=>by
  unfold yk
  rw[QE hf]
  cases hk:doR r w s with
  | error er=>exact bad er
  | ok s' =>
   obtain⟨a,b⟩:=zgu P hf ok pl hw hk
   exact fin a (λ_=>by lia) (λv z=>h.wy v (by rw[<-b];exact z))
 rw[es]
 have hg:∀to,C[s.n]=.go to->s.n < to:=λto e=>O.fg s.n to (by rw[hc,e])
 have hs:∀e to,C[s.n]=.skip e to->s.n < to:=λe to e2=>O.fw s.n to e (by rw[hc,e2])
 generalize C[s.n]=c at *
 cases c with
 | go to =>
  have:=hg to rfl
  exact fin P.up (λ_=>by lia) h.wy
 | skip e to =>
  have:=hs e to rfl
  cases hk:rk s.sl e with
  | error er=>simp only[yk,xm,hk];exact bad er
  | ok i =>
   simp only[yk,xm,hk]
   refine fin P.up (λ_=>?_) h.wy
   split <;> lia
 | row r =>
  cases r with
  | off e =>
   cases hk:rk s.sl e with
   | error er=>simp only[yk,xm,hk];exact bad er
   | ok i =>
    by_cases hi:i=0
    ·simp only[yk,xm,hk,ao hi]
     exact fin P.up (λ_=>by lia) h.wy
    ·simp only[yk,xm,hk,ak hi]
     exact fin (s':={ s with why:=aa (bc "told") }) ⟨⟨P.up.ok.so,P.up.ok.gw,P.up.ok.nw,P.up.ok.l1,P.up.ok.l2,P.up.ok.l3,P.up.ok.l4,P.up.ok.nd⟩,P.ng,P.nn⟩ (λz=>by cases z) (λv z=>by cases z;lia)
  | iff e b d=>exact fin (k:=s.n + 1) P.up (λ_=>by lia) h.wy
  | take sh e x=>exact does (.take sh e x) trivial ok pl
  | give sh e x=>exact does (.give sh e x) trivial ok pl
  | lt sh e=>exact does (.lt sh e) trivial ok pl
  | say e=>exact does (.say e) trivial ok pl
structure FwC(k:Nat)(C:List Cs):Prop where
 ok:∀c∈C,J5 c/\ze8 c
 fw:∀(i to:Nat) (e:List V),C[i]?=aa (Cs.skip e to)->k + i < to
 fg:∀(i to:Nat),C[i]?=aa (Cs.go to)->k + i < to
theorem FwC.nil(k:Nat):FwC k []:=⟨λc h=>(nomatch h),λi to e h=>by simp at h,λi to h=>by simp at h⟩
theorem FwC.cons(h1:J5 c/\ze8 c)(h2:∀e to,c=.skip e to->k < to)(h3:∀to,c=.go to->k < to)(h:FwC (k + 1) C):FwC k (c :: C):=by
 refine⟨λx hx=>?_,λi to e hi=>?_,λi to hi=>?_⟩
 ·rcases bE.mp hx with rfl | hx
  ·exact h1
  ·exact h.ok x hx
 ·cases i with
  | zero=>have:=h2 e to (by simpa using hi);lia
  | succ i=>have:=h.fw i to e (by simpa using hi);lia
 ·cases i with
  | zero=>have:=h3 to (by simpa using hi);lia
  | succ i=>have:=h.fg i to (by simpa using hi);lia
theorem FwC.app:∀ {A:List Cs} {k:Nat} {B:List Cs},FwC k A->FwC (k + A.length) B->FwC k (A ++ B)
 | [],k,B,_,h=>by simpa using h
 | c :: A,k,B,h,h'=>by
  rw[ca]
  refine .cons (h.ok c bt) (λe to z=>by have:=h.fw 0 to e (by rw[z];rfl);lia) (λto z=>by have:=h.fg 0 to (by rw[z];rfl);lia) (FwC.app ⟨λx hx=>h.ok x (br _ hx),λi to e hi=>?_,λi to hi=>?_⟩ (by rw[bR] at h';rw[show k + 1 + A.length=k + (A.length + 1) by lia];exact h'))
  ·have:=h.fw (i + 1) to e (by simpa using hi);lia
  ·have:=h.fg (i + 1) to (by simpa using hi);lia
mutual
theorem zdZ:∀(r:Rw) (k:Nat),qD r->WZ r->FwC k (xk r k)
 | .iff e a b,k,o,p=>by
  unfold qD at o
  unfold WZ at p
  have ha:=ZA a (k + 1) o.2.1 p.2.1
  have hb:=ZA b (k + 2 + (zZ a (k + 1)).length) o.2.2 p.2.2
  have ec:xk (.iff e a b) k=blk e k (zZ a (k + 1)) (Rws.isNil b) (zZ b (k + 2 + (zZ a (k + 1)).length)):=by rw[xk]
  rw[ec]
  generalize zZ a (k + 1)=A at *
  generalize zZ b (k + 2 + A.length)=B at *
  unfold blk
  split
  ·exact .cons ⟨o.1,trivial⟩ (λe' to z=>by cases z;lia) (λto z=>nomatch z) ha
  ·refine .cons ⟨o.1,trivial⟩ (λe' to z=>by cases z;lia) (λto z=>nomatch z) (.app ha (.cons ⟨trivial,trivial⟩ (λe' to z=>nomatch z) (λto z=>by cases z;lia) ?_))
   rw[show k + 1 + A.length + 1=k + 2 + A.length by lia]
   exact hb
 | .take sh e sl,k,o,p=>by rw[vK (x:=.take sh e sl) trivial];exact .cons ⟨o,p⟩ (λ_ _ z=>nomatch z) (by lia) (.nil _)
 | .give sh e f,k,o,p=>by rw[vK (x:=.give sh e f) trivial];exact .cons ⟨o,p⟩ (λ_ _ z=>nomatch z) (by lia) (.nil _)
 | .lt sl e,k,o,p=>by rw[vK (x:=.lt sl e) trivial];exact .cons ⟨o,p⟩ (λ_ _ z=>nomatch z) (by lia) (.nil _)
 | .say e,k,o,p=>by rw[vK (x:=.say e) trivial];exact .cons ⟨o,p⟩ (λ_ _ z=>nomatch z) (by lia) (.nil _)
 | .off e,k,o,p=>by rw[vK (x:=.off e) trivial];exact .cons ⟨o,p⟩ (λ_ _ z=>nomatch z) (by lia) (.nil _)
theorem ZA:∀(r:Rws) (k:Nat),ZJ r->qE r->FwC k (zZ r k)
 | .nil,k,o,p=>by rw[zZ];exact .nil k
 | .cons r rs,k,o,p=>by
  unfold ZJ at o
  unfold qE at p
  rw[zZ]
  exact .app (zdZ r k o.1 p.1) (ZA rs _ o.2 p.2)
end
theorem zg7(h1:W6 6 r)(h2:ZJ r)(h3:(zZ r 0).length<=40):W7 (zZ r 0):=by
 have f:=ZA r 0 h2 h1.pl
 exact⟨λc hc=>(f.ok c hc).1,λc hc=>(f.ok c hc).2,λi to e h=>by have:=f.fw i to e h;lia,λi to h=>by have:=f.fg i to h;lia,h3⟩
section
variable {C:List Cs}{s:RSt}{m:Nat}
theorem zfi(h:qQ s out)(h':qQ s out'):out=out':=by
 unfold qQ at h h'
 cases e:s.why with
 | some w=>rw[e] at h h';rw[h,h']
 | none=>rw[e] at h h';exact WT h.1 h'.1 λ⟨p,w⟩=>(h.2 p w).trans (h'.2 p w).symm
theorem zd0(h:qQ s out):out.length<=s.gi.length:=by
 unfold qQ at h
 cases e:s.why with
 | some w=>rw[e] at h;rw[h];exact bW _
 | none =>
  rw[e] at h
  have ld:=wj s.gi
  have n1:((dOf s.gi).map (·.1)).Nodup:=(vV s.gi).1
  have n2:((out.map (·.1)).map zy).Nodup:=by
   have:=h.1.nd
   unfold gP at *
   rw[fJ]
   exact this.imp λ{a b} hab z=>hab (yN z)
  have sub2:∀k∈(out.map (·.1)).map zy,k∈(dOf s.gi).map (·.1):=λk hk=>by
   obtain⟨p,hp,rfl⟩:=bP.mp hk
   obtain⟨r,hr,rfl⟩:=bP.mp hp
   exact bX (f:=(·.1)) (mem_dOf.mpr ⟨r.1,r.2,rfl,(h.2 r.1 r.2).mp hr⟩)
  have:=vJ n2 sub2
  simp only[bo] at this
  lia
end
theorem zd1{H0 H1 H3:Hp}(s1:Same H0 H1)(hx:H1 x=ah)(hdx:H1 dx=ah)(k3:Jn x (upd (upd H1 dx (.own x)) x (.ins t.q00 dx [])) H3)(fr:∀b,OwA x a b->b=x\/upd (upd H1 dx (.own x)) x (.ins t.q00 dx []) b=ah):Same H1 H3/\∀b,OwA x a b->H1 b=ah:=by
 have s2:Same H1 (upd (upd H1 dx (HO.own x)) x (HO.ins t.q00 dx [])):=λb o e=>by rw[zk (zC e hx),zk (zC e hdx)];exact e
 refine⟨λb o e=>k3 b o (λz=>by rw[z,hx] at e;cases e) (s2 b o e),λb ob=>?_⟩
 rcases fr b ob with z | z
 ·rw[z];exact hx
 ·exact zJ s2 z
theorem RnAt.off(R:RnAt t H x a C s)(n:¬ OwA x a l)(h:H l=aa (.lst ys)):RnAt t (upd H l (.lst zs)) x a C s:=
 R.keep (λb o ow e=>by rw[zk (λz=>n (by rw[<-z];exact ow))];exact e) (J9 h)
section
variable {C:List Cs}
theorem RnAt.has(R:RnAt t H x a C s)(ow:OwA x a b):H b≠ah:=by
 obtain⟨ys,hy,_⟩:=R.hc
 rcases ow with (z | z | z | z | z) | z
 ·rw[z,R.ix];exact λz=>nomatch z
 ·rw[z,R.hs];exact λz=>nomatch z
 ·rw[z,R.hg];exact λz=>nomatch z
 ·rw[z,R.hn];exact λz=>nomatch z
 ·rw[z,R.ha];exact λz=>nomatch z
 ·rw[z,hy];exact λz=>nomatch z
end
theorem _root_.L2.PrAt.same{H H':Hp}(h:Qr H v q)(s:Same H H'):Qr H' v q:=by
 obtain⟨r,p,e,h1,h2⟩:=h
 exact⟨r,p,e,s _ _ h1,s _ _ h2⟩
theorem _root_.L2.PrAt.tsame{H H':Hp}(h:Qr H v q)(s:QH H H'):Qr H' v q:=by
 obtain⟨r,p,e,h1,h2⟩:=h
 exact⟨r,p,e,s _ _ h1,s _ _ h2⟩
theorem W9{H H':Hp}(s:QH H H'):∀ {vs:List V} {rows:List Row},wL H vs rows->wL H' vs rows
 | _,_,.nil=>.nil
 | _,_,.cons h r=>.cons (h.tsame s) (W9 s r)
theorem vL{H H':Hp}(s:Same H H'):∀ {vs:List V} {rows:List Row},wL H vs rows->wL H' vs rows
 | _,_,.nil=>.nil
 | _,_,.cons h r=>.cons (h.same s) (vL s r)
theorem QJ(h:wL H vs rows):vs.length=rows.length:=bF h
theorem Xy{H:Hp}{v:V}{q:Row}:∀ {ys:List V} {rows:List Row},wL H ys rows->Qr H v q->wL H (ys ++ [v]) (rows ++ [q])
 | _,_,.nil,h=>.cons h .nil
 | _,_,.cons a r,h=>.cons a (Xy r h)
theorem QK(rows:List Row):∃qs:List Pl,(dOf rows).map (·.1)=qs.map zy/\qs.Nodup/\∀p,p∈qs↔(zx rows p).isSome=af:=by
 have h:=vV rows
 have:∀(kvs:List (List Key × V)),(∀kv∈kvs,∃(p:Pl) (w:Int),kv=(zy p,.int w))->∃qs:List Pl,kvs.map (·.1)=qs.map zy:=λkvs=>by
  induction kvs with
  | nil=>exact λ_=>⟨[],rfl⟩
  | cons kv r ih =>
   intro hk
   obtain⟨qs,e⟩:=ih λz hz=>hk z (br _ hz)
   obtain⟨p,w,e2⟩:=hk kv bt
   exact⟨p :: qs,by rw[bM,bM,e,e2]⟩
 obtain⟨qs,e⟩:=this _ h.2
 refine⟨qs,e,xL (f:=zy) (by rw[<-e];exact h.1),λp=>?_⟩
 constructor
 ·intro hp
  have:zy p∈(dOf rows).map (·.1):=by rw[e];exact bX hp
  obtain⟨kv,hk,e1⟩:=bP.mp this
  obtain⟨p',w,rfl,hw⟩:=mem_dOf.mp hk
  have:=yN e1
  subst this
  rw[hw];rfl
 ·intro hp
  obtain⟨w,hw⟩:=eK.mp hp
  have:zy p∈qs.map zy:=by rw[<-e];exact bX (f:=(·.1)) (mem_dOf.mpr ⟨p,w,rfl,hw⟩)
  obtain⟨p',hp',e1⟩:=bP.mp this
  rw[<-yN e1];exact hp'
def XW(rows:List Row)(p:Pl):Option Row:=match zx rows p with
 | some w=>if w=0 then ah else aa (p,w)
 | none=>ah
def zfj(rows:List Row)(qs:List Pl)(i:Nat)(ys:List V)(H:Hp):Prop:=∃out:List Row,wL H ys out/\out=(qs.take i).filterMap (XW rows)
theorem zbA{H H':Hp}(s:QH H H')(h:zfj rows qs i ys H):zfj rows qs i ys H':=by
 obtain⟨out,h1,h2⟩:=h
 exact⟨out,W9 s h1,h2⟩
theorem toRow_iff :XW rows p=aa b↔b.1=p/\zx rows p=aa b.2/\b.2≠0:=by
 unfold XW
 obtain⟨p',w'⟩:=b
 cases e:zx rows p with
 | none=>simp
 | some w =>
  by_cases h:w=0
  ·subst h
   simp only[if_true]
   constructor
   ·intro z;cases z
   ·rintro⟨_,z,h2⟩
    exact absurd (bV z).symm h2
  ·simp only[ak h,bu,Prod.mk.injEq]
   constructor
   ·rintro⟨rfl,rfl⟩;exact⟨rfl,rfl,h⟩
   ·rintro⟨rfl,rfl,_⟩;exact⟨rfl,rfl⟩
theorem zd2{ps:List Pl}(hw:ps.Pairwise λa b=>yj a b=af)(hm:∀p,p∈ps↔(zx rows p).isSome=af):YH rows (ps.filterMap (XW rows)):=by
 constructor
 ·unfold Rising
  rw[List.pairwise_filterMap]
  refine hw.imp λ{a a'} h b hb b' hb'=>?_
  rw[(toRow_iff.mp hb).1,(toRow_iff.mp hb').1];exact h
 ·intro p w
  rw[List.mem_filterMap]
  constructor
  ·rintro⟨a,_,h⟩
   obtain⟨h1,h2,h3⟩:=toRow_iff.mp h
   cases h1
   exact⟨h2,h3⟩
  ·rintro⟨h1,h2⟩
   exact⟨p,(hm p).mpr (by rw[h1];rfl),toRow_iff.mpr ⟨rfl,h1,h2⟩⟩
theorem VE{a:ac}{xs:List V}{rows:List Row}(h1:H a=aa (.lst xs))(h2:wL H xs rows)(h4:(dOf rows).length<=63)(h5:rows.length<=1000)(q:∀l ys out H',Same H H'->H l=ah->H' l=aa (.lst ys)->wL H' ys out->YH rows out->Q (.ref l) H') :
  ju K t (qqN Q) (L2.start ["rows","worths"] [.ref a]) H:=by
 simp only[ju,wX,Qa,YJ,L2.start,zo,zK,zp,zG,tOp,zb,tC,yt,zc,zi,zB,tCB,qf,KR,wV,rNe,JB,cM,bD,b8,ca,cz,bf,bp,bu,ap,V.ref.injEq,V.bl.injEq,bQ,and_true,aq,cf,cA,cg,b9,dt,decide_eq_false_iff_not]
 refine⟨xs,h1,rows,h2,h5,λd hd=>?_⟩
 have S:∀u:HO,Same H (upd H d u):=λu=>isV (o:=u) d hd
 obtain⟨qs,hqs,nqs,mqs⟩:=QK rows
 have ld:=wj rows
 generalize hH0:upd H d (.dT (dOf rows))=H0
 have S0:Same H H0:=by rw[<-hH0];exact S _
 have d0:H0 d=aa (.dT (dOf rows)):=by rw[<-hH0];exact zg
 refine⟨dOf rows,d0,qs,hqs,by lia,λl ps hl0 hperm hpw hps=>?_⟩
 obtain⟨H1,eH,s1,q1⟩:=zbk (o:=HO.lst (ps.map λn=>V.ref n.1)) hl0
 rw[<-eH]
 clear eH
 refine⟨⟨_,SqL.of q1⟩,λD hD=>?_⟩
 refine QI (J:=Itl K l) ps.length (by have:=hperm.length_eq;have:=congrArg b8 hqs;simp at *;lia) (λτ=>∃o,τ=[o,aa (.ref d)]) (zfj rows (ps.map (·.2))) (λi ys H H' s h=>zbA s h) ⟨_,rfl⟩ ⟨[],.nil,rfl⟩ (λi H s h=>⟨_,_,SqL.of (s _ _ q1),bb (by rw[bo];exact h)⟩) (λH s=>⟨_,SqL.of (s _ _ q1),by rw[bo];exact bh _⟩) hD ?_ ?_
 ·rintro i v τ ys H4 H5 ⟨o,rfl⟩ s4 hi hR ⟨rfl,hv⟩
  have hv:=hv _ (SqL.of (s4 _ _ q1))
  rw[bw] at hv
  obtain⟨n,hn,rfl⟩:=cy.mp hv
  have hp:=s4 _ _ (s1 _ _ (hps n (cE hn)))
  simp only[bf,bp,bu,ap,V.ref.injEq,bQ,and_true,cf]
  have hm:n.2∈qs:=hperm.mem_iff.mp (bX (cE hn))
  obtain⟨w,hw⟩:=eK.mp ((mqs n.2).mp hm)
  have g:DGet H5 d (.ref n.1) ((zx rows n.2).map V.int):=.inr ⟨dOf rows,zy n.2,n.1,.inl (s4 _ _ (s1 _ _ d0)),rfl,hp,(xA rows n.2).symm⟩
  rw[hw] at g
  have tk:(ps.map (·.2)).take (i + 1)=(ps.map (·.2)).take i ++ [n.2]:=by rw[dq,bw,hn];rfl
  obtain⟨out,hr,ho⟩:=hR
  refine⟨_,g,rfl,xp (λc=>⟨_,g,by lia,λp hp2=>⟨⟨_,rfl⟩,?_,isV p hp2⟩⟩) λc=>⟨⟨_,rfl⟩,?_,Same.refl _⟩⟩
  ·refine⟨out ++ [(n.2,w)],Xy (vL (isV p hp2) hr) ⟨p,n.1,rfl,zg,isV p hp2 _ _ hp⟩,?_⟩
   have hw0:w≠0:=λz=>c (by rw[z])
   rw[tk,iQ,<-ho]
   simp[XW,hw,hw0]
  ·refine⟨out,hr,?_⟩
   have hw0:w=0:=by simpa using c
   rw[tk,iQ,<-ho]
   simp[XW,hw,hw0]
 ·rintro ys H4 hly ⟨out,hr,ho⟩ s4 hq
  refine q D ys out H4 (S0.trans (s1.trans s4)) (zJ (S0.trans s1) hD) hq hr ?_
  rw[cp (by rw[bo];exact bh _)] at ho
  subst ho
  exact zd2 hpw λp=>(hperm.mem_iff.trans (mqs p))
theorem YW{p:Pl}{w:Int}:∀ {l:List Row},zx l p=aa w->(p,w)∈l
 | [],h=>by cases h
 | r :: t,h=>by
  rw[zx] at h
  cases e:zx t p with
  | some w' =>
   rw[e] at h
   have:w'=w:=by simpa using h
   subst this
   exact br _ (YW e)
  | none =>
   rw[e] at h
   by_cases c:r.1=p
   ·rw[ao c] at h
    have:r.2=w:=by simpa using h
    rw[<-c,<-this];exact bt
   ·rw[ak c] at h;cases h
theorem zck(h:YH rows out):out.length<=rows.length:=by
 have h1:=zeX h
 have h2:=iJ nzV (dOf rows)
 have h3:=wj rows
 lia
theorem LsAt.same{H H':Hp}(h:LsAt H a rows)(s:Same H H'):LsAt H' a rows:=by
 obtain⟨xs,h1,h2⟩:=h
 exact⟨xs,s _ _ h1,vL s h2⟩
theorem QL{H:Hp}{b:List Row}{ys:List V}(h2:wL H ys b):∀ {xs:List V} {a:List Row},wL H xs a->wL H (xs ++ ys) (a ++ b)
 | _,_,.nil=>h2
 | _,_,.cons h r=>.cons h (QL h2 r)
theorem Ke{vs:List V}{_E:XK}(h:jt vs H Q _E) :
  ju K t (qqN Q) (L2.start ["rows","worths"] vs) H:=by
 obtain⟨a,rows,rfl,h1,h2,h3,q⟩:=h
 obtain⟨xs,hx,rx⟩:=h1
 exact VE hx rx h2 h3 λl ys out H' s fr hy ry ti=>q l out H' s fr ⟨ys,hy,ry⟩ ti
theorem QN{vs:List V}{_E:XK}(h:kP vs H Q _E) :
  Yj K t (qqN Q) (L2.start ["table","gifts"] vs) H:=by
 obtain⟨a,b,tab,gifts,rfl,h1,h2,h3,h4,q⟩:=h
 simp only[Yj,jt,ZB,L2.start,zG,tOp,zb,zc,zi,zL,ZB,cM,bD,b8,bO,bf,bp,bu,ap,V.ref.injEq,bQ,and_true,aq,cg,b9]
 obtain⟨xs,hx,rx⟩:=h1
 obtain⟨ys,hy,ry⟩:=h2
 have l:=h4
 rw[bn,<-QJ rx,<-QJ ry] at l
 exact⟨xs,hx,ys,hy,bN l (by lia),λp hp=>⟨tab ++ gifts,⟨xs ++ ys,zg,vL (isV p hp) (QL ry rx)⟩,h3,h4,λl out H' s fr hl ti=>q l out H' ((isV p hp).trans s) (zJ (isV p hp) fr) hl ti⟩⟩
theorem za0{vs:List V}{_E:XK}(h:Zy vs H Q _E) :
  Xr K t (qqN Q) (L2.start ["table","place"] vs) H:=by
 obtain⟨a,p,tab,q0,rfl,h1,h5,h6,q⟩:=h
 simp only[Xr,YJ,xh,L2.start,xh,zG,zb,tC,zc,zi,tCB,cM,bD,b8,bO,bf,bp,bu,ap,V.ref.injEq,bQ,and_true,aq,cg,b9]
 obtain⟨xs,h1,h2⟩:=h1
 refine⟨xs,h1,tab,h2,by lia,λd hd=>⟨.inr ⟨dOf tab,.inl zg⟩,?_⟩⟩
 have S:=isV (o:=HO.dT (dOf tab)) d hd
 have g:DGet (upd H d (.dT (dOf tab))) d (.ref p) ((zx tab q0).map V.int):=.inr ⟨dOf tab,zy q0,p,.inl zg,rfl,S _ _ h6,(xA tab q0).symm⟩
 refine⟨_,g,?_⟩
 have:=q _ S
 cases e:zx tab q0 with
 | none=>rw[e] at this;exact this
 | some w=>rw[e] at this;exact this
theorem zg8(h:lfV v):kA v/\isJ v=am/\plV v:=by
 rcases h with ⟨i,rfl,hi⟩ | ⟨x,rfl,hx⟩
 ·exact⟨.inl ⟨i,rfl,hi⟩,rfl,.inl ⟨i,rfl⟩⟩
 ·have:=YE hx
  exact⟨.inr ⟨x,rfl,by lia⟩,this.2.2.1,.inr ⟨x,rfl,Zz hx⟩⟩
theorem NamesAt.same{H H':Hp}(h:NamesAt H nm ws)(s:Same H H'):NamesAt H' nm ws:=⟨s _ _ h.1,h.2⟩
theorem QO(h:NamesAt H nm ws)(n:Nat)(hl:ws.length=n)(hn:0 < (n:Int))(e:Int):∃x,atI (ws.map V.str) (e % n)=aa (.str x)/\x∈ws/\yI x=af:=by
 obtain⟨v,hv,hm⟩:=zgq e n (xs:=ws.map V.str) (by rw[bo,hl]) hn
 obtain⟨x,hx,rfl⟩:=bP.mp hm
 exact⟨x,hv,hx,h.2 x hx⟩
theorem Jq(ha:TermOk a)(hb:TermOk b)(hw:wdJ w)(l:a.length + b.length < 1000):TermOk (a ++ b ++ [.str w]):=by
 refine⟨λkvs=>?_,λz hz=>?_,by rw[bn,bn,cN];lia⟩
 ·obtain⟨r1,g1⟩:=ha.1 kvs
  obtain⟨r2,g2⟩:=hb.1 kvs
  exact⟨_,zb5 hw.1 g1 g2⟩
 ·rcases bJ.mp hz with hz | hz
  ·rcases bJ.mp hz with hz | hz
   ·exact ha.2.1 z hz
   ·exact hb.2.1 z hz
  ·rw[bI.mp hz];exact .inr ⟨w,rfl,hw.2.1⟩
theorem zbB(ha:tmP a)(hb:tmP b)(hw:wdJ w):tmP (a ++ b ++ [.str w]):=λz hz=>by
 rcases bJ.mp hz with hz | hz
 ·rcases bJ.mp hz with hz | hz
  ·exact ha z hz
  ·exact hb z hz
 ·rw[bI.mp hz];exact .inr ⟨w,rfl,hw.2.2⟩
theorem YX(h:lfV u):TermOk [u]/\tmP [u]:=by
 obtain⟨o1,j1,p1⟩:=zg8 h
 exact⟨zdB o1 j1,λz hz=>by rw[bI.mp hz];exact p1⟩
mutual
theorem zfk:∀(r:Rw) (k:Nat),(xk r k).length<=szR r/\r.cnt<=szR r
 | .iff e a b,k=>by
  have h1:=YY a (k + 1)
  have h2:=YY b (k + 2 + (zZ a (k + 1)).length)
  have c:(Rw.iff e a b).cnt=max a.cnt b.cnt + 1:=by rw[Rw.cnt]
  have z:szR (.iff e a b)=qT a + qT b + 2:=by rw[szR]
  rw[xk,c,z]
  unfold blk
  split
  ·exact⟨by simp;lia,by lia⟩
  ·exact⟨by simp;lia,by lia⟩
 | .take sh e sl,k=>by simp[xk,szR,Rw.cnt]
 | .give sh e f,k=>by simp[xk,szR,Rw.cnt]
 | .lt sl e,k=>by simp[xk,szR,Rw.cnt]
 | .say e,k=>by simp[xk,szR,Rw.cnt]
 | .off e,k=>by simp[xk,szR,Rw.cnt]
theorem YY:∀(r:Rws) (k:Nat),(zZ r k).length<=qT r/\r.cnt<=qT r
 | .nil,k=>by simp[zZ,qT,Rws.cnt]
 | .cons r rs,k=>by
  have h1:=zfk r k
  have h2:=YY rs (k + (xk r k).length)
  rw[zZ,qT,Rws.cnt,bn]
  lia
end
theorem Zk(C:List Cs)(tb:Pl->Int):∀(a b:Nat) (s:RSt),Xn C tb (a + b) s=Xn C tb b (Xn C tb a s)
 | 0,b,s=>by rw[nU];rfl
 | a + 1,b,s=>by
  rw[oV]
  exact Zk C tb a b (jh C tb s)
theorem QP{C:List Cs}{tb:Pl->Int}{s:RSt}(h:yp C s=af):∀k,Xn C tb k s=s
 | 0=>rfl
 | k + 1=>by
  have e:jh C tb s=s:=by unfold jh xU;rw[ao h]
  show Xn C tb k (jh C tb s)=s
  rw[e]
  exact QP h k
theorem zgw{w:Int}(h:doR r w s=.ok s'):s'.no=s.no\/∃p,vy (.row r) s=aa p/\s'.no=s.no ++ [(p,w)]:=by
 cases r with
 | take sh e x =>
  cases hk:rk s.sl e with
  | error er=>rw[doR,hk] at h;cases h
  | ok n =>
   rw[doR,hk] at h
   cases h
   by_cases hh:(zx s.gi (sh,n)).isSome=af\/(zx s.no (sh,n)).isSome=af
   ·refine .inl ?_
    show (xt (sh,n) w s).no=s.no
    rw[show xt (sh,n) w s=s from ao hh]
   ·refine .inr ⟨(sh,n),?_,?_⟩
    ·simp only[vy,hk]
     rw[ak hh]
    ·show (xt (sh,n) w s).no=s.no ++ [((sh,n),w)]
     rw[show xt (sh,n) w s={ s with no:=s.no ++ [((sh,n),w)] } from ak hh]
 | give sh e f =>
  cases hk:rk s.sl e with
  | error er=>rw[doR,hk] at h;cases h
  | ok n =>
   rw[doR,hk] at h
   dsimp only at h
   cases hf:rk s.sl f with
   | error er=>rw[hf] at h;cases h
   | ok i=>rw[hf] at h;cases h;exact .inl rfl
 | lt x e =>
  cases hk:rk s.sl e with
  | error er=>rw[doR,hk] at h;cases h
  | ok n=>rw[doR,hk] at h;cases h;exact .inl rfl
 | say e =>
  cases hk:rk s.sl e with
  | error er=>rw[doR,hk] at h;cases h
  | ok n=>rw[doR,hk] at h;cases h;exact .inl rfl
 | off e=>cases h;exact .inl rfl
 | iff e a b=>cases h;exact .inl rfl
theorem zfl{w:Int}(h:vy (.row (.take sh e x)) s=aa p):(yk (.row (.take sh e x)) w s).no=s.no ++ [(p,w)]:=by
 cases hk:rk s.sl e with
 | error er=>simp only[vy,hk] at h;cases h
 | ok n =>
  simp only[vy,hk] at h
  by_cases hh:(zx s.gi (sh,n)).isSome=af\/(zx s.no (sh,n)).isSome=af
  ·rw[ao hh] at h;cases h
  ·rw[ak hh] at h
   cases h
   simp only[yk,xm,doR,hk]
   show (xt (sh,n) w s).no=_
   rw[show xt (sh,n) w s={ s with no:=s.no ++ [((sh,n),w)] } from ak hh]
theorem zd3(c:Cs)(w:Int)(s:RSt):(vy c s=ah/\(yk c w s).no=s.no)\/∃p,vy c s=aa p/\(yk c w s).no=s.no ++ [(p,w)]:=by
 cases ha:vy c s with
 | some p =>
  cases c with
  | row r =>
   cases r with
   | take sh e x=>exact .inr ⟨p,rfl,zfl ha⟩
   | _=>cases ha
  | _=>cases ha
 | none =>
  refine .inl ⟨rfl,?_⟩
  cases c with
  | go k=>rfl
  | skip e to =>
   simp only[yk,xm]
   cases rk s.sl e <;> rfl
  | row r =>
   have d:∀s',doR r w s=.ok s'->s'.no=s.no:=λs' h=>by
    rcases zgw h with z | ⟨p,z,_⟩
    ·exact z
    ·rw[ha] at z;cases z
   cases r with
   | off e =>
    simp only[yk,xm]
    cases rk s.sl e with
    | error er=>rfl
    | ok i=>dsimp only;split <;> rfl
   | take sh e x =>
    simp only[yk,xm]
    cases h:doR (.take sh e x) w s with
    | error er=>rfl
    | ok s'=>exact d s' h
   | give sh e f =>
    simp only[yk,xm]
    cases h:doR (.give sh e f) w s with
    | error er=>rfl
    | ok s'=>exact d s' h
   | lt x e =>
    simp only[yk,xm]
    cases h:doR (.lt x e) w s with
    | error er=>rfl
    | ok s'=>exact d s' h
   | say e =>
    simp only[yk,xm]
    cases h:doR (.say e) w s with
    | error er=>rfl
    | ok s'=>exact d s' h
   | iff e a b =>
    simp only[yk,xm]
    cases h:doR (.iff e a b) w s with
    | error er=>rfl
    | ok s'=>exact d s' h
theorem zgx(C:List Cs)(tb:Pl->Int)(s:RSt):(jX C s=ah/\(jh C tb s).no=s.no)\/∃p,jX C s=aa p/\(jh C tb s).no=s.no ++ [(p,tb p)]:=by
 by_cases ho:yp C s=af
 ·refine .inl ⟨by unfold jX;rw[ao ho],?_⟩
  unfold jh xU
  rw[ao ho]
 ·cases hc:C[s.n]? with
  | none =>
   refine .inl ⟨by unfold jX;rw[ak ho,hc];rfl,?_⟩
   unfold jh xU
   rw[ak ho,hc]
  | some c =>
   have e:jX C s=vy c s:=by unfold jX;rw[ak ho,hc];rfl
   have f:jh C tb s=yk c (ZD C tb s) s:=by unfold jh xU;rw[ak ho,hc]
   rw[e,f]
   rcases zd3 c (ZD C tb s) s with ⟨a,b⟩ | ⟨p,a,b⟩
   ·exact .inl ⟨a,b⟩
   ·refine .inr ⟨p,a,?_⟩
    rw[b]
    unfold ZD
    rw[e,a]
theorem zcl(c:Cs)(w:Int)(s:RSt):(yk c w s).gi.length + (yk c w s).no.length<=s.gi.length + s.no.length + 1:=by
 have z:s.gi.length + s.no.length<=s.gi.length + s.no.length + 1:=by lia
 cases c with
 | go k=>exact z
 | skip e to=>cases hk:rk s.sl e with
  | error x=>simp only[yk,xm,hk];exact z
  | ok i=>simp only[yk,xm,hk];exact z
 | row r =>
  cases r with
  | off e=>cases hk:rk s.sl e with
   | error x=>simp only[yk,xm,hk];exact z
   | ok i =>
    simp only[yk,xm,hk]
    split
    ·exact z
    ·exact z
  | iff e a b=>exact z
  | take sh e x=>cases hk:rk s.sl e with
   | error x=>simp only[yk,xm,doR,hk];exact z
   | ok i =>
    simp only[yk,xm,doR,hk]
    unfold xt
    split
    ·exact z
    ·show s.gi.length + (s.no ++ [((sh,i),w)]).length<=_
     rw[bn,cN];lia
  | give sh e f=>cases hk:rk s.sl e with
   | error x=>simp only[yk,xm,doR,hk];exact z
   | ok i=>cases hk2:rk s.sl f with
    | error x=>simp only[yk,xm,doR,hk,hk2];exact z
    | ok j =>
     simp only[yk,xm,doR,hk,hk2]
     rw[bn,cN];lia
  | lt x e=>cases hk:rk s.sl e with
   | error x=>simp only[yk,xm,doR,hk];exact z
   | ok i=>simp only[yk,xm,doR,hk];exact z
  | say e=>cases hk:rk s.sl e with
   | error x=>simp only[yk,xm,doR,hk];exact z
   | ok i=>simp only[yk,xm,doR,hk];exact z
theorem zfm(C:List Cs)(tb:Pl->Int)(s:RSt):(jh C tb s).gi.length + (jh C tb s).no.length<=s.gi.length + s.no.length + 1:=by
 unfold jh xU
 split
 ·lia
 ·split
  ·lia
  ·exact zcl ..
theorem rn0 :RnI C 0 st0:=⟨⟨(λk v e=>by cases e),(λr h=>nomatch h),(λr h=>nomatch h),bh _,bh _,bh _,bh _,ef⟩,(λr h=>nomatch h),(λr h=>nomatch h),λ_=>bW _,λw z=>nomatch z⟩
structure FdS(t:Adr)(H0 H:Hp)(x:ac)(a:RAd)(C:List Cs)(tb:Pl->Int)(k:Nat)(s:RSt):Prop where
 sm:Same H0 H
 R:RnAt t H x a C s
 I:RnI C k s
 rc:Xn C tb k st0=s
 fw:s.gi.length + s.no.length<=k
 le:k<=C.length
theorem FdS.same{H0 H':Hp}{tb:Pl->Int}(S:FdS t H0 H x a C tb k s)(h:Same H H'):FdS t H0 H' x a C tb k s:=⟨S.sm.trans h,S.R.same h,S.I,S.rc,S.fw,S.le⟩
section
variable {l tl x:ac}{a:RAd}{xs:List V}{C:List Cs}{rows:List Row}{H0:Hp}
theorem FdS.step{tb:Pl->Int}{H1 H2:Hp}(O:W7 C)(ow:∀b,OwA x a b->H0 b=ah)(S:FdS t H0 H1 x a C tb k s)(ho:yp C s=am)(hw:inW (ZD C tb s)=af)(k2:Kp x a H1 H2)(R2:RnAt t H2 x a C (xU C (ZD C tb s) s)):FdS t H0 H2 x a C tb (k + 1) (jh C tb s):=by
 have no:¬ yp C s=af:=by rw[ho];decide
 have lt:=YT no
 have wn:s.why=ah:=by
  cases e:s.why with
  | none=>rfl
  | some v=>exact absurd (show yp C s=af by unfold yp;rw[e];rfl) no
 have:=S.I.at_ wn
 refine⟨λb o e=>k2 b o (λy=>by rw[ow b (.inl y)] at e;cases e) (S.sm _ _ e),R2,Kd O S.I ho hw,?_,?_,by lia⟩
 ·rw[Zk,S.rc];rfl
 ·have:=zfm C tb s
  have:=S.fw
  lia
end
theorem zcm{J:It}{H1:Hp}{Q:Hp->Prop}{B:V->St->Hp->(V->St->Hp->Prop)->(St->Hp->Prop)->Prop}(n:Nat)(hn:n<=1000000)(C:St->Prop)(R:Nat->List V->Hp->Prop)(hm:∀i ys H H',(∀b o,b≠D->H b=aa o->H' b=aa o)->R i ys H->R i ys H')(hC:C τ₀)(h0:R 0 [] H1)
  (go:∀i H,Same H1 H->i < n->J.go i H) (stop:∀H,Same H1 H->J.stop n H) (hD:H1 D=ah)
  (hs:∀i x τ ys H H',C τ->Same H1 H->i < n->R i ys H->H D=aa (.lst ys)->J.yld i H x H'->B x τ H' (λv τ' H4=>C τ'/\R (i + 1) (ys ++ [v]) H4/\Same H H4) (λτ' H4=>C τ'/\R (i + 1) ys H4/\Same H H4))
  (hd:∀ys H,ys.length<=n->R n ys H->Same H1 H->H D=aa (.lst ys)->Q H) :
  ∃W:Nat->Nat->List V->St->Hp->Prop,(∃m,W 0 m [] τ₀ (upd H1 D (.lst [])))/\∀i m ys τ H,W i m ys τ H->H D=aa (.lst ys) /\
  ((J.stop i H/\Q H)\/(J.go i H/\ys.length < sizeLine/\∃N:V->St->Hp->Prop,
   (∀v τ' H',N v τ' H'->H' D=aa (.lst ys)/\∃m',m' < m/\W (i + 1) m' (ys ++ [v]) τ' (upd H' D (.lst (ys ++ [v]))))/\∃Nf:St->Hp->Prop,(∀τ' H',Nf τ' H'->∃m',m' < m/\W (i + 1) m' ys τ' H') /\
   ∀x H',J.yld i H x H'->B x τ H' N Nf)):=by
 have ext:∀ {H:Hp} {o:HO},Same H1 H->Same H1 (upd H D o):=λ{H o} h b u e=>by
  rw[zk (zC e hD)];exact h b u e
 refine⟨λi m ys τ H=>m=n - i/\i<=n/\ys.length<=i/\R i ys H/\Same H1 H/\H D=aa (.lst ys)/\C τ,⟨n,by simp,bW _,bh _,hm _ _ _ _ (λb o hb e=>by rw[zk hb];exact e) h0,ext (Same.refl _),zg,hC⟩,?_⟩
 rintro i m ys τ H ⟨rfl,hi,hl,hR,hS,hy,hc⟩
 refine⟨hy,?_⟩
 by_cases hlt:i < n
 ·refine .inr ⟨go i H hS hlt,bY (by lia:ys.length<=1000000) (by lia),_,?_,_,?_,λx H' y=>hs i x τ ys H H' hc hS hlt hR hy y⟩
  ·rintro v τ' H4 ⟨c4,r4,s4⟩
   have y4:=s4 _ _ hy
   exact⟨y4,n - (i + 1),by lia,rfl,hlt,by simp;lia,hm _ _ _ _ (λb o hb e=>by rw[zk hb];exact e) r4,ext (hS.trans s4),zg,c4⟩
  ·rintro τ' H4 ⟨c4,r4,s4⟩
   exact⟨n - (i + 1),by lia,rfl,hlt,by lia,r4,hS.trans s4,s4 _ _ hy,c4⟩
 ·obtain rfl:i=n:=by lia
  exact .inl ⟨stop H hS,hd ys H hl hR hS hy⟩
theorem zd4(I:RnI C m s)(h:qQ s out):∀r∈out,inW r.2=af:=by
 unfold qQ at h
 cases e:s.why with
 | some w=>rw[e] at h;rw[h];exact λr hr=>nomatch hr
 | none =>
  rw[e] at h
  intro r hr
  exact vB (P:=λr=>inW r.2=af) I.ok.gw ((h.2 r.1 r.2).mp hr)
structure MkF(K:bx)(t:Adr):Prop where
 cl:Cls K t.q02
 g:NoAttr K t.q02 "ground"
 f:NoAttr K t.q02 "folded"
 w:NoAttr K t.q02 "worths"
 r:NoAttr K t.q02 "ranks"
theorem mkF{P:Str->Option ae}(T:Txt K P t):MkF K t:=⟨T.q0d,T.q2c,T.q2b,T.q2e,T.q2d⟩
section
variable {gr wo rk:ac}{low:Int}
theorem zhn:cU (bc "ground") (Xo gr low wo rk)=aa (.ref gr):=by simp only[Xo,cq,beq_self_eq_true]
theorem zg9:cU (bc "folded") (Xo gr low wo rk)=aa (.int low):=by
 have h1:(bc "folded" == bc "ground")=am:=by lia
 simp only[Xo,cq,h1,beq_self_eq_true]
theorem zfn:cU (bc "worths") (Xo gr low wo rk)=aa (.ref wo):=by
 have h1:(bc "worths" == bc "ground")=am:=by lia
 have h2:(bc "worths" == bc "folded")=am:=by lia
 simp only[Xo,cq,h1,h2,beq_self_eq_true]
theorem zgy:cU (bc "ranks") (Xo gr low wo rk)=aa (.ref rk):=by
 have h1:(bc "ranks" == bc "ground")=am:=by lia
 have h2:(bc "ranks" == bc "folded")=am:=by lia
 have h3:(bc "ranks" == bc "worths")=am:=by lia
 simp only[Xo,cq,h1,h2,h3,beq_self_eq_true]
end
theorem zbC{rs:List Int}{k:Nat}{x:Int}(h:rs.Pairwise (· < ·))(e:rs[k]?=aa x):∀r∈rs.take (k + 1),r<=x:=λr hr=>by
 obtain⟨j,hj⟩:=dz hr
 rw[ib] at hj
 split at hj
 ·obtain⟨h1,h2⟩:=bq.mp hj
  obtain⟨h3,h4⟩:=bq.mp e
  rcases fo j k with hl | hg
  ·have:=fq.mp h j k h1 h3 hl
   lia
  ·have:j=k:=by lia
   subst this
   lia
 ·cases hj
theorem zfo{rs:List Int}{k:Nat}{x:Int}(h:rs.Pairwise (· < ·))(e:rs[k]?=aa x):∀r∈rs.drop k,x<=r:=λr hr=>by
 obtain⟨j,hj⟩:=dz hr
 rw[List.getElem?_drop] at hj
 obtain⟨h1,h2⟩:=bq.mp hj
 obtain⟨h3,h4⟩:=bq.mp e
 rcases lX j with rfl | hp
 ·simp only[Nat.add_zero] at h2
  lia
 ·have:=fq.mp h k (k + j) h3 h1 (by lia)
  lia
def mbW(a:ac)(rank:Int)(rs:List Int)(H:Hp)(m:Nat)(σ:St)(H':Hp):Prop:=∃(lo hi:Nat) (o:Option V),σ=[aa (.ref a),aa (.int rank),aa (.int lo),aa (.int hi),o]/\Same H H'/\lo<=hi/\hi<=rs.length/\m=hi - lo/\(∀r∈rs.take lo,r < rank)/\(∀r∈rs.drop hi,rank<=r)
theorem Va{vs:List V}{_E:XK}(h:yh vs H Q _E) :
  jM K t (qqN Q) (L2.start ["ranks","rank","low","high","amid"] vs) H:=by
 obtain⟨a,rs,rank,rfl,h1,h2,q⟩:=h
 simp only[jM,Jz,L2.start,zo,zK,zp,zG,tOp,zb,tC,zc,zi,zQ,zB,tCB,KC,yL,rI,rI0,xZ,cM,bD,b8,ca,cz,bf,bu,ap,V.int.injEq,V.bl.injEq,bQ,and_true,aq,cf,cA,cg,b9,decide_eq_true_eq]
 refine⟨rs.length,.inl ⟨_,SqL.of h1,by rw[bo]⟩,mbW a rank rs H,⟨_,0,rs.length,ah,rfl,Same.refl H,bW _,bh _,rfl,by simp,by simp⟩,?_⟩
 rintro m σ H' ⟨lo,hi,o,rfl,s,h4,h5,rfl,h6,h7⟩
 simp only[bf,bp,bu,ap,V.int.injEq,V.ref.injEq,cf,cA]
 by_cases hl:lo < hi
 ·rw[ao (by lia)]
  obtain⟨md,emd⟩:∃md:Nat,((lo:Int) + hi) / 2=md:=⟨(lo + hi) / 2,by lia⟩
  rw[emd]
  have l1:lo<=md:=by lia
  have l2:md < hi:=by lia
  obtain⟨x,hx⟩:∃x,rs[md]?=aa x:=⟨_,bb (by lia)⟩
  refine⟨λσ' H'=>∃m',m' < hi - lo/\mbW a rank rs H m' σ' H',λ_ _ z=>z,⟨by lia,by lia⟩,_,SqL.of (s _ _ h1),_,wc (j:=md) (by rw[bw,hx];rfl),x,rfl,?_⟩
  by_cases hr:x < rank
  ·rw[ao hr]
   exact⟨_,(by lia:hi - (md + 1) < hi - lo),md + 1,hi,_,rfl,s,by lia,h5,rfl,λr hr2=>Int.lt_of_le_of_lt (zbC h2 hx r hr2) hr,h7⟩
  ·rw[ak hr]
   exact⟨_,(by lia:md - lo < hi - lo),lo,md,_,rfl,s,by lia,by lia,rfl,h6,λr hr2=>Int.le_trans (by lia) (zfo h2 hx r hr2)⟩
 ·rw[ak (by lia)]
  obtain rfl:lo=hi:=by lia
  exact q lo H' s h5 h6 h7
theorem ZE{vs:List V}{_E:XK}(MF:MkF K t)(h:yw t vs H Q _E) :
  xQ K t (qqN Q) (L2.start ["self","rank"] vs) H:=by
 obtain⟨m,dx,fs,low,rank,rfl,h1,h2,h3,q⟩:=h
 simp only[xQ,zN,L2.start,zH,Wx,tOp,zb,zQ,zB,rI0,cM,bD,b8,bO,bf,bp,bu,ap,V.int.injEq,V.ref.injEq,V.bl.injEq,aq,cg,b9,decide_eq_true_eq]
 refine⟨_,_,_,h1,MF.cl,MF.f,_,h2,low,rfl,?_⟩
 rw[ak (by lia)]
 exact q H (Same.refl H)
theorem Xz{H:Hp}(h:H p=ah):∃H',H'=upd H p o/\Same H H'/\H' p=aa o:=⟨_,rfl,isV p h,zg⟩
theorem Yn(p:Pl)(made:Int):∀(gs:List Row) (s:Int × Int),Qs p made gs s=match zx gs p with | none=>s | some w=>(made,w)
 | [],s=>rfl
 | r :: gs,s=>by
  rw[Qs,Yn p made gs,zx]
  cases zx gs p with
  | some w=>rfl
  | none =>
   by_cases e:r.1=p
   ·rw[ao e,ao e];rfl
   ·rw[ak e,ak e];rfl
theorem vM(p:Pl)(rank:Int):∀(lays:List (Int × List Row)) (s:Int × Int),(qg p rank lays s=s/\∀y∈lays,s.1 < y.1->y.1 < rank->zx y.2 p=ah) \/
  ∃y∈lays,∃w,zx y.2 p=aa w/\y.1 < rank/\s.1 < y.1/\qg p rank lays s=(y.1,w)/\∀z∈lays,z.1 < rank->zx z.2 p≠ah->z.1<=y.1
 | [],s=>.inl ⟨rfl,λ_ h=>nomatch h⟩
 | l :: ls,s=>by
  rw[qg]
  by_cases c:s.1 < l.1/\l.1 < rank
  ·rw[ao c,Yn]
   cases e:zx l.2 p with
   | some w =>
    rcases vM p rank ls (l.1,w) with ⟨h1,h2⟩ | ⟨y,hy,w',e1,e2,e3,e4,e5⟩
    ·refine .inr ⟨l,bt,w,e,c.2,c.1,h1,λz hz zr zn=>?_⟩
     rcases bE.mp hz with rfl | hz
     ·exact mT _
     ·rcases Int.lt_or_le l.1 z.1 with hl | hl
      ·exact absurd (h2 z hz hl zr) zn
      ·exact hl
    ·have e3':l.1 < y.1:=e3
     refine .inr ⟨y,br _ hy,w',e1,e2,by lia,e4,λz hz zr zn=>?_⟩
     rcases bE.mp hz with rfl | hz
     ·lia
     ·exact e5 z hz zr zn
   | none =>
    rcases vM p rank ls s with ⟨h1,h2⟩ | ⟨y,hy,w',e1,e2,e3,e4,e5⟩
    ·refine .inl ⟨h1,λy hy a b=>?_⟩
     rcases bE.mp hy with rfl | hy
     ·exact e
     ·exact h2 y hy a b
    ·refine .inr ⟨y,br _ hy,w',e1,e2,e3,e4,λz hz zr zn=>?_⟩
     rcases bE.mp hz with rfl | hz
     ·exact absurd e zn
     ·exact e5 z hz zr zn
  ·rw[ak c]
   rcases vM p rank ls s with ⟨h1,h2⟩ | ⟨y,hy,w',e1,e2,e3,e4,e5⟩
   ·refine .inl ⟨h1,λy hy a b=>?_⟩
    rcases bE.mp hy with rfl | hy
    ·exact absurd ⟨a,b⟩ c
    ·exact h2 y hy a b
   ·refine .inr ⟨y,br _ hy,w',e1,e2,e3,e4,λz hz zr zn=>?_⟩
    rcases bE.mp hz with rfl | hz
    ·rcases Int.lt_or_le s.1 z.1 with hl | hl
     ·exact absurd ⟨hl,zr⟩ c
     ·lia
    ·exact e5 z hz zr zn
theorem vB{gs:List Row}{p:Pl}(nd:(gs.map (·.1)).Nodup):p∈gs.map (·.1)↔zx gs p≠ah:=by
 constructor
 ·intro h e
  obtain⟨r,hr,rfl⟩:=bP.mp h
  have:=(YI (p:=r.1) (w:=r.2) nd).mpr hr
  rw[e] at this
  cases this
 ·intro h
  cases e:zx gs p with
  | none=>exact absurd e h
  | some w=>exact bP.mpr ⟨_,(YI nd).mp e,rfl⟩
theorem za1{rk:ac}{F:ac->Prop}{r:Int}{gs:List Row}:∀ {wk:List (Key × V)} {l:List (Int × List Row)},Paired (zfa H rk F) wk l->(l.map (·.1)).Nodup->(r,gs)∈l->∃d,yd wk (.inl r)=aa (.ref d)/\F d/\d≠rk/\H d=aa (.dT (dOf gs))
 | _,_,.nil,_,h=>nomatch h
 | _,_,@Paired.cons _ _ _ kv y wk l ⟨e,d,e2,fd,nd,hd⟩ rest,n,h=>by
  rw[bM,cO] at n
  rcases bE.mp h with rfl | h
  ·exact⟨d,by rw[yW e,e2],fd,nd,hd⟩
  ·have ne:¬ kv.1=.inl r:=λz=>n.1 (by rw[e] at z;cases z;exact bX (f:=(·.1)) h)
   rw[yX ne]
   exact za1 rest n.2 h
theorem zbD{rk:ac}{F:ac->Prop}:∀ {wk:List (Key × V)} {l:List (Int × List Row)},Paired (zfa H rk F) wk l->wk.map (·.1)=l.map λy=>(iT y.1:Key)
 | _,_,.nil=>rfl
 | _,_,.cons h rest=>by rw[bM,bM,h.1,zbD rest]
theorem Kf{rk:ac}{F:ac->Prop}{r:Int}{wk:List (Key × V)}{l:List (Int × List Row)}(h:Paired (zfa H rk F) wk l)(n:r ∉ l.map (·.1)):yd wk (.inl r)=ah:=by
 refine zaZ λz=>n ?_
 rw[zbD h] at z
 obtain⟨y,hy,e⟩:=bP.mp z
 cases e
 exact bX hy
theorem zfp{l:List (Int × List Row)}{r:Int}(h:r ∉ l.map (·.1)):zfb l r=l:=lJ.mpr λy hy=>decide_eq_true λe=>h (by rw[<-e];exact bX hy)
theorem Vb{l:List (Int × List Row)}{r:Int}:r ∉ (zfb l r).map (·.1):=λh=>by
 obtain⟨y,hy,e⟩:=bP.mp h
 exact of_decide_eq_true (eW.mp hy).2 e
theorem RkAt.get{rk:ac}{F:ac->Prop}{P:Pl->Int->Prop}{kk:List (List Key × V)}(h:RkAt H rk F P kk)(p:Pl):(∃a rs,(zy p,V.ref a)∈kk/\yd kk (zy p)=aa (.ref a)/\F a/\H a=aa (.lst (rs.map V.int))/\rs.Pairwise (· < ·)/\rs≠[]/\∀r,r∈rs↔P p r)\/(yd kk (zy p)=ah/\zy p ∉ kk.map (·.1)/\∀r,¬ P p r):=by
 by_cases hm:zy p∈kk.map (·.1)
 ·obtain⟨kv,hk,e⟩:=bP.mp hm
  obtain⟨p',a,rs,rfl,z⟩:=h.ls kv hk
  have:p'=p:=yN e
  subst this
  exact .inl ⟨a,rs,hk,JT h.nk _ hk,z⟩
 ·exact .inr ⟨zaZ hm,hm,λr hr=>hm (h.al p r hr)⟩
theorem zgz{rs:List Int}{l:List (Int × List Row)}{p:Pl}(h:rs.Pairwise (· < ·))(hr:∀r,r∈rs->X8 l p r):rs.length<=l.length:=by
 have nd:rs.Nodup:=mv (λh=>Int.ne_of_lt h) h
 have:=vJ (b:=l.map (·.1)) nd λx hx=>let ⟨gs,h1,_⟩:=hr x hx;bP.mpr ⟨_,h1,rfl⟩
 simpa using this
theorem zcn{m p:ac}{rank low:Int}{F:ac->Prop}{g:List Row}{lays:List (Int × List Row)}{q0:Pl}(MF:MkF K t)(h1:MrAt t H m F g lays low)(h2:low<=rank)(h3:H p=aa (.tup [.str q0.1,.int q0.2]))(q:∀H',Same H H'->Q (.int (v3 g lays q0 rank)) H') :
  wS K t (qqN Q) (L2.start ["self","place","rank","ranks","below"] [.ref m,.ref p,.int rank]) H:=by
 simp only[wS,yw,yh,wX,xh,zN,zO,L2.start,xh,zo,zK,zp,zG,yb,zH,tOp,zb,tC,xo,zc,zi,zQ,zB,zL,yL,rEq,rI0,JB,cM,bD,b8,ca,cz,bO,bf,bp,bu,ap,V.int.injEq,V.ref.injEq,V.bl.injEq,bQ,and_true,true_and,and_assoc,aq,cf,cA,cg,b9,decide_eq_true_eq]
 obtain⟨dx,gr,wo,rk,wk,kk,M⟩:=h1.ex
 refine⟨_,_,M.im,jY (by lia),_,_,M.im,_,zg9,h2,λH1 s1=>?_⟩
 have M1:=M.keep h1.me λb o _ e=>s1 _ _ e
 refine⟨_,_,_,M1.im,MF.cl,MF.r,_,zgy,rk,rfl,.inr ⟨_,.inl M1.rr.at_⟩,by lia,λl hl=>?_⟩
 obtain⟨H2,eH,s2,q2⟩:=Xz (o:=HO.lst []) hl
 rw[<-eH];clear eH
 have S2:=s1.trans s2
 have M2:=M1.keep h1.me λb o _ e=>s2 _ _ e
 have hp2:H2 p=aa (.tup ((zy q0).map kV)):=S2 _ _ h3
 refine⟨_,.t M2.rr.at_ hp2,?_⟩
 have gd:∀ {H3:Hp},MrIn t H3 m F g lays low dx gr wo rk wk kk->H3 p=aa (.tup ((zy q0).map kV))->Same H H3->(∀r,X8 lays q0 r->¬ r < rank)->∃C dx fs,H3 m=aa (HO.ins C dx fs)/\Cls K C/\NoAttr K C (bc "ground")/\∃x,cU (bc "ground") fs=aa x/\∃a,x=V.ref a/\IsD H3 a/\∃o,DGet H3 a (V.ref p) o/\Q (o.getD (V.int 0)) H3:=λ{H3} M3 hp3 S3 hno=>by
  refine⟨_,_,_,M3.im,MF.cl,MF.g,_,zhn,gr,rfl,.inr ⟨_,.inl M3.hg⟩,_,.t M3.hg hp3,?_⟩
  have ev:v3 g lays q0 rank=(zx g q0).getD 0:=by
   unfold v3
   rcases vM q0 rank lays (-1,(zx g q0).getD 0) with ⟨e1,_⟩ | ⟨y,hy,w,e1,e2,_⟩
   ·rw[e1]
   ·exact absurd e2 (hno y.1 ⟨y.2,hy,(vB (h1.ok y hy).2.nd).mpr (by rw[e1];exact λz=>nomatch z)⟩)
  have e2:(yd (dOf g) (zy q0)).getD (V.int 0)=V.int ((zx g q0).getD 0):=by
   rw[xA]
   cases zx g q0 <;> rfl
  rw[e2,<-ev]
  exact q H3 S3
 rcases M2.rr.get q0 with ⟨a,rs,hk,hv,fa,ha,hs,hne,hi⟩ | ⟨hv,hk,hno⟩
 ·rw[hv]
  refine⟨a,rfl,rs,ha,hs,λk H3 s3 hk3 hlt hge=>?_⟩
  have S3:=S2.trans s3
  have M3:=M2.keep h1.me λb o _ e=>s3 _ _ e
  by_cases h0:k=0
  ·rw[ao (by lia)]
   subst h0
   exact gd M3 (s3 _ _ hp2) S3 λr hr hlr=>by
    have:=hge r (by rw[gG];exact(hi r).mpr hr)
    lia
  ·rw[ak (by lia)]
   refine⟨_,_,_,M3.im,MF.cl,MF.w,_,zfn,a,rfl,_,SqL.of (s3 _ _ ha),?_⟩
   obtain⟨x,hx⟩:∃x,rs[k - 1]?=aa x:=⟨_,bb (by lia)⟩
   have ek:(k:Int) - 1=((k - 1:Nat):Int):=by lia
   rw[ek]
   refine⟨_,wc (j:=k - 1) (by rw[bw,hx];rfl),?_⟩
   obtain⟨gs,hgs,hpg⟩:=(hi x).mp (cE hx)
   obtain⟨d,v1,fd,nd,hd⟩:=za1 M3.wp h1.nd hgs
   refine⟨wo,rfl,.ref d,(show DGet H3 wo (kV (.inl x)) (aa (.ref d)) by rw[<-v1];exact .k M3.hw),?_⟩
   have okg:=(h1.ok _ hgs).2
   obtain⟨w,hw⟩:∃w,zx gs q0=aa w:=by
    cases e:zx gs q0 with
    | none=>exact absurd e ((vB okg.nd).mp hpg)
    | some w=>exact⟨w,rfl⟩
   have vd:yd (dOf gs) (zy q0)=aa (.int w):=by rw[xA,hw];rfl
   refine⟨d,rfl,V.int w,by rw[<-vd];exact .t hd (s3 _ _ hp2),?_⟩
   have xr:x < rank:=hlt x (List.mem_iff_getElem?.mpr ⟨k - 1,by rw[ib,ao (by lia)];exact hx⟩)
   have x0:0<=x:=(h1.ok _ hgs).1
   have ev:v3 g lays q0 rank=w:=by
    unfold v3
    rcases vM q0 rank lays (-1,(zx g q0).getD 0) with ⟨e1,e2⟩ | ⟨y,hy,w',e1,e2,e3,e4,e5⟩
    ·have:=e2 _ hgs (by show (-1:Int) < x;lia) xr
     rw[this] at hw
     cases hw
    ·rw[e4]
     have yx:x<=y.1:=e5 _ hgs xr (by rw[hw];exact λz=>nomatch z)
     have yr:y.1∈rs:=(hi y.1).mpr ⟨y.2,hy,(vB (h1.ok y hy).2.nd).mpr (by rw[e1];exact λz=>nomatch z)⟩
     have xy:y.1<=x:=by
      have:y.1∈rs.take k\/y.1∈rs.drop k:=bJ.mp (by rw[gc];exact yr)
      rcases this with z | z
      ·have ek2:k=k - 1 + 1:=by lia
       rw[ek2] at z
       exact zbC hs hx _ z
      ·have:=hge _ z
       lia
     have ey:y.1=x:=by lia
     have e6:y=(x,gs):=by
      have n1:=h1.nd
      obtain⟨i,hi1⟩:=dz hy
      obtain⟨j,hj1⟩:=dz hgs
      have a1:(lays.map (·.1))[i]?=aa x:=by rw[bw,hi1,<-ey];rfl
      have a2:(lays.map (·.1))[j]?=aa x:=by rw[bw,hj1];rfl
      have ij:=(iC (bq.mp a1).1 n1).mp (a1.trans a2.symm)
      rw[ij,hj1] at hi1
      exact(bV hi1).symm
     rw[e6] at e1
     rw[hw] at e1
     exact(bV e1).symm
   rw[<-ev]
   exact q H3 S3
 ·rw[hv]
  refine⟨l,rfl,[],q2,fG,λk H3 s3 hk3 hlt hge=>?_⟩
  have k0:k=0:=by simpa using hk3
  rw[ao (by lia)]
  subst k0
  exact gd (M2.keep h1.me λb o _ e=>s3 _ _ e) (s3 _ _ hp2) (S2.trans s3) λr hr=>absurd hr (hno r)
theorem Vc{m p:ac}{rank:Int}{F:ac->Prop}{g:List Row}{lays:List (Int × List Row)}{q0:Pl}(MF:MkF K t)(h1:MkAt t H m F g lays)(h2:0<=rank)(h3:H p=aa (.tup [.str q0.1,.int q0.2]))(q:∀H',Same H H'->Q (.int (v3 g lays q0 rank)) H') :
  wS K t (qqN Q) (L2.start ["self","place","rank","ranks","below"] [.ref m,.ref p,.int rank]) H:=zcn MF h1 h2 h3 q
section
variable {G:ac->Prop}{rk a:ac}{H' H'':Hp}
theorem KeepR.refl:KeepR G rk H H:=λ_ _ e _ _=>e
theorem KeepR.same(k:KeepR G rk H H')(s:Same H' H''):KeepR G rk H H'':=λb o e n z=>s _ _ (k b o e n z)
theorem KeepR.dct(k:KeepR G rk H H')(o:HO):KeepR G rk H (upd H' rk o):=λb u e n z=>by rw[zk n];exact k b u e n z
theorem KeepR.lst(k:KeepR G rk H H')(ha:H' a=aa (.lst xs))(ga:G a):KeepR G rk H (upd H' a (.lst ys)):=λb u e n z=>by
 have e2:=k b u e n z
 by_cases hb:b=a
 ·subst hb
  rcases z with z | z
  ·rw[ha] at e2;exact absurd (bV e2).symm (z xs)
  ·exact absurd ga z
 ·rw[zk hb];exact e2
end
theorem za2{α β:Type}{f:α->β}:∀ {l:List α},(l.map f).Nodup->∀ {x y:α},x∈l->y∈l->f x=f y->x=y
 | [],_,_,_,h,_,_=>nomatch h
 | c :: l,n,x,y,hx,hy,e=>by
  rw[bM,cO] at n
  rcases bE.mp hx with h1 | h1
  ·rcases bE.mp hy with h2 | h2
   ·rw[h1,h2]
   ·exact absurd (by rw[<-h1,e];exact bX h2) n.1
  ·rcases bE.mp hy with h2 | h2
   ·exact absurd (by rw[<-h2,<-e];exact bX h1) n.1
   ·exact za2 n.2 h1 h2 e
section
variable {G:ac->Prop}{rk a:ac}{P P':Pl->Int->Prop}{kk:List (List Key × V)}{q0:Pl}{rank:Int}{rs:List Int}
theorem RkAt.one(h:RkAt H rk G P kk)(hk:(zy q0,V.ref a)∈kk){p':Pl}(hk2:(zy p',V.ref a')∈kk):a'=a↔p'=q0:=by
 constructor
 ·intro e
  have:=za2 h.nv hk2 hk (by rw[e])
  exact yN (congrArg Prod.fst this)
 ·intro e
  have:=za2 h.nk hk2 hk (by rw[e])
  exact V.ref.inj (congrArg Prod.snd this)
theorem QQ(h:RkAt H rk G P kk)(ha:H a=aa (.lst (rs.map V.int))):rk≠a:=zT h.at_ ha (by lia)
theorem Jr{r:Int}(hs:rs.Pairwise (· < ·)):r∈rs.erase rank↔r∈rs/\r≠rank:=by
 have nd:rs.Nodup:=mv (λh=>Int.ne_of_lt h) hs
 rw[nd.mem_erase_iff,and_comm]
theorem RkAt.out1(h:RkAt H rk G P kk)(hk:(zy q0,V.ref a)∈kk)(ha:H a=aa (.lst (rs.map V.int)))(hs:rs.Pairwise (· < ·))(hi:∀r,r∈rs↔P q0 r)(hne:rs.erase rank≠[])(hP:∀p r,P' p r↔P p r/\¬ (r=rank/\p=q0)):RkAt (upd H a (.lst ((rs.erase rank).map V.int))) rk G P' kk where
 at_:=by rw[zk (QQ h ha)];exact h.at_
 nk:=h.nk
 nv:=h.nv
 ls:=λkv hkv=>by
  obtain⟨p',a',rs',rfl,ga,ha',hs',hn',hi'⟩:=h.ls kv hkv
  by_cases e:a'=a
  ·have ep:=(h.one hk hkv).mp e
   subst e ep
   refine⟨p',a',rs.erase rank,rfl,ga,zg,hs.sublist List.erase_sublist,hne,λr=>?_⟩
   rw[Jr hs,hP,hi]
   exact⟨λz=>⟨z.1,λy=>z.2 y.1⟩,λz=>⟨z.1,λy=>z.2 ⟨y,rfl⟩⟩⟩
  ·have ep:¬ p'=q0:=λz=>e ((h.one hk hkv).mpr z)
   refine⟨p',a',rs',rfl,ga,by rw[zk e];exact ha',hs',hn',λr=>?_⟩
   rw[hi',hP]
   exact⟨λz=>⟨z,λy=>ep y.2⟩,λz=>z.1⟩
 al:=λp r z=>h.al p r ((hP p r).mp z).1
theorem RkAt.out2(h:RkAt H rk G P kk)(hk:(zy q0,V.ref a)∈kk)(ha:H a=aa (.lst (rs.map V.int)))(hs:rs.Pairwise (· < ·))(hi:∀r,r∈rs↔P q0 r)(hne:rs.erase rank=[])(hP:∀p r,P' p r↔P p r/\¬ (r=rank/\p=q0)){us:List V}:RkAt (upd (upd H a (.lst us)) rk (.dT (xj kk (zy q0)))) rk G P' (xj kk (zy q0)) where
 at_:=zg
 nk:=gY (i3 _ gL) h.nk
 nv:=gY (i3 _ gL) h.nv
 ls:=λkv hkv=>by
  have hkv2:=zb0 hkv
  have ne:kv.1≠zy q0:=of_decide_eq_true (eW.mp hkv).2
  obtain⟨p',a',rs',rfl,ga,ha',hs',hn',hi'⟩:=h.ls kv hkv2
  have ep:¬ p'=q0:=λz=>ne (by rw[z])
  have e:¬ a'=a:=λz=>ep ((h.one hk hkv2).mp z)
  refine⟨p',a',rs',rfl,ga,by rw[zk (QQ h ha').symm,zk e];exact ha',hs',hn',λr=>?_⟩
  rw[hi',hP]
  exact⟨λz=>⟨z,λy=>ep y.2⟩,λz=>z.1⟩
 al:=λp r z=>by
  obtain⟨z1,z2⟩:=(hP p r).mp z
  obtain⟨kv,hkv,e⟩:=bP.mp (h.al p r z1)
  refine bP.mpr ⟨kv,eW.mpr ⟨hkv,decide_eq_true λy=>?_⟩,e⟩
  have:p=q0:=yN (e.symm.trans y)
  subst this
  have hr:r∈rs:=(hi r).mpr z1
  by_cases er:r=rank
  ·exact z2 ⟨er,rfl⟩
  ·have:=(Jr (rank:=rank) hs).mpr ⟨hr,er⟩
   rw[hne] at this
   cases this
theorem za3{k:Nat}(hs:rs.Pairwise (· < ·))(hlt:∀r∈rs.take k,r < rank)(hge:∀r∈rs.drop k,rank<=r)(hno:rank ∉ rs):(rs.take k ++ rank :: rs.drop k).Pairwise (· < ·):=by
 have gt:∀r∈rs.drop k,rank < r:=λr hr=>by
  have h1:=hge r hr
  have h2:r≠rank:=λz=>hno (by rw[<-z];exact dA hr)
  lia
 rw[List.pairwise_append,oR]
 refine⟨hs.sublist (ph ..),⟨gt,hs.sublist (List.drop_sublist ..)⟩,λx hx y hy=>?_⟩
 have:=hlt x hx
 rcases bE.mp hy with rfl | hy
 ·exact this
 ·have:=gt y hy;lia
theorem zfq{r:Int}:r∈rs.take k ++ rank :: rs.drop k↔r∈rs\/r=rank:=by
 rw[bJ,bE]
 constructor
 ·rintro(h | h | h)
  ·exact .inl (dR h)
  ·exact .inr h
  ·exact .inl (dA h)
 ·rintro(h | h)
  ·have:r∈rs.take k ++ rs.drop k:=by rw[gc];exact h
   rcases bJ.mp this with z | z
   ·exact .inl z
   ·exact .inr (.inr z)
  ·exact .inr (.inl h)
theorem RkAt.in1{k:Nat}(h:RkAt H rk G P kk)(hk:(zy q0,V.ref a)∈kk)(ha:H a=aa (.lst (rs.map V.int)))(hs:rs.Pairwise (· < ·))(hi:∀r,r∈rs↔P q0 r)(hlt:∀r∈rs.take k,r < rank)(hge:∀r∈rs.drop k,rank<=r)(hno:¬ P q0 rank)(hP:∀p r,P' p r↔P p r\/(r=rank/\p=q0)):RkAt (upd H a (.lst ((rs.take k ++ rank :: rs.drop k).map V.int))) rk G P' kk where
 at_:=by rw[zk (QQ h ha)];exact h.at_
 nk:=h.nk
 nv:=h.nv
 ls:=λkv hkv=>by
  obtain⟨p',a',rs',rfl,ga,ha',hs',hn',hi'⟩:=h.ls kv hkv
  by_cases e:a'=a
  ·have ep:=(h.one hk hkv).mp e
   subst e ep
   refine⟨p',a',_,rfl,ga,zg,za3 hs hlt hge (λz=>hno ((hi _).mp z)),by simp,λr=>?_⟩
   rw[zfq,hP,hi]
   exact⟨λz=>z.imp_right λy=>⟨y,rfl⟩,λz=>z.imp_right λy=>y.1⟩
  ·have ep:¬ p'=q0:=λz=>e ((h.one hk hkv).mpr z)
   refine⟨p',a',rs',rfl,ga,by rw[zk e];exact ha',hs',hn',λr=>?_⟩
   rw[hi',hP]
   exact⟨λz=>.inl z,λz=>z.elim id λy=>absurd y.2 ep⟩
 al:=λp r z=>by
  rcases(hP p r).mp z with z | ⟨_,rfl⟩
  ·exact h.al p r z
  ·exact bP.mpr ⟨_,hk,rfl⟩
theorem RkAt.in2(h:RkAt H rk G P kk)(hk:zy q0 ∉ kk.map (·.1))(hno:∀r,¬ P q0 r)(ga:G a)(hf:∀kv∈kk,kv.2≠.ref a)(ha:a≠rk)(hP:∀p r,P' p r↔P p r\/(r=rank/\p=q0)):RkAt (upd (upd H rk (.dT (kk ++ [(zy q0,V.ref a)]))) a (.lst [V.int rank])) rk G P' (kk ++ [(zy q0,V.ref a)]) where
 at_:=by rw[zk ha.symm];exact zg
 nk:=by
  rw[cB,iD]
  refine⟨h.nk,by simp,λx hx y hy=>?_⟩
  have:y=zy q0:=by simpa using hy
  rw[this]
  exact λz=>hk (by rw[<-z];exact hx)
 nv:=by
  rw[cB,iD]
  refine⟨h.nv,by simp,λx hx y hy=>?_⟩
  have:y=V.ref a:=by simpa using hy
  rw[this]
  obtain⟨kv,hkv,rfl⟩:=bP.mp hx
  exact hf kv hkv
 ls:=λkv hkv=>by
  rcases bJ.mp hkv with hkv | hkv
  ·obtain⟨p',a',rs',rfl,ga',ha',hs',hn',hi'⟩:=h.ls kv hkv
   have e:a'≠a:=λz=>hf _ hkv (by rw[z])
   have ep:p'≠q0:=λz=>hk (bP.mpr ⟨_,hkv,by rw[z]⟩)
   refine⟨p',a',rs',rfl,ga',by rw[zk e,zk (QQ h ha').symm];exact ha',hs',hn',λr=>?_⟩
   rw[hi',hP]
   exact⟨λz=>.inl z,λz=>z.elim id λy=>absurd y.2 ep⟩
  ·have:=bI.mp hkv
   subst this
   refine⟨q0,a,[rank],rfl,ga,zg,by simp,by simp,λr=>?_⟩
   rw[hP,bI]
   exact⟨λz=>.inr ⟨z,rfl⟩,λz=>z.elim (λy=>absurd y (hno r)) λy=>y.1⟩
 al:=λp r z=>by
  rw[cB,bJ]
  rcases(hP p r).mp z with z | ⟨_,rfl⟩
  ·exact .inl (h.al p r z)
  ·exact .inr (by simp)
theorem RkAt.eqv(h:RkAt H rk G P kk)(e:∀p r,P p r↔P' p r):RkAt H rk G P' kk:=⟨h.at_,h.nk,h.nv,λkv hk=>let ⟨p,a,rs,e1,fa,ha,hs,hn,hi⟩:=h.ls kv hk;⟨p,a,rs,e1,fa,ha,hs,hn,λr=>(hi r).trans (e p r)⟩,λp r z=>h.al p r ((e p r).mpr z)⟩
end
theorem RkAt.keep2{H':Hp}{rk:ac}{F F':ac->Prop}{P:Pl->Int->Prop}(h:RkAt H rk F P kvs)(hr:H' rk=H rk)(k:∀b xs,F b->H b=aa (.lst xs)->H' b=aa (.lst xs))(ff:∀b,F b->(∃o,H' b=aa o)->F' b):RkAt H' rk F' P kvs:=
 ⟨hr.trans h.at_,h.nk,h.nv,λkv hk=>let ⟨p,a,rs,e,fa,ha,z⟩:=h.ls kv hk;⟨p,a,rs,e,ff a fa ⟨_,k _ _ fa ha⟩,k _ _ fa ha,z⟩,h.al⟩
theorem Dm.refl:Dm H H:=λb o e=>⟨o,e,λ_ z=>z⟩
theorem Dm.trans{H1 H2:Hp}(h:Dm H H1)(k:Dm H1 H2):Dm H H2:=λb o e=>by
 obtain⟨o1,e1,z1⟩:=h b o e
 obtain⟨o2,e2,z2⟩:=k b o1 e1
 exact⟨o2,e2,λzs z=>z1 zs (z2 zs z)⟩
theorem Dm.of_same{H1:Hp}(s:Same H H1):Dm H H1:=λb o e=>⟨o,s _ _ e,λ_ z=>z⟩
theorem Dm.upd(n:∀zs,o'≠.tup zs):Dm H (upd H a o'):=λb o e=>by
 by_cases c:b=a
 ·subst c;exact⟨_,zg,λzs z=>absurd z (n zs)⟩
 ·exact⟨o,by rw[zk c];exact e,λ_ z=>z⟩
theorem VF{vs:List V}{_E:XK}(h:vF vs H Q _E) :
  kY K t (qqN Q) (L2.start ["ranks_at","place","rank","ranks"] vs) H:=by
 obtain⟨rk,pl,rank,G,P,kk,q0,rfl,hr,fk,hp,hP,q⟩:=h
 rcases hr.get q0 with ⟨a,rs,hk,hv,fa,ha,hs,hne,hi⟩ | ⟨_,_,hn⟩
 ·have hir:rank∈rs:=(hi rank).mpr hP
  have ar:=QQ hr ha
  simp only[kY,wX,zaP,jp,L2.start,JP,zo,zK,zp,yb,zH,tOp,zb,xo,zc,zi,zQ,zB,tBM,tyV,cM,bD,b8,ca,cz,bf,bp,bu,ap,V.int.injEq,V.ref.injEq,V.bl.injEq,bQ,and_true,true_and,aq,cf,cA,cg,b9,decide_eq_true_eq]
  refine⟨.ref a,(by rw[<-hv];exact .t hr.at_ hp),.inl ⟨_,SqL.of ha⟩,a,rfl,rs,ha,hir,by lia,λz hz=>?_⟩
  have k2:=(KeepR.refl (G:=G) (rk:=rk) (H:=H)).lst (ys:=(rs.erase rank).map V.int) ha fa
  have d2:Dm H (upd H a (.lst ((rs.erase rank).map V.int))):=Dm.upd λ_ z=>nomatch z
  have pa:pl≠a:=zT hp ha (by lia)
  have hp2:upd H a (.lst ((rs.erase rank).map V.int)) pl=aa (.tup ((zy q0).map kV)):=by rw[zk pa];exact hp
  have hk2:upd H a (.lst ((rs.erase rank).map V.int)) rk=aa (.dT kk):=by rw[zk ar];exact hr.at_
  obtain⟨H3,eH,s3,q3⟩:=Xz (o:=HO.lst []) hz
  rw[<-eH];clear eH
  refine⟨a,rfl,_,SqL.of (s3 _ _ zg),SqL.of q3,?_⟩
  by_cases e:rs.erase rank=[]
  ·rw[ao (by rw[e];rfl)]
   refine⟨.inr ⟨_,.inl (s3 _ _ hk2)⟩,kk,s3 _ _ hk2,zy q0,s3 _ _ hp2,_,hv,q _ (xj kk (zy q0)) ((k2.same s3).dct _) (d2.trans ((Dm.of_same s3).trans (Dm.upd λ_ z=>nomatch z))) ?_⟩
   refine(hr.out2 (us:=(rs.erase rank).map V.int) hk ha hs hi e λp r=>p9).keep fk (λb o fb eb=>?_) (λ_ z=>z)
   by_cases hb:b=rk
   ·subst hb;rw[zg] at eb ⊢;exact eb
   ·rw[zk hb] at eb ⊢;exact s3 _ _ eb
  ·rw[ak (λz=>e (List.map_eq_nil_iff.mp z))]
   exact q _ kk (k2.same s3) (d2.trans (Dm.of_same s3)) ((hr.out1 hk ha hs hi e λp r=>p9).keep fk (λb o _ eb=>s3 _ _ eb) (λ_ z=>z))
 ·exact absurd hP (hn rank)
theorem KeepR.trans{G:ac->Prop}{rk:ac}{H1 H2:Hp}(h:KeepR G rk H H1)(k:KeepR G rk H1 H2):KeepR G rk H H2:=λb o e n z=>k b o (h b o e n z) n z
theorem ZF{vs:List V}{_E:XK}(MF:MkF K t)(h:yJ t vs H Q _E) :
  xR K t (qqN Q) (L2.start ["self","rank"] vs) H:=by
 obtain⟨m,rank,F,g,lays,low,rfl,h1,q⟩:=h
 simp only[xR,kt,xh,zN,zdJ,L2.start,xh,zG,zb,zc,zi,tCB,cM,bD,b8,bO,bf,bp,bu,ap,V.ref.injEq,bQ,and_true,aq,cg,b9]
 obtain⟨dx,gr,wo,rk,wk,kk,M⟩:=h1.ex
 refine⟨_,_,_,M.im,MF.cl,MF.w,_,zfn,wo,rfl,.inl ⟨_,.inl M.hw⟩,λp hp=>?_⟩
 obtain⟨H1,eH,s1,q1⟩:=Xz (o:=HO.dT []) hp
 rw[<-eH];clear eH
 have M1:=M.keep h1.me λb o _ e=>s1 _ _ e
 by_cases hin:rank∈lays.map (·.1)
 ·obtain⟨y,hy,ey⟩:=bP.mp hin
  obtain⟨r',gs⟩:=y
  have ey:r'=rank:=ey
  subst ey
  obtain⟨d,v1,fd,nd,hd⟩:=za1 M1.wp h1.nd hy
  have hg:=DGet.k (k:=.inl r') M1.hw
  rw[v1] at hg
  refine⟨_,hg,d,rfl,dOf gs,hd,λl ys hl pr=>?_⟩
  have s3:=isV (o:=HO.lst ys) l hl
  exact q l ys gs _ (s1.trans s3) (zJ s1 hl) zg (Paired.mapP pr λ_ _ ⟨p,e,h⟩=>⟨p,e,s3 _ _ h⟩) (.inl hy)
 ·have hg:=DGet.k (k:=.inl rank) M1.hw
  rw[Kf M1.wp hin] at hg
  refine⟨_,hg,p,rfl,[],q1,λl ys hl pr=>?_⟩
  have s3:=isV (o:=HO.lst ys) l hl
  exact q l ys [] _ (s1.trans s3) (zJ s1 hl) zg (Paired.mapP pr λ_ _ ⟨p,e,h⟩=>⟨p,e,s3 _ _ h⟩) (.inr ⟨hin,rfl⟩)
theorem zd5{nx:St->Hp->Prop}{B:V->St->Hp->(St->Hp->Prop)->Prop}(hl:H l=aa (.lst []))(q:nx σ H) :
  ∃W:Nat->Nat->St->Hp->Prop,(∃m,W 0 m σ H)/\∀i m σ H,W i m σ H->((Itl K l).stop i H/\nx σ H)\/((Itl K l).go i H/\∃N:St->Hp->Prop,(∀σ' H',N σ' H'->∃m',m' < m/\W (i + 1) m' σ' H')/\∀x H',(Itl K l).yld i H x H'->B x σ H' N):=
 ⟨λi _ σ' H'=>i=0/\σ'=σ/\H'=H,⟨0,rfl,rfl,rfl⟩,by rintro i m σ' H' ⟨rfl,rfl,rfl⟩;exact .inl ⟨⟨_,SqL.of hl,bh _⟩,q⟩⟩
theorem ZG{vs:List V}{_E:XK}(MF:MkF K t)(h:y6 t vs H Q _E) :
  ja K t (qqN Q) (L2.start ["self","rank","places","place"] vs) H:=by
 obtain⟨m,rank,F,g,lays,low,rfl,h1,h2,q⟩:=h
 obtain⟨dx,gr,wo,rk,wk,kk,M⟩:=h1.ex
 refine⟨_,rfl,m,_,_,rfl,M.im,jY (by lia),_,rfl,m,rank,F,g,lays,low,rfl,h1,λL ys gs H1 s1 _ hL hy ho=>?_⟩
 obtain⟨_,rfl⟩:=ho.resolve_left λz=>h2 (bP.mpr ⟨_,z,rfl⟩)
 have ey:ys=[]:=cZ (bF hy)
 subst ey
 have M1:=M.keep h1.me λb o _ e=>s1 _ _ e
 refine⟨_,rfl,m,_,_,_,_,rfl,M1.im,MF.cl,MF.w,zfn,wo,rfl,.inl ⟨_,.inl M1.hw⟩,_,rfl,wk,.inl rank,M1.hw,rfl,λv z=>?_,λ_=>?_⟩
 ·rw[Kf M1.wp h2] at z;cases z
 ·refine⟨_,rfl,L,rfl,⟨_,SqL.of hL⟩,zd5 hL (q H1 F (λb o _ e=>s1 _ _ e) (λb zs e=>s1 _ _ e) ?_ (λ_ z=>.inl z) λ_ z=>z)⟩
  rw[zfp h2]
  exact h1.keep λb o _ e=>s1 _ _ e
theorem zd6{rk:ac}{F:ac->Prop}{l:List (Int × List Row)}{P:Pl->Int->Prop}(h:RkAt H rk F P kk)(hp:∀p r,P p r->X8 l p r)(ok:∀y∈l,Qt y.2)(hl:l.length<=300):kk.length<=18900:=by
 have h1:=vJ (b:=(l.flatMap λy=>y.2.map (·.1)).map zy) h.nk λx hx=>by
  obtain⟨kv,hkv,rfl⟩:=bP.mp hx
  obtain⟨p,a,rs,rfl,_,_,_,hn,hi⟩:=h.ls kv hkv
  obtain⟨r,hr⟩:∃r,r∈rs:=by
   cases rs with
   | nil=>exact absurd rfl hn
   | cons r _=>exact⟨r,bt⟩
  obtain⟨gs,h2,h3⟩:=hp p r ((hi r).mp hr)
  exact bX (List.mem_flatMap.mpr ⟨_,h2,h3⟩)
 rw[bo,bo] at h1
 have h2:∀l:List (Int × List Row),(∀y∈l,Qt y.2)->(l.flatMap λy=>y.2.map (·.1)).length<=63 * l.length:=by
  intro l
  induction l with
  | nil=>intro _;simp
  | cons y l ih =>
   intro ok
   rw[List.flatMap_cons,bn,bo,bR]
   have:=(ok y bt).le
   have:=ih λz hz=>ok z (br _ hz)
   lia
 have:=h2 l ok
 lia
def lyI(m gv d rk:ac)(rank:Int)(G:ac->Prop)(P:Pl->Int->Prop)(gs:List Row)(H:Hp)(i:Nat)(σ:St)(H':Hp):Prop:=(∃o4,σ=[aa (.ref m),aa (.int rank),aa (.ref gv),aa (.ref d),o4])/\KeepR G rk H H'/\Dm H H'/\∃kk,RkAt H' rk G (λp r=>P p r\/(r=rank/\p∈(gs.take i).map (·.1))) kk
theorem Kg{vs:List V}{_E:XK}(h:vb vs H Q _E) :
  Zh K t (qqN Q) (L2.start ["ranks_at","place","rank","ranks"] vs) H:=by
 obtain⟨rk,pl,rank,G,P,kk,q0,rfl,hr,gk,gn,hp,hnP,kl,hrl,q⟩:=h
 simp only[Zh,yh,zaQ,jo,L2.start,zo,zK,zp,yb,zb,xo,zc,zi,tBM,tyV,zL,cM,bD,b8,ca,cz,bO,bf,bp,bu,ap,V.int.injEq,V.ref.injEq,bQ,and_true,true_and,and_assoc,aq,cf,cA,cg,b9]
 refine⟨.inr ⟨_,.inl hr.at_⟩,by lia,λz hz=>?_⟩
 obtain⟨H2,eH,s2,q2⟩:=Xz (o:=HO.lst []) hz
 rw[<-eH];clear eH
 have hr2:=hr.keep (F':=G) gk (λb o _ e=>s2 _ _ e) (λ_ z=>z)
 have ke2:KeepR G rk H H2:=KeepR.refl.same s2
 have dm2:Dm H H2:=Dm.of_same s2
 have gz:G z:=gn z hz
 refine⟨kk,hr2.at_,zy q0,s2 _ _ hp,by rw[bT];lia,λv hv=>?_,λhv=>?_⟩
 ·rcases hr2.get q0 with ⟨a,rs,hk,hv2,fa,ha,hs,hne,hi⟩ | ⟨hv2,_,_⟩
  ·rw[hv2] at hv;cases hv
   have rl:=hrl rs hs λr hr=>(hi r).mp hr
   refine⟨.inl ⟨_,SqL.of ha⟩,a,rfl,rs,ha,hs,λk H3 s3 hk3 hlt hge=>⟨a,rfl,_,k,rfl,s3 _ _ ha,by rw[bo];exact hk3,by rw[bo];lia,?_⟩⟩
   rw[<-oW,<-oX,<-bM (f:=V.int),<-cB]
   have hr3:=hr2.keep (F':=G) gk (λb o _ e=>s3 _ _ e) (λ_ z=>z)
   exact q _ kk ((ke2.same s3).lst (s3 _ _ ha) fa) ((dm2.trans (Dm.of_same s3)).trans (Dm.upd λ_ z=>nomatch z)) (hr3.in1 hk (s3 _ _ ha) hs hi hlt hge hnP λp r=>p9)
  ·rw[hv2] at hv;cases hv
 ·have zr:z≠rk:=zT q2 hr2.at_ (by lia)
  rw[qv _ hv]
  have qz:upd H2 rk (HO.dT (kk ++ [(zy q0,V.ref z)])) z=aa (.lst (([]:List Int).map V.int)):=by rw[zk zr];exact q2
  have hf:∀kv∈kk,kv.2≠.ref z:=λkv hk e=>by
   obtain⟨p',a',rs',rfl,_,ha',_⟩:=hr.ls kv hk
   cases e
   rw[hz] at ha'
   cases ha'
  rcases hr2.get q0 with ⟨a,rs,hk,hv2,_⟩ | ⟨_,hkn,hn⟩
  ·rw[hv2] at hv;cases hv
  refine⟨.inl ⟨_,SqL.of qz⟩,[],qz,fG,λk H3 s3 hk3 hlt hge=>?_⟩
  have k0:k=0:=Nat.le_zero.mp hk3
  subst k0
  have d3:Dm H (upd H2 rk (HO.dT (kk ++ [(zy q0,V.ref z)]))):=dm2.trans (Dm.upd λ_ z=>nomatch z)
  refine⟨[],0,rfl,s3 _ _ qz,bh _,by lia,q _ (kk ++ [(zy q0,V.ref z)]) (((ke2.dct _).same s3).lst (s3 _ _ qz) gz) ((d3.trans (Dm.of_same s3)).trans (Dm.upd λ_ z=>nomatch z)) ?_⟩
  refine(hr2.in2 (a:=z) (rank:=rank) hkn hn gz hf zr λp r=>p9).keep gk (λb o fb eb=>?_) (λ_ z=>z)
  show upd H3 z (HO.lst [V.int rank]) b=aa o
  by_cases hb:b=z
  ·subst hb;rw[zg] at eb ⊢;exact eb
  ·rw[zk hb] at eb ⊢;exact s3 _ _ eb
theorem zd7{D:Wt}{gv d m dx gr wo rk:ac}{rank low:Int}{G:ac->Prop}{gs:List Row}{l:List (Int × List Row)}{kk:List (List Key × V)}(MF:MkF K t)(hm:H m=aa (.ins t.q02 dx (Xo gr low wo rk)))(hd:H d=aa (.dT (dOf gs)))(dr:d≠rk)(gf:Qt gs)(hr:RkAt H rk G (X8 l) kk)(hno:rank ∉ l.map (·.1))(ok:∀y∈l,Qt y.2)(hl:l.length<=200)(gk:G rk)(gn:∀b,H b=ah->G b)
  (q:∀H' o4 kk',KeepR G rk H H'->(∀b o,H b=aa o->∃o',H' b=aa o')->RkAt H' rk G (λp r=>X8 l p r\/(r=rank/\p∈gs.map (·.1))) kk'->jd K t D [aa (.ref m),aa (.int rank),aa (.ref gv),aa (.ref d),o4] H') :
  je K t D [aa (.ref m),aa (.int rank),aa (.ref gv),aa (.ref d),ah] H:=by
 have mr:m≠rk:=zT hm hr.at_ (by lia)
 have md:m≠d:=zT hm hd (by lia)
 simp only[je,zgd,vb,iDT,zN,zo,zp,yb,zb,zc,zi,kj,zL,bO,bf,bp,bu,ap,V.ref.injEq,bQ,and_true,and_assoc,aq]
 refine⟨d,_,hd,dOf gs,.inl rfl,λob=>?_⟩
 have f0:upd H d (.frz ob (.dT (dOf gs))) d=aa (.frz ob (.dT (dOf gs))):=zg
 have rr0:RkAt (upd H d (.frz ob (.dT (dOf gs)))) rk G (X8 l) kk:=hr.keep2 (by rw[zk dr.symm]) (λb xs _ e=>by rw[zk (zT e hd (by lia))];exact e) (λ_ z _=>z)
 have hm0:upd H d (.frz ob (.dT (dOf gs))) m=aa (.ins t.q02 dx (Xo gr low wo rk)):=by rw[zk md];exact hm
 have d0:Dm H (upd H d (.frz ob (.dT (dOf gs)))):=Dm.upd λ_ z=>nomatch z
 have back:∀ {H'},KeepR G rk (upd H d (.frz ob (.dT (dOf gs)))) H'->KeepR G rk H (upd H' d (.dT (dOf gs))):=λ{H'} k b o e n z=>by
  by_cases eb:b=d
  ·subst eb;rw[zg,<-hd];exact e
  ·rw[zk eb];exact k b o (by rw[zk eb];exact e) n z
 have gn0:∀b,upd H d (.frz ob (.dT (dOf gs))) b=ah->G b:=λb e=>gn b (by
  by_cases eb:b=d
  ·subst eb;rw[zg] at e;cases e
  ·rw[zk eb] at e;exact e)
 generalize upd H d (.frz ob (.dT (dOf gs)))=H0 at *
 have kd:∀ {H'},KeepR G rk H0 H'->H' d=aa (.frz ob (.dT (dOf gs))):=λ{H'} k=>k _ _ f0 dr (.inl λ_ z=>nomatch z)
 refine⟨ob,dOf gs,f0,zaI (lyI m gv d rk rank G (X8 l) gs H0) ⟨⟨_,rfl⟩,KeepR.refl,Dm.refl,kk,rr0.eqv λp r=>by simp⟩ (λi σ H' ⟨_,k,_⟩=>kd k) ?_ ?_⟩
 ·rintro i k v p σ H' hkv hp ⟨⟨o4,rfl⟩,ke,dm,kk',hr'⟩
  rw[W8 gf.nd,bw] at hkv
  obtain⟨r0,hr0,er⟩:=cy.mp hkv
  cases er
  have hm':=ke _ _ hm0 mr (.inl λ_ z=>nomatch z)
  have hnr:r0.1 ∉ (gs.take i).map (·.1):=λz=>by
   obtain⟨j,hj⟩:=dz z
   rw[bw,ib] at hj
   split at hj
   ·rename_i hji
    have a1:(gs.map (·.1))[j]?=aa r0.1:=by rw[bw];exact hj
    have a2:(gs.map (·.1))[i]?=aa r0.1:=by rw[bw,hr0];rfl
    have:=(iC (bq.mp a1).1 gf.nd).mp (a1.trans a2.symm)
    lia
   ·cases hj
  have hPi:∀p r,((X8 l p r\/(r=rank/\p∈(gs.take i).map (·.1)))\/(r=rank/\p=r0.1))↔(X8 l p r\/(r=rank/\p∈(gs.take (i + 1)).map (·.1))):=λp r=>by
   rw[dq,hr0,cB,bJ]
   have:p∈cM (·.1) (aa r0).toList↔p=r0.1:=by simp
   rw[this,and_or_left,or_assoc]
  have hnP:¬ (X8 l r0.1 rank\/(rank=rank/\r0.1∈(gs.take i).map (·.1))):=λz=>z.elim (λ⟨g2,h2,_⟩=>hno (bP.mpr ⟨_,h2,rfl⟩)) λy=>hnr y.2
  have kl:kk'.length<=18900:=zd6 (l:=(rank,gs) :: l) hr' (λp r z=>z.elim (λ⟨g2,h2,h3⟩=>⟨g2,br _ h2,h3⟩) λ⟨e,h3⟩=>⟨gs,by rw[e];exact bt,(by
   obtain⟨x,hx,rfl⟩:=bP.mp h3
   exact bX (dR hx))⟩) (λy hy=>by
   rcases bE.mp hy with rfl | hy
   ·exact gf
   ·exact ok y hy) (by rw[bR];lia)
  have gn1:∀b,H' b=ah->G b:=λb e=>gn0 b (by
   cases e0:H0 b with
   | none=>rfl
   | some o=>obtain⟨o',e',_⟩:=dm b o e0;rw[e] at e';cases e')
  have hrl:∀rs:List Int,rs.Pairwise (· < ·)->(∀r∈rs,X8 l r0.1 r\/(r=rank/\r0.1∈(gs.take i).map (·.1)))->rs.length<=300:=λrs hs hall=>by
   have rl:rs.length<=((rank,gs) :: l).length:=zgz (p:=r0.1) hs λr hr=>(hall r hr).elim (λ⟨g2,h2,h3⟩=>⟨g2,br _ h2,h3⟩) λy=>absurd y.2 hnr
   rw[bR] at rl
   lia
  simp only[bf,bp,bu,ap,V.int.injEq,V.ref.injEq,cf,cA]
  exact⟨_,_,_,hm',MF.cl,MF.r,_,zgy,rk,rfl,G,_,kk',hr',gk,gn1,r0.1,hp,hnP,kl,hrl,λH2 kk2 k2 d2 r2=>⟨⟨_,rfl⟩,ke.trans k2,dm.trans d2,kk2,r2.eqv hPi⟩⟩
 ·rintro σ H' ⟨⟨o4,rfl⟩,ke,dm,kk',hr'⟩
  rw[W8 gf.nd,bo,fi] at hr'
  have D2:Dm H (upd H' d (.dT (dOf gs))):=(d0.trans dm).trans (Dm.upd λ_ z=>nomatch z)
  refine⟨kd ke,q _ o4 kk' (back ke) (λb o e=>let ⟨o',e',_⟩:=D2 b o e;⟨o',e'⟩) (hr'.keep2 (by rw[zk dr.symm]) (λb xs _ e=>by rw[zk (zT e (kd ke) (by lia))];exact e) (λ_ z _=>z))⟩
theorem zd8{m gv:ac}{rank low:Int}{F:ac->Prop}{g:List Row}{lays:List (Int × List Row)}{gs:List Row}(MF:MkF K t)(h1:MrAt t H m F g lays low)(h2:low<=rank)(h20:0<=rank)(h3:LsAt H gv gs)(hgv:¬ F gv)(h4:Qt gs)(h5:lays.length<=200)(h6:rank ∉ lays.map (·.1))(q:∀H' F',(∀b o,¬ F b->H b=aa o->H' b=aa o)->(∀b zs,H b=aa (.tup zs)->H' b=aa (.tup zs))->MrAt t H' m F' g (zaW lays rank gs) low->(∀b,F' b->F b\/H b=ah)->(∀b,F b->F' b)->Q .non H') :
  vG K t (qqN Q) (L2.start ["self","rank","gifts","worths","place"] [.ref m,.int rank,.ref gv]) H:=by
 simp only[vG,yw,y6,YJ,zO,L2.start,zo,zK,zp,yb,zb,zc,zi,tCB,cM,bD,b8,ca,cz,bO,bf,bp,bu,ap,V.int.injEq,V.ref.injEq,bQ,and_true,and_assoc,aq,cf,cA,cg,b9]
 obtain⟨dx,gr,wo,rk,wk,kk,M⟩:=h1.ex
 refine⟨_,_,M.im,jY (by lia),_,_,M.im,_,zg9,h2,λH1 s1=>?_⟩
 have M1:=h1.keep (H':=H1) λb o _ e=>s1 _ _ e
 refine⟨_,_,s1 _ _ M.im,jY (by lia),F,g,lays,low,M1,h6,λH2 F2 fr2 ts2 m2 ff2 fs2=>?_⟩
 clear M wk kk gr wo rk dx
 obtain⟨xs,hx,hp⟩:=h3
 have hx2:=fr2 _ _ hgv (s1 _ _ hx)
 have hp2:Paired (PrAt H2) xs gs:=Paired.mapP hp λ_ _ ⟨r,p,e,e1,e2⟩=>⟨r,p,e,ts2 _ _ (s1 _ _ e1),ts2 _ _ (s1 _ _ e2)⟩
 refine⟨xs,hx2,gs,hp2,by have:=h4.le;lia,λd hd=>?_⟩
 obtain⟨H3,eH,s3,q3⟩:=Xz (o:=HO.dT (dOf gs)) hd
 rw[<-eH];clear eH
 obtain⟨dx,gr,wo,rk,wk,kk,M2⟩:=m2.ex
 have M3:=M2.keep m2.me λb o _ e=>s3 _ _ e
 have ndF:¬ F2 d:=λz=>by obtain⟨o,e⟩:=m2.own d z;rw[hd] at e;cases e
 have dr:d≠rk:=λz=>ndF (by rw[z];exact M2.fk)
 have hl:(zfb lays rank).length<=200:=bN (iJ _ _) h5
 have fresh:∀b,H2 b=ah->H b=ah:=λb e=>by
  cases e2:H b with
  | none=>rfl
  | some o =>
   exfalso
   by_cases fb:F b
   ·obtain⟨o',e'⟩:=m2.own b (fs2 b fb);rw[e] at e';cases e'
   ·have:=fr2 _ _ fb (s1 _ _ e2);rw[e] at this;cases this
 refine zd7 (G:=λb=>F2 b\/H2 b=ah) MF M3.im q3 dr h4 (M3.rr.keep (F':=λb=>F2 b\/H2 b=ah) M3.fk (λb o _ e=>e) (λ_ z=>.inl z)) Vb (λy hy=>(m2.ok y hy).2) hl (.inl M2.fk) (λb e=>.inr (zJ s3 e)) λH4 o4 kk' ke dm rr4=>?_
 have im4:=ke _ _ M3.im (zT M3.im M3.rr.at_ (by lia)) (.inl λ_ z=>nomatch z)
 have hw4:=ke _ _ M3.hw (zT M3.hw M3.rr.at_ (by lia)) (.inl λ_ z=>nomatch z)
 have hg4:=ke _ _ M3.hg M3.nr (.inl λ_ z=>nomatch z)
 have hd4:=ke _ _ q3 dr (.inl λ_ z=>nomatch z)
 have wl:wk.length<=200:=by rw[bF M2.wp];exact hl
 simp only[jd,jR,zN,zb,bf,bp,bu,ap,V.ref.injEq,aq]
 refine⟨_,_,_,im4,MF.cl,MF.w,_,zfn,wo,rfl,_,(.k (k:=.inl rank) hw4 (by rw[bT];lia)),?_⟩
 rw[qv _ (Kf M3.wp Vb)]
 have mw:m≠wo:=zT im4 hw4 (by lia)
 have gw:gr≠wo:=zT hg4 hw4 (by lia)
 have rw_:rk≠wo:=zT rr4.at_ hw4 (by lia)
 have dw:d≠wo:=zT hd4 hw4 (by lia)
 have n5:∀b o,b≠wo->H4 b=aa o->upd H4 wo (HO.dK (wk ++ [(.inl rank,V.ref d)])) b=aa o:=λb o n e=>by rw[zk n];exact e
 have w5:upd H4 wo (HO.dK (wk ++ [(.inl rank,V.ref d)])) wo=aa (HO.dK (wk ++ [(.inl rank,V.ref d)])):=zg
 have dm5:∀b o,H3 b=aa o->∃o',upd H4 wo (HO.dK (wk ++ [(.inl rank,V.ref d)])) b=aa o':=λb o e=>by
  by_cases eb:b=wo
  ·subst eb;exact⟨_,w5⟩
  ·obtain⟨o',e'⟩:=dm b o e;exact⟨o',n5 _ _ eb e'⟩
 generalize upd H4 wo (HO.dK (wk ++ [(.inl rank,V.ref d)]))=H5 at *
 refine q H5 (λb=>F2 b\/(H2 b=ah/\∃o,H5 b=aa o)) (λb o nf e=>?_) (λb zs e=>?_) ?_ (λb z=>?_) λb z=>.inl (fs2 b z)
 ·have e2:=fr2 _ _ nf (s1 _ _ e)
  have nf2:¬ F2 b:=λz=>(ff2 b z).elim nf λy=>by rw[s1 _ _ e] at y;cases y
  have nr:b≠rk:=λz=>nf2 (by rw[z];exact M2.fk)
  have nw:b≠wo:=λz=>nf2 (by rw[z];exact M2.fw)
  exact n5 _ _ nw (ke _ _ (s3 _ _ e2) nr (.inr λz=>z.elim nf2 λy=>by rw[e2] at y;cases y))
 ·have e2:=s3 _ _ (ts2 _ _ (s1 _ _ e))
  have e4:=ke _ _ e2 (zT e2 M3.rr.at_ (by lia)) (.inl λ_ z=>nomatch z)
  exact n5 _ _ (zT e4 hw4 (by lia)) e4
 ·refine⟨λb z=>z.elim (λf=>let ⟨o,e⟩:=m2.own b f;dm5 b o (s3 _ _ e)) λy=>y.2,.inl m2.me,?_,?_,dx,gr,wo,rk,_,kk',n5 _ _ mw im4,.inl M2.fg,.inl M2.fw,.inl M2.fk,M2.nr,n5 _ _ gw hg4,w5,?_,?_⟩
  ·unfold zaW
   rw[cB,iD]
   refine⟨m2.nd,by simp,λx hx y hy=>?_⟩
   have:y=rank:=by simpa using hy
   rw[this]
   exact λz=>Vb (l:=lays) (r:=rank) (by have h:=hx;rw[z] at h;exact h)
  ·intro y hy
   rcases bJ.mp hy with hy | hy
   ·exact m2.ok y hy
   ·rw[bI.mp hy];exact⟨h20,h4⟩
  ·refine Paired.snocP (Paired.mapP M3.wp λ_ _ ⟨e,d',e2,fd,nd',hd'⟩=>?_) ⟨rfl,d,rfl,.inr ⟨hd,_,n5 _ _ dw hd4⟩,dr,n5 _ _ dw hd4⟩
   have e4:=ke _ _ hd' nd' (.inl λ_ z=>nomatch z)
   exact⟨e,d',e2,.inl fd,nd',n5 _ _ (zT e4 hw4 (by lia)) e4⟩
  ·refine(rr4.keep2 (F':=λb=>F2 b\/(H2 b=ah/\∃o,H5 b=aa o)) ((n5 _ _ rw_ rr4.at_).trans rr4.at_.symm) (λb xs _ e=>n5 _ _ (zT e hw4 (by lia)) e) (λb z ex=>z.imp id λy=>⟨y,ex⟩)).eqv λp r=>?_
   unfold zaW
   constructor
   ·rintro(⟨g2,h6,h7⟩ | ⟨rfl,h7⟩)
    ·exact⟨g2,dP _ h6,h7⟩
    ·exact⟨gs,b6 _ (bI.mpr rfl),h7⟩
   ·rintro⟨g2,h6,h7⟩
    rcases bJ.mp h6 with h6 | h6
    ·exact .inl ⟨g2,h6,h7⟩
    ·cases bI.mp h6
     exact .inr ⟨rfl,h7⟩
 ·rcases z with z | z
  ·exact(ff2 b z).imp id λy=>zJ s1 y
  ·exact .inr (fresh b z.1)
theorem VG{m gv:ac}{rank:Int}{F:ac->Prop}{g:List Row}{lays:List (Int × List Row)}{gs:List Row}(MF:MkF K t)(h1:MkAt t H m F g lays)(h2:0<=rank)(h3:LsAt H gv gs)(hgv:¬ F gv)(h4:Qt gs)(h5:lays.length<=200)(h6:rank ∉ lays.map (·.1))(q:∀H' F',(∀b o,¬ F b->H b=aa o->H' b=aa o)->(∀b zs,H b=aa (.tup zs)->H' b=aa (.tup zs))->MkAt t H' m F' g (zaW lays rank gs)->(∀b,F' b->F b\/H b=ah)->(∀b,F b->F' b)->Q .non H') :
  vG K t (qqN Q) (L2.start ["self","rank","gifts","worths","place"] [.ref m,.int rank,.ref gv]) H:=zd8 MF h1 h2 h2 h3 hgv h4 h5 h6 q
theorem zd9{H:Hp}(hp:H p=ah)(hx:∃u,H x=aa u):∃H',H'=upd (upd H p o) x o2/\H' x=aa o2/\H' p=aa o/\(∀b u,b≠x->H b=aa u->H' b=aa u)/\(∀b,H' b=ah->H b=ah):=by
 have px:p≠x:=λz=>by obtain⟨u,e⟩:=hx;rw[<-z,hp] at e;cases e
 refine⟨_,rfl,zg,by rw[zk px];exact zg,λb u n e=>by rw[zk n];exact isV p hp _ _ e,λb e=>?_⟩
 by_cases eb:b=x
 ·subst eb;rw[zg] at e;cases e
 ·rw[zk eb] at e
  exact zJ (isV p hp) e
theorem pf2 :xY (bc "folded") (V.int 0) [(bc "ground",v)]=[(bc "ground",v),(bc "folded",V.int 0)]:=by
 have h:bc "ground"≠bc "folded":=by lia
 simp only[xY,ak h]
theorem pf3 :xY (bc "worths") w [(bc "ground",v),(bc "folded",V.int 0)]=[(bc "ground",v),(bc "folded",V.int 0),(bc "worths",w)]:=by
 have h:bc "ground"≠bc "worths":=by lia
 have h2:bc "folded"≠bc "worths":=by lia
 simp only[xY,ak h,ak h2]
theorem pf4 :xY (bc "ranks") r [(bc "ground",v),(bc "folded",V.int 0),(bc "worths",w)]=[(bc "ground",v),(bc "folded",V.int 0),(bc "worths",w),(bc "ranks",r)]:=by
 have h:bc "ground"≠bc "ranks":=by lia
 have h2:bc "folded"≠bc "ranks":=by lia
 have h3:bc "worths"≠bc "ranks":=by lia
 simp only[xY,ak h,ak h2,ak h3]
theorem Vd{vs:List V}{_E:XK}(MF:MkF K t)(h:jI t vs H Q _E) :
  jL K t (qqN Q) (L2.start ["self","table"] vs) H:=by
 obtain⟨x,h,dx,rows,rfl,h1,h2,h3,q⟩:=h
 obtain⟨xs,hx,hp⟩:=h2
 simp only[jL,kt,YJ,xK,L2.start,zo,zb,tC,zc,zi,tCB,Z2,cM,bD,b8,bO,bf,bp,bu,ap,V.ref.injEq,bQ,and_true,aq,cg,b9]
 refine⟨xs,hx,rows,hp,by have:=h3;lia,λgr hgr=>?_⟩
 have s1:=isV (o:=HO.dT (dOf rows)) gr hgr
 refine⟨_,_,_,s1 _ _ h1,MF.cl,MF.g,by lia,?_⟩
 rw[show xY (bc "ground") (V.ref gr) []=[(bc "ground",V.ref gr)] from rfl]
 refine⟨_,_,_,zg,MF.cl,MF.f,(by show 1 < 1000;decide),?_⟩
 rw[pf2,Ys]
 obtain⟨H2,eH,x2,g2,n2,f2⟩:=zd9 (o:=HO.dT (dOf rows)) (o2:=HO.ins t.q02 dx [(bc "ground",V.ref gr),(bc "folded",V.int 0)]) hgr ⟨_,h1⟩
 rw[<-eH];clear eH
 intro wo hwo
 have s3:=isV (o:=HO.dK []) wo hwo
 refine⟨_,_,_,s3 _ _ x2,MF.cl,MF.w,(by show 2 < 1000;decide),?_⟩
 rw[pf3]
 obtain⟨H4,eH,x4,w4,n4,f4⟩:=zd9 (o:=HO.dK []) (o2:=HO.ins t.q02 dx [(bc "ground",V.ref gr),(bc "folded",V.int 0),(bc "worths",V.ref wo)]) hwo ⟨_,x2⟩
 rw[<-eH];clear eH
 intro rk hrk
 have s5:=isV (o:=HO.dT []) rk hrk
 refine⟨_,_,_,s5 _ _ x4,MF.cl,MF.r,(by show 3 < 1000;decide),?_⟩
 rw[pf4]
 obtain⟨H6,eH,x6,r6,n6,f6⟩:=zd9 (o:=HO.dT []) (o2:=HO.ins t.q02 dx [(bc "ground",V.ref gr),(bc "folded",V.int 0),(bc "worths",V.ref wo),(bc "ranks",V.ref rk)]) hrk ⟨_,x4⟩
 rw[<-eH];clear eH
 have gx:gr≠x:=zT g2 x2 (by lia)
 have wx:wo≠x:=zT w4 x4 (by lia)
 have g4:=n4 _ _ gx g2
 have g6:=n6 _ _ gx g4
 have w6:=n6 _ _ wx w4
 have gk:gr≠rk:=λz=>by rw[z,hrk] at g4;cases g4
 refine q H6 (λb=>b=x\/b=gr\/b=wo\/b=rk) (λb o n e=>n6 _ _ n (n4 _ _ n (n2 _ _ n e))) ?_ λb z=>?_
 ·refine⟨λb z=>?_,.inl rfl,ef,λ_ h=>(nomatch h),dx,gr,wo,rk,[],[],x6,.inr (.inl rfl),.inr (.inr (.inl rfl)),.inr (.inr (.inr rfl)),gk,g6,w6,.nil,r6,ef,ef,λ_ h=>(nomatch h),λp r ⟨_,h,_⟩=>(nomatch h)⟩
  rcases z with rfl | rfl | rfl | rfl
  ·exact⟨_,x6⟩
  ·exact⟨_,g6⟩
  ·exact⟨_,w6⟩
  ·exact⟨_,r6⟩
 ·rcases z with rfl | rfl | rfl | rfl
  ·exact .inl rfl
  ·exact .inr hgr
  ·exact .inr (f2 _ hwo)
  ·exact .inr (f2 _ (f4 _ hrk))
theorem Ve(p:Pl)(rank:Int)(y:Int × List Row):∀(l:List (Int × List Row)) (s:Int × Int),qg p rank (l ++ [y]) s=(if (qg p rank l s).1 < y.1/\y.1 < rank then Qs p y.1 y.2 (qg p rank l s) else qg p rank l s)
 | [],s=>rfl
 | a :: t,s=>by rw[ca,qg,Ve p rank y t,qg]
theorem yT{σ:St}{i:Nat}{x C dx:ac}{fs:List (Str × V)}{f:Str}{R:V->Prop}(h1:H x=aa (.ins C dx fs))(c:Cls K C)(n:NoAttr K C f)(h0:σ[i]?=aa (aa (.ref x)))(hv:fs.lookup f=aa v)(q:R v):∃y,σ[i]?=aa (aa y)/\∃a C dx fs v,y=.ref a/\H a=aa (.ins C dx fs)/\Cls K C/\NoAttr K C f/\fs.lookup f=aa v/\R v:=⟨_,h0,x,C,dx,fs,v,rfl,h1,c,n,hv,q⟩
theorem qa{σ:St}{i:Nat}{x C dx:ac}{fs:List (Str × V)}{R:V->Prop}(h1:H x=aa (.ins C dx fs))(h0:σ[i]?=aa (aa (.ref x)))(hv:fs.lookup m=ah)(q:R (.ref x)):∃y,σ[i]?=aa (aa y)/\∃a dx fs,y=.ref a/\H a=aa (.ins C dx fs)/\fs.lookup m=ah/\R y:=⟨_,h0,x,dx,fs,rfl,h1,hv,q⟩
theorem zgA{P U:Prop}(f:U->P)(u:U):P:=f u
theorem xD{P R:Prop}(h:b=am)(r:R):if b=af then P else R:=by rw[ak (by rw[h];decide)];exact r
theorem ve{P R:Prop}(h:b=af)(p:P):if b=af then P else R:=by rw[ao h];exact p
theorem mB{i j:Int}(a:-10000000000000000000000000000000000000000000000 < i)(b:i < 10000000000000000000000000000000000000000000000)(c:-10000000000000000000000000000000000000000000000 < j)(d:j < 10000000000000000000000000000000000000000000000):CMulB i j:=by
 have hb:(10000000000000000000000000000000000000000000000:Int) < big:=by lia
 exact⟨⟨by lia,by lia⟩,by lia,by lia⟩
def drI(c:Int)(m:Nat)(l:ac)(H0:Hp)(i:Nat)(σ:St)(H:Hp):Prop:=∃(ds:List Int) (x y:Int),(∃o5,σ=[aa (.int c),aa (.int (m:Nat)),aa (.ref l),aa (.int x),aa (.int y),o5])/\Same H0 H/\H l=aa (.lst (ds.map V.int))/\ds.length=i/\(∀d∈ds,okD d)/\0<=x/\x < 1000100/\0<=y/\y < 1000100
theorem mS{i j:Int}(a:0<=i)(b:i < 1000100)(c:0<=j)(d:j < 1000100):CMulB i j:=mB (by lia) (by lia) (by lia) (by lia)
theorem Kh{k:Int}(h0:σ[i]?=aa (aa (.ref p)))(h1:H p=aa (.lst xs))(h2:atI xs k=aa v)(q:Q v H):tOp (yL K) (zb i) (tC (.int k)) σ H Q:=⟨_,h0,p,xs,k,v,rfl,rfl,SqL.of h1,h2,q⟩
theorem Ki{σ:St}{te:TE}{y n:Int}(he:∀Q:VK,Q (.int y) H->te σ H Q)(hn:0 < n)(q:∀k,0<=k->k < n->Q (.int k) H):tOp (rI (λ_ j=>0 < j) λi j=>.int (i % j)) te (tC (.int n)) σ H Q:=he _ ⟨_,_,rfl,rfl,hn,q _ (dO _ (by lia)) (dC _ hn)⟩
theorem Vf{vs:List V}{_E:XK}(h:xb vs H Q _E) :
  ZN K t (qqN Q) (L2.start ["cell","many","found","one","two","k"] vs) H:=by
 obtain⟨c,m,rfl,hm,q⟩:=h
 refine⟨by lia,λl hl=>?_⟩
 generalize c_:upd H l _=H0
 obtain⟨s0,e0⟩:=x8 c_ hl
 unfold zo zK zp
 show tOp (rI (λ_ j=>0 < j) λi j=>.int (i % j)) (zb 0) (tC (.int 1000003)) _ _ _
 refine Ki (λ_ q=>⟨_,rfl,q⟩) (by lia) λx0 a1 a2=>⟨_,_,rfl,rfl,?_⟩
 show tOp (rI (λ_ j=>0 < j) λi j=>.int (i % j)) (tOp (rI yG λi j=>.int (i / j)) (zb 0) (tC (.int 1000003))) (tC (.int 999983)) _ _ _
 refine Ki (λ_ q=>⟨_,rfl,_,_,rfl,rfl,dB,q⟩) (by lia) λy0 a3 a4=>⟨_,_,rfl,rfl,?_⟩
 refine⟨_,rfl,m,rfl,by lia,by lia,vS (drI c m l H) ⟨[],x0 + 17,y0 + 29,⟨_,rfl⟩,s0,e0,rfl,(λd z=>nomatch z),by lia,by lia,by lia,by lia⟩ ?_ ?_⟩
 ·rintro i σ H1 hi ⟨ds,x,y,⟨o5,rfl⟩,s1,h1,li,od,x0,x1,y0,y1⟩
  have hi:i < m:=by lia
  show tOp _ _ (tC (.int 1000003)) _ _ _
  refine Ki (λ_ q=>⟨_,rfl,_,rfl,_,_,rfl,rfl,mS x0 x1 x0 x1,_,rfl,_,_,rfl,rfl,mS (by lia) (by lia) y0 y1,_,_,rfl,rfl,_,rfl,_,_,rfl,rfl,q⟩) (by lia) λx' n1 n2=>?_
  have n2':x' < 1000100:=by lia
  dsimp only
  refine Ki (λ_ q=>⟨_,rfl,_,rfl,_,_,rfl,rfl,mS y0 y1 n1 n2',_,rfl,_,_,rfl,rfl,mS (by lia) (by lia) n1 n2',_,_,rfl,rfl,_,_,rfl,rfl,q⟩) (by lia) λy' n3 n4=>?_
  have n4':y' < 1000100:=by lia
  refine⟨_,rfl,.inl ⟨rfl,_,SqL.of h1⟩,_,rfl,_,_,rfl,rfl,mS n1 n2' (by lia) (by lia),_,rfl,_,_,rfl,rfl,l,_,_,rfl,rfl,h1,bY (by rw[bo];lia:_<=63) (by lia),ds ++ [x' * 999983 + y'],x',y',⟨_,rfl⟩,y9 s1 hl,by rw[cB];exact zg,by rw[bn,li];rfl,λd hd=>?_,n1,n2',n3,n4'⟩
  rcases bJ.mp hd with hd | hd
  ·exact od d hd
  ·rw[bI.mp hd]
   exact⟨by lia,by lia⟩
 ·rintro σ H1 ⟨ds,x,y,⟨o5,rfl⟩,s1,h1,li,od,_⟩
  exact⟨_,rfl,q l ds H1 s1 hl h1 (by simpa using li) od⟩
theorem zgB{n:Int}:inW (n * 1000000021000000147000000343 % 2000000000000000000000000000001 - 1000000000000000000000000000000)=af:=by
 have g1:=dO (n * 1000000021000000147000000343) (b:=2000000000000000000000000000001) (by lia)
 have g2:=dC (n * 1000000021000000147000000343) (b:=2000000000000000000000000000001) (by lia)
 exact inW_iff.mpr (by lia)
theorem Wg{vs:List V}{_E:XK}(h:yZ vs H Q _E) :
  v7 K t (qqN Q) (L2.start ["number"] vs) H:=by
 obtain⟨n,rfl,h1,h2,q⟩:=h
 simp only[v7,L2.start,zo,zG,zH,tOp,zb,tC,zQ,zB,rEq,rI,rI0,JB,cM,bD,b8,bO,bf,bu,ap,V.int.injEq,V.bl.injEq,true_and,aq,cg,b9,decide_eq_true_eq,Int.reduceToNat,Int.reducePow,Int.reduceMul,Int.reduceAdd]
 have P3:=zdS (j:=30) (by lia) (by lia)
 refine⟨by lia,xp (λ_=>⟨⟨by lia,by lia,by lia⟩,mB (by lia) (by lia) (by lia) (by lia),P3,mB (by lia) (by lia) (by lia) (by lia),by lia,P3,q _ _ zgB (Same.refl _)⟩) λ_=>⟨dB,by lia,q _ _ (inW_iff.mpr (by lia)) (Same.refl _)⟩⟩
theorem zfr:∀v∈jw ++ wl,(match v with | .str w=>yI (w ++ bc "z") | _=>am)=af:=by lia
theorem zfs(h:smW w)(n1:inV (.str w) jw=am)(n2:inV (.str w) wl=am):yI w=af:=by
 obtain⟨h1,h2,h3⟩:=h
 have ne:decide (w="")=am:=decide_eq_false λz=>by rw[z] at h1;exact absurd h1 (by lia)
 have nl:decide (6 < w.length)=am:=decide_eq_false (by lia)
 unfold yI
 unfold YO at h3
 rw[n1,n2,h3,ne,nl];rfl
theorem zha(h:inV (.str w) (jw ++ wl)=af):yI (w ++ bc "z")=af:=by
 unfold inV at h
 obtain⟨v,hv,e⟩:=pM.mp h
 have z:=zfr v hv
 cases v <;> simp only[eqV,cC] at e
 rename_i y
 have e':y=w:=by simpa using e
 subst e'
 exact z
theorem zbE :inV v (a ++ b)=(inV v a || inV v b):=by unfold inV;rw[List.any_append]
theorem Yo{vs:List V}{_E:XK}(h:ym vs H Q _E) :
  wC K t (qqN Q) (L2.start ["word"] vs) H:=by
 obtain⟨w,rfl,h,q⟩:=h
 simp only[wC,L2.start,zo,zG,zH,tOp,zb,tC,yt,zc,zi,zQ,zB,rIn,WI,cM,bD,b8,bO,bf,bu,ap,V.ref.injEq,V.str.injEq,V.bl.injEq,aq,cg,b9,cC,ite_false]
 obtain⟨h1,h2,_⟩:=id h
 refine⟨by lia,λp hp=>⟨wl,.inr (SqT.of zg),rfl,by lia,?_⟩⟩
 have s1:=isV (o:=HO.tup wl) p hp
 have z1:(bc "z").length=1:=by lia
 refine xp (λc=>⟨y8 (by lia),q _ _ (zha (by rw[zbE,c,Bool.or_true])) s1⟩) λc=>⟨by lia,λp2 hp2=>⟨jw,.inr (SqT.of zg),rfl,by lia,?_⟩⟩
 have s2:=s1.trans (isV (o:=HO.tup jw) p2 hp2)
 exact xp (λc2=>⟨y8 (by lia),q _ _ (zha (by rw[zbE,c2,Bool.true_or])) s2⟩) λc2=>q _ _ (zfs h (by simpa using c2) (by simpa using c)) s2
section
variable {n:Int}{a:ac}{ws:List Str}{x:Str}
theorem zea{k:Int}(h:okD n)(hk:0 < k):okD (n / k):=by
 obtain⟨a,b⟩:=h
 have h1:=Int.ediv_nonneg a (Int.le_of_lt hk)
 have h2:=Int.ediv_le_self (a:=n) k a
 exact⟨h1,by lia⟩
theorem lx(h:yI x=af):TermOk [.str x]/\tmP [.str x]:=YX (.inr ⟨x,rfl,h⟩)
theorem Kj{σ:St}{j:Nat}{te:TE}{r:Int}(h3:NamesAt H a ws)(h4:ws.length=2)(h0:σ[j]?=aa (aa (.ref a)))(ht:∀Q:VK,Q (.int r) H->te σ H Q)(hq:∀x,yI x=af->Q (.str x) H):tOp (yL K) (zb j) (tOp (rI (λ_ j=>0 < j) λi j=>.int (i % j)) te (tC (.int 2))) σ H Q:=by
 obtain⟨x,hx,_,nx⟩:=QO h3 2 h4 (by lia) r
 exact⟨_,h0,ht _ ⟨_,_,rfl,rfl,(by lia:(0:Int) < 2),_,_,_,_,rfl,rfl,SqL.of h3.1,hx,hq x nx⟩⟩
theorem QR{k:Int}(d:yG n k)(h0:σ[0]?=aa (aa (.int n)))(Q:VK)(q:Q (.int (n / k)) H):tOp (rI yG λi j=>.int (i / j)) (zb 0) (tC (.int k)) σ H Q:=⟨_,h0,_,_,rfl,rfl,d,q⟩
theorem tm3(a:TermOk [u]/\tmP [u])(b:TermOk [v]/\tmP [v])(j:wdJ w):TermOk [u,v,.str w]/\tmP [u,v,.str w]:=⟨Jq a.1 b.1 j (by simp),zbB a.2 b.2 j⟩
theorem VH{vs:List V}{_E:XK}(h:kO vs H Q _E) :
  k8 K t (qqN Q) (L2.start ["number","slots","kind"] vs) H:=by
 obtain⟨n,a,ws,rfl,h1,h3,h4,q⟩:=h
 have jw1:wdJ (bc "over"):=⟨by lia,by lia,by lia⟩
 have jw2:wdJ (bc "rest"):=⟨by lia,by lia,by lia⟩
 unfold k8 zo zQ Jv zK
 refine Ki (λ_ q=>⟨_,rfl,q⟩) (by lia) λk k0 k1=>?_
 have fin:∀ {e:List V} {H1:Hp},Same H H1->e.length<=3->TermOk e/\tmP e->e.length<=sizeLine/\∀p,H1 p=ah->Q (.ref p) (upd H1 p (.tup e)):=λs l h=>⟨bN l (by lia),λp hp=>q p _ _ (s.trans (isV p hp)) (zJ s hp) zg h.1 h.2⟩
 refine⟨_,rfl,_,_,rfl,rfl,_,rfl,xp (λ_=>Ki (QR dB rfl) (by lia) λk k0 k1=>fin (Same.refl _) (by lia:1<=3) (YX (.inl ⟨_,rfl,inW_iff.mpr (by lia)⟩))) λ_=>⟨_,rfl,rfl,_,rfl,xp (λ_=>Kj h3 h4 rfl (QR dB rfl) λx nx=>fin (Same.refl _) (by lia:1<=3) (lx nx)) λ_=>?_⟩⟩
 refine zgA (λU=>⟨_,rfl,rfl,_,rfl,xp (λ_=>⟨_,rfl,_,_,rfl,rfl,dB,_,_,rfl,rfl,(by lia:(0:Int) < 3),rfl,_,rfl,xp (λ_=>Kj h3 h4 rfl (QR dB rfl) λx nx=>fin (Same.refl _) (bh 3) (tm3 (YX (.inl ⟨7,rfl,by lia⟩)) (lx nx) jw1)) λ_=>U⟩) λ_=>U⟩) ?_
 have o:=zea (k:=5) h1 (by lia)
 exact⟨_,rfl,rfl,_,rfl,xp (λ_=>Kj h3 h4 rfl (QR dB rfl) λx nx=>fin (Same.refl _) (bh 3) (tm3 (lx nx) (YX (.inl ⟨3,rfl,by lia⟩)) jw2)) λ_=>⟨_,rfl,_,_,rfl,rfl,dB,_,rfl,o.1,o.2,λw H' hw s=>fin s (by lia:1<=3) (YX (.inl ⟨_,rfl,hw⟩))⟩⟩
def tw8:List V:=[V.str (bc "plus"),V.str (bc "minus"),V.str (bc "times"),V.str (bc "over"),V.str (bc "rest"),V.str (bc "under"),V.str (bc "same")]
theorem zgC{i:Int}(h0:0<=i)(h1:i < 7):∃w:Str,atI tw8 i=aa (.str w)/\wdJ w:=by
 obtain⟨x,hx,hm⟩:=Qz (xs:=tw8) (i:=i) h0 h1
 unfold tw8 at hm
 simp only[bE,cI,or_false] at hm
 rcases hm with rfl | rfl | rfl | rfl | rfl | rfl | rfl <;> exact⟨_,hx,by lia,by lia,by lia⟩
theorem VI{vs:List V}{_E:XK}(h:vE vs H Q _E) :
  k9 K t (qqN Q) (L2.start ["number","slots","words","kind"] vs) H:=by
 obtain⟨n,a,ws,rfl,h1,h3,h4,q⟩:=h
 have fin:∀ {e:List V} {H1:Hp},Same H H1->e.length<=3->TermOk e/\tmP e->e.length<=sizeLine/\∀p,H1 p=ah->Q (.ref p) (upd H1 p (.tup e)):=λs l h=>⟨bN l (by lia),λp hp=>q p _ _ (s.trans (isV p hp)) (zJ s hp) zg h.1 h.2⟩
 unfold k9 zo zQ zK
 refine⟨(by lia:7<=sizeLine),λl hl=>?_⟩
 generalize c_:upd H l _=H0
 obtain⟨s0,e0⟩:=x8 c_ hl
 have e0:H0 l=aa (.lst tw8):=e0
 have h3:=h3.same s0
 have o:=zea (k:=9) h1 (by lia)
 have o':=zea (k:=36) h1 (by lia)
 refine Ki (σ:=[aa (.int n),aa (.ref a),aa (.ref l),ah]) (te:=zb 0) (n:=9) (λ_ q=>⟨_,rfl,q⟩) (by lia) λk k0 k1=>?_
 refine⟨_,rfl,rfl,_,rfl,xp (λ_=>⟨_,rfl,_,_,rfl,rfl,dB,_,rfl,o.1,o.2,λw H' hw s=>fin (s0.trans s) (by lia:1<=3) (YX (.inl ⟨_,rfl,hw⟩))⟩) λz0=>⟨_,rfl,rfl,_,rfl,xp (λ_=>Kj h3 h4 rfl (QR dB rfl) λx nx=>fin s0 (by lia:1<=3) (lx nx)) λz1=>?_⟩⟩
 have z0:k≠0:=λe=>z0 (decide_eq_true (congrArg V.int e))
 have z1:k≠1:=λe=>z1 (decide_eq_true (congrArg V.int e))
 obtain⟨y,hy,jy⟩:=zgC (i:=k - 2) (by lia) (by lia)
 exact⟨_,rfl,_,_,rfl,rfl,dB,_,_,rfl,rfl,(by lia:(0:Int) < 2),rfl,_,rfl,xp (λ_=>Kj h3 h4 rfl (QR dB rfl) λx nx=>⟨_,rfl,_,_,rfl,rfl,dB,_,rfl,o'.1,o'.2,λw H' hw s=>⟨_,rfl,_,rfl,_,_,rfl,rfl,_,_,_,_,rfl,rfl,SqL.of (s _ _ e0),hy,fin (s0.trans s) (bh 3) (tm3 (lx nx) (YX (.inl ⟨_,rfl,hw⟩)) jy)⟩⟩) λ_=>Kj h3 h4 rfl (QR dB rfl) λx nx=>Kj h3 h4 rfl (QR dB rfl) λz nz=>⟨_,rfl,_,rfl,_,_,rfl,rfl,_,_,_,_,rfl,rfl,SqL.of e0,hy,fin s0 (bh 3) (tm3 (lx nx) (lx nz) jy)⟩⟩
end
def abc:Str:="abcdefghijklmnopqrstuvwxyz"
theorem zgD:∀c∈abc.cps.toList,inL c=af:=by lia
theorem zeb{e:Int}(g1:0<=e)(g2:e < 26):∃c,atI abc.cps.toList e=aa c/\inL c=af:=by
 obtain⟨v,h1,h2⟩:=Qz (xs:=abc.cps.toList) (i:=e) g1 (by rw[show abc.cps.toList.length=26 from by lia];exact g2)
 exact⟨v,h1,zgD v h2⟩
def zho(v:V):Prop:=∃c,v=.str ⟨#[c]⟩/\inL c=af
theorem QS:∀ {ls:List Str},(∀x∈ls,∃c,x=⟨#[c]⟩/\inL c=af)->((ls.map λp=>p.cps.toList).flatten).length=ls.length/\((ls.map λp=>p.cps.toList).flatten).all inL=af/\(ls.map (·.length)).sum=ls.length
 | [],_=>⟨rfl,rfl,rfl⟩
 | x :: ls,h=>by
  obtain⟨c,rfl,hc⟩:=h x bt
  obtain⟨a,b,d⟩:=QS (ls:=ls) λy hy=>h y (br _ hy)
  have l1:((⟨#[c]⟩:Str) :: ls).length=ls.length + 1:=rfl
  refine⟨?_,?_,?_⟩
  ·rw[bM,eU,bn,a,l1]
   show 1 + ls.length=_
   lia
  ·rw[bM,eU,rf,b]
   show ([c].all inL && af)=af
   simp[hc]
  ·rw[bM,i9,d,zbw,l1];lia
section
variable {c:Int}{x y:Str}
theorem zbF(h:yI x=af):smW x:=by
 unfold yI at h
 simp only[ck,dt,i4,decide_eq_false_iff_not] at h
 obtain⟨⟨⟨h1,h2⟩,_⟩,h3⟩:=h
 refine⟨?_,by lia,h3⟩
 cases z:x.length with
 | zero =>
  exfalso
  apply h1
  obtain⟨⟨l⟩⟩:=x
  have:l.length=0:=z
  rw[List.length_eq_zero_iff.mp this]
  rfl
 | succ n=>lia
theorem zco{k:Nat}{o2:Option V}(hx:yI x=af)(hk:k < x.length){d:Nat}(hd:inL d=af)(q:∀nm ws H',Same H H'->H nm=ah->NamesAt H' nm ws->ws.length=2->Q (.ref nm) H') :
  v5 K t (qqN Q) [aa (.int c),aa (.str "abcdefghijklmnopqrstuvwxyz"),o2,aa (.str x),aa (.int (k:Nat)),aa (.str ⟨#[d]⟩)] H:=by
 obtain⟨h1,h2,h3⟩:=zbF hx
 have ol:=zbw d
 have od:=zdV hd
 have fin:∀ {u v:Str} {H1:Hp},yI u=af->yI v=af->Same H H1->2<=sizeLine/\∀p,H1 p=ah->Q (.ref p) (upd H1 p (HO.lst [.str u,.str v])):=λ{u v H1} hu hv s=>⟨by lia,λp hp=>q p [u,v] _ (s.trans (isV p hp)) (zJ s hp) ⟨zg,λw hw=>by
  rcases bE.mp hw with e | hw
  ·rw[e];exact hu
  ·rw[bI.mp hw];exact hv⟩ rfl⟩
 have sx:x.length<=sizeLine:=y8 (by lia)
 unfold v5 zo zQ Jv
 refine zgA (λU=>⟨_,rfl,_,_,rfl,rfl,dB,_,_,rfl,rfl,(by lia:(0:Int) < 3),rfl,_,rfl,xp (λ_=>⟨_,rfl,_,_,rfl,⟨sx,rfl⟩,_,_,rfl,rfl,_,rfl,xp (λc6=>⟨_,rfl,_,rfl,_,rfl,_,_,rfl,rfl,y8 (by have:=of_decide_eq_true c6;lia),_,rfl,⟨by rw[vA];lia,by have:=of_decide_eq_true c6;rw[vA];lia,YV h3 od⟩,λz H' hz s=>fin hx hz s⟩) λ_=>U⟩) λ_=>U⟩) ?_
 refine zgA (λU=>⟨_,rfl,_,_,rfl,rfl,dB,_,_,rfl,rfl,(by lia:(0:Int) < 3),rfl,_,rfl,xp (λ_=>⟨_,rfl,_,_,rfl,⟨sx,rfl⟩,_,_,rfl,rfl,_,rfl,xp (λc6=>⟨_,rfl,_,rfl,_,_,rfl,rfl,y8 (by have:=of_decide_eq_true c6;lia),_,rfl,⟨by rw[vA];lia,by have:=of_decide_eq_true c6;rw[vA];lia,YV od h3⟩,λz H' hz s=>⟨_,rfl,fin hz hx s⟩⟩) λ_=>U⟩) λ_=>U⟩) ?_
 have a1:=zgt x k (by lia)
 have a2:=zdW x (k + 1)
 have e:((k:Int) + 1)=((k + 1:Nat):Int):=by lia
 refine⟨_,rfl,_,rfl,_,rfl,_,rfl,_,rfl,sx,_,rfl,_,_,rfl,rfl,y8 (by lia),_,rfl,_,rfl,_,_,rfl,rfl,_,rfl,_,rfl,sx,_,_,rfl,rfl,?_⟩
 rw[e]
 exact⟨y8 (by rw[vA];lia),_,rfl,⟨by rw[vA,vA];lia,by rw[vA,vA];lia,YV (YV (zfg h3 k) od) (zcj h3 (k + 1))⟩,λz H' hz s=>fin hx hz s⟩
theorem zcp{o2:Option V}(hx:yI x=af)(q:∀nm ws H',Same H H'->H nm=ah->NamesAt H' nm ws->ws.length=2->Q (.ref nm) H') :
  v6 K t (qqN Q) [aa (.int c),aa (.str "abcdefghijklmnopqrstuvwxyz"),o2,aa (.str x),ah,ah] H:=by
 simp only[v6,Xe,zo,zK,zp,tOp,zb,tC,zc,zi,tCB,tBM,tyV,KC,zbU,rI,rI0,xZ,bf,bp,bu,ap,exists_eq_left,V.int.injEq,V.str.injEq,bQ,and_true,true_and,and_assoc,aq,cf,cA]
 obtain⟨h1,h2,h3⟩:=zbF hx
 have g1:=dO (c / 6) (b:=(x.length:Int)) (by lia)
 have g2:=dC (c / 6) (b:=(x.length:Int)) (by lia)
 obtain⟨k,ek⟩:∃k:Nat,c / 6 % (x.length:Int)=k:=⟨(c / 6 % (x.length:Int)).toNat,(oF g1).symm⟩
 rw[ek] at g1 g2 ⊢
 obtain⟨y,hy,my⟩:=Qz (xs:=x.cps.toList) (i:=(k:Int)) g1 (by rw[<-YD];exact g2)
 have sx:x.length<=sizeLine:=y8 (by lia)
 have sz:(bc "abcdefghijklmnopqrstuvwxyz").length<=sizeLine:=by lia
 have f1:=dO (zbo (bc "abcdefghijklmnopqrstuvwxyz") ⟨#[y]⟩ + 1 + c / 36 % 25) (b:=26) (by lia)
 have f2:=dC (zbo (bc "abcdefghijklmnopqrstuvwxyz") ⟨#[y]⟩ + 1 + c / 36 % 25) (b:=26) (by lia)
 obtain⟨d,hd,ld⟩:=zeb f1 f2
 exact⟨dB,sx,by lia,sx,y,hy,dB,by lia,by lia,sz,d,hd,zco hx (by lia) ld q⟩
theorem VJ{vs:List V}{_E:XK}(h:vD vs H Q _E) :
  kS K t (qqN Q) (L2.start ["cell","letters","word","one","at","letter"] vs) H:=by
 obtain⟨c,rfl,q⟩:=h
 simp only[kS,qZ,xb,ym,L2.start,Xf,zo,zK,zp,tOp,zb,tC,zc,zi,tBM,tyV,zL,qf,KS,KR,wV,zbU,rI,rI0,cM,bD,b8,ca,cz,bO,bf,bp,bu,ap,V.int.injEq,V.ref.injEq,V.str.injEq,bQ,and_true,true_and,and_assoc,aq,cf,cA,cg,b9,if_true]
 have g1:=dO c (b:=6) (by lia)
 have g2:=dC c (b:=6) (by lia)
 obtain⟨m,em⟩:∃m:Nat,1 + c % 6=m:=⟨(1 + c % 6).toNat,by lia⟩
 rw[em]
 refine⟨by lia,m,rfl,by lia,λl ds H1 s1 fl hl ld od=>⟨⟨_,SqL.of hl⟩,λD hD=>?_⟩⟩
 have lm:(ds.map V.int).length=ds.length:=bo ..
 refine zcW (J:=Itl K l) ds.length (by lia) (λτ=>∃o,τ=[o,aa (.str "abcdefghijklmnopqrstuvwxyz")]) (λi v=>zho v) ⟨_,rfl⟩ (λi H s h=>⟨_,_,SqL.of (s _ _ hl),bb (by rw[lm];exact h)⟩) (λH s=>⟨_,SqL.of (s _ _ hl),by rw[lm];exact bh _⟩) hD ?_ ?_
 ·rintro i v τ H2 H' ⟨o,rfl⟩ s hi ⟨rfl,hv⟩
  have hv:=hv _ (SqL.of (s _ _ hl))
  obtain⟨e,_,rfl⟩:=bP.mp (cE hv)
  simp only[bf,bp,bu,ap,V.int.injEq,V.str.injEq,bQ,and_true,cf]
  have f1:=dO e (b:=26) (by lia)
  have f2:=dC e (b:=26) (by lia)
  obtain⟨d,hd,ld⟩:=zeb f1 f2
  exact⟨by lia,by lia,d,hd,⟨_,rfl⟩,⟨d,rfl,ld⟩,Same.refl _⟩
 ·intro ys H2 hly hv s hq
  obtain⟨ls,rfl,hp⟩:=zbz (P:=λx=>∃c,x=⟨#[c]⟩/\inL c=af) (ys:=ys) λv hv2=>by
   obtain⟨i,hi⟩:=dz hv2
   obtain⟨c,e,h⟩:=hv i v hi
   exact⟨_,e,c,rfl,h⟩
  rw[bo] at hly
  obtain⟨j1,j2,j3⟩:=QS hp
  have jc:=zc0 ls
  have jl:(V9 (bc "") ls).length=ls.length:=by rw[YD,jc,j1]
  have sl:=JN (bc "") ls 0
  refine⟨ls,SqL.of hq,?_,⟨by lia,by lia,by unfold YO;rw[jc];exact j2⟩,λx H3 hx s3=>?_⟩
  ·unfold zcZ
   rw[sl,j3,show (bc "").length=0 from by lia]
   exact y8 (by lia)
  ·exact zcp hx λnm ws H' s' fn hn l2=>q nm ws H' (s1.trans (s.trans (s3.trans s'))) (zJ s1 (zJ s (zJ s3 fn))) hn l2
end
def tbI(c:Int)(a x d:ac)(H0:Hp)(i:Nat)(σ:St)(H':Hp):Prop:=∃rows:List Row,(∃o1 o2,σ=[aa (.int c),aa (.ref a),aa (.ref x),aa (.ref d),o1,o2])/\Same H0 H'/\H' d=aa (.dT (dOf rows))/\rows.length<=i/\∀r∈rows,cR r.1.1=af/\inW r.2=af/\r.2≠0
theorem Vg{vs:List V}{_E:XK}(h:jH vs H Q _E) :
  ZO K t (qqN Q) (L2.start ["cell","shelves","xs","found","k","worth"] vs) H:=by
 obtain⟨c,a,ws,rfl,h1,h2,q⟩:=h
 refine⟨_,rfl,c,10,rfl,by lia,λx ds H1 s1 fx hx ld od d hd=>?_⟩
 have g1:=dO c (b:=6) (by lia)
 have g2:=dC c (b:=6) (by lia)
 have s2:=isV (o:=HO.dT []) d hd
 have S2:=s1.trans s2
 have fd:=zJ s1 hd
 refine⟨_,rfl,_,_,rfl,rfl,by show (0:Int) < 6;decide,c % 6,rfl,by lia,by lia,vS (tbI c a x d H1) ⟨[],⟨_,_,rfl⟩,s2,zg,bh _,λ_ z=>nomatch z⟩ ?_ ?_⟩
 ·rintro i σ H' hi ⟨rows,⟨o1,o2,rfl⟩,s,hD,hl,hr⟩
  rw[nV]
  have lm:(ds.map V.int).length=ds.length:=bo ..
  have hx':SqL K H' x (ds.map V.int):=SqL.of (s _ _ hx)
  have h1':=h1.same (s1.trans s)
  have i6:i < 6:=by lia
  have at1:∀ {j:Nat},j < 10->atI (ds.map V.int) ((j:Nat):Int)=aa (.int (ds.getD j 0))/\okD (ds.getD j 0):=λ{j} hj=>by
   have hj:j < ds.length:=by lia
   have e:ds.getD j 0=ds[j]:=by rw[bC,bb hj];rfl
   exact⟨wc (by rw[bw,bb hj,e];rfl),by rw[e];exact od _ (eN hj)⟩
  obtain⟨e5,o5⟩:=at1 (j:=i + 5) (by lia)
  obtain⟨e0,o0⟩:=at1 (j:=i) (by lia)
  generalize ds.getD (i + 5) 0=u at *
  generalize ds.getD i 0=v at *
  refine⟨_,rfl,_,rfl,_,_,rfl,rfl,x,_,((i + 5:Nat):Int),_,rfl,rfl,hx',e5,u,rfl,o5.1,o5.2,λw H2 hw s2=>⟨_,rfl,rfl,_,rfl,?_⟩⟩
  by_cases w0:w=0
  ·exact xD (by rw[w0];rfl) ⟨rows,⟨_,_,rfl⟩,s.trans s2,s2 _ _ hD,by lia,hr⟩
  refine ve (by rw[decide_eq_false (λz=>w0 (V.int.inj z))];rfl) ?_
  obtain⟨sh,hsh,_,nsh⟩:=QO (h1'.same s2) 2 h2 (by lia) v
  have hx2:=hx'.mono s2
  refine⟨_,rfl,_,rfl,_,rfl,_,rfl,_,rfl,x,_,i,_,rfl,rfl,hx2,e0,_,_,rfl,rfl,by show (0:Int) < 2;decide,a,_,v % 2,_,rfl,rfl,SqL.of (h1'.same s2).1,hsh,_,rfl,_,rfl,x,_,i,_,rfl,rfl,hx2,e0,_,_,rfl,rfl,dB,_,_,rfl,rfl,by show (0:Int) < 3;decide,by show 2<=sizeLine;rw[bT];decide,λp hp=>?_⟩
  have s5:=isV (o:=HO.tup [V.str sh,V.int (v / 2 % 3)]) p hp
  have S5:=s2.trans s5
  have lD:=wj rows
  refine⟨d,_,rfl,DPut.t (k:=zy (sh,v / 2 % 3)) (S5 _ _ hD) zg (bY (by lia:_<=900) (by lia)),rows ++ [((sh,v / 2 % 3),w)],⟨_,_,rfl⟩,y9 (s.trans S5) hd,?_,by simp;lia,?_⟩
  ·rw[qC];exact zg
  ·intro z hz
   rcases bJ.mp hz with hz | hz
   ·exact hr z hz
   ·rw[bI.mp hz]
    exact⟨Zz nsh,hw,λz=>w0 z⟩
 ·rintro σ H' ⟨rows,⟨o1,o2,rfl⟩,s,hD,hl,hr⟩
  simp only[wX,Qa,zp,zG,zb,yt,zc,zi,tCB,qf,KS,KR,wV,cM,bD,b8,ca,cz,bf,bp,bu,ap,V.ref.injEq,bQ,and_true,aq,b9,if_true]
  obtain⟨qs,hqs,nqs,mqs⟩:=QK rows
  have lD:=wj rows
  refine⟨dOf rows,hD,qs,hqs,by lia,λl ps hl0 hperm hpw hps=>?_⟩
  obtain⟨H3,eH,s3,q1⟩:=zbk (o:=HO.lst (ps.map λn=>V.ref n.1)) hl0
  rw[<-eH]
  clear eH
  have lp:ps.length<=5:=by
   have a1:=hperm.length_eq
   have a2:=congrArg b8 hqs
   rw[bo] at a1
   rw[bo,bo] at a2
   lia
  refine⟨⟨_,SqL.of q1⟩,λD hD2=>?_⟩
  refine QI (J:=Itl K l) ps.length (by lia) (λτ=>∃o,τ=[o,aa (.ref d)]) (zfj rows (ps.map (·.2))) (λi ys H H' s h=>zbA s h) ⟨_,rfl⟩ ⟨[],.nil,rfl⟩ (λi H s h=>⟨_,_,SqL.of (s _ _ q1),bb (by rw[bo];exact h)⟩) (λH s=>⟨_,SqL.of (s _ _ q1),by rw[bo];exact bh _⟩) hD2 ?_ ?_
  ·rintro i v τ ys H4 H5 ⟨o,rfl⟩ s4 hi hR ⟨rfl,hv⟩
   have hv:=hv _ (SqL.of (s4 _ _ q1))
   rw[bw] at hv
   obtain⟨n,hn,rfl⟩:=cy.mp hv
   have hp:=s4 _ _ (s3 _ _ (hps n (cE hn)))
   simp only[bf,bp,bu,ap,V.ref.injEq,bQ,and_true,cf]
   have hm:n.2∈qs:=hperm.mem_iff.mp (bX (cE hn))
   obtain⟨w,hw⟩:=eK.mp ((mqs n.2).mp hm)
   have g:DGet H5 d (.ref n.1) ((zx rows n.2).map V.int):=.inr ⟨dOf rows,zy n.2,n.1,.inl (s4 _ _ (s3 _ _ hD)),rfl,hp,(xA rows n.2).symm⟩
   rw[hw] at g
   have w0:w≠0:=(hr _ (YW hw)).2.2
   have tk:(ps.map (·.2)).take (i + 1)=(ps.map (·.2)).take i ++ [n.2]:=by rw[dq,bw,hn];rfl
   obtain⟨out,hr2,ho⟩:=hR
   refine⟨_,g,by lia,λp hp2=>⟨⟨_,rfl⟩,?_,isV p hp2⟩⟩
   refine⟨out ++ [(n.2,w)],Xy (vL (isV p hp2) hr2) ⟨p,n.1,rfl,zg,isV p hp2 _ _ hp⟩,?_⟩
   rw[tk,iQ,<-ho]
   simp[XW,hw,w0]
  ·rintro ys H4 hly ⟨out,hr2,ho⟩ s4 hq
   rw[cp (by rw[bo];exact bh _)] at ho
   subst ho
   have T:=zd2 hpw λp=>(hperm.mem_iff.trans (mqs p))
   have S:=s1.trans (s.trans (s3.trans s4))
   refine q D _ H4 S (zJ (s1.trans (s.trans s3)) hD2) ⟨ys,hq,hr2⟩ T.1 (λr h=>hr _ (YW ((T.2 r.1 r.2).mp h).1)) ?_
   have:=List.length_filterMap_le (XW rows) (ps.map (·.2))
   rw[bo] at this
   lia
section
variable {kd:Int}{p a b sp tp:ac}{ds:List Int}{us ws:List Str}{sh sl:Str}{e0 f:List V}{Hb:Hp}
theorem zec{y1:Int}(od:okD y1)(hp:∃xs,H p=aa (.lst xs)/\atI xs 1=aa (.int y1))(nsh:yI sh=af)(nsl:yI sl=af)(te:TermOk e0)(pe:tmP e0)(hs:H sp=aa (.tup e0))(fs:Hb sp=ah)(tf:TermOk f)(pf:tmP f)(ht:H tp=aa (.tup f))(ft:Hb tp=ah)(S:Same Hb H)
  (q:∀v r H',Same Hb H'->RwAt (λb=>Hb b=ah) H' v r->rwW r->Q v H') :
  jO K t (qqN Q) [aa (.ref p),aa (.ref a),aa (.ref b),aa (.int kd),aa (.str sh),aa (.str sl),aa (.ref sp),aa (.ref tp)] H:=by
 simp only[jO,zo,zG,zH,tOp,zb,tC,yt,zc,zi,zQ,zB,yL,rEq,rI,rI0,JB,b8,bf,bp,bu,ap,V.int.injEq,V.ref.injEq,V.bl.injEq,true_and,aq,b9,decide_eq_true_eq]
 obtain⟨ts,ps⟩:=YX (u:=.str sl) (.inr ⟨sl,rfl,nsl⟩)
 obtain⟨xs,h1,h2⟩:=hp
 refine xp (λ_=>⟨by lia,λr hr=>?_⟩) λ_=>xp (λ_=>⟨by lia,λr hr=>?_⟩) λ_=>xp (λ_=>⟨by lia,λr hr=>?_⟩) λ_=>xp (λ_=>⟨by lia,λr hr=>?_⟩) λ_=>⟨_,SqL.of h1,_,h2,_,rfl,by lia,by lia,λp2 hp2=>⟨by lia,λr hr=>?_⟩⟩
 ·exact q _ (.take sh e0 sl) _ (S.trans (isV r hr)) ⟨r,sp,rfl,zJ S hr,fs,zg,isV r hr _ _ hs⟩ ⟨trivial,⟨Zz nsh,pe,Zz nsl⟩,te⟩
 ·exact q _ (.give sh e0 f) _ (S.trans (isV r hr)) ⟨r,sp,tp,rfl,zJ S hr,fs,ft,zg,isV r hr _ _ hs,isV r hr _ _ ht⟩ ⟨trivial,⟨Zz nsh,pe,pf⟩,⟨te,tf⟩⟩
 ·exact q _ (.lt sl f) _ (S.trans (isV r hr)) ⟨r,tp,rfl,zJ S hr,ft,zg,isV r hr _ _ ht⟩ ⟨trivial,⟨Zz nsl,pf⟩,tf⟩
 ·exact q _ (.say f) _ (S.trans (isV r hr)) ⟨r,tp,rfl,zJ S hr,ft,zg,isV r hr _ _ ht⟩ ⟨trivial,pf,tf⟩
 ·have s3:=isV (o:=HO.tup [V.str sl,V.int (y1 % 3 + 1),V.str (bc "same")]) p2 hp2
  have jw:wdJ (bc "same"):=⟨by lia,by lia,by lia⟩
  obtain⟨t2,p3⟩:=YX (u:=.int (y1 % 3 + 1)) (.inl ⟨_,rfl,inW_iff.mpr (by lia)⟩)
  exact q _ (.off ([.str sl] ++ [.int (y1 % 3 + 1)] ++ [.str (bc "same")])) _ (S.trans (s3.trans (isV r hr))) ⟨r,p2,rfl,zJ (S.trans s3) hr,zJ S hp2,zg,isV r hr _ _ zg⟩ ⟨trivial,(by unfold WZ;exact zbB ps p3 jw),(by unfold qD;exact Jq ts t2 jw (by simp))⟩
theorem Kk{vs:List V}{_E:XK}(h:qU vs H Q _E) :
  Zj K t (qqN Q) (L2.start ["xs","shelves","slots","kind","shelf","slot","spot","term"] vs) H:=by
 obtain⟨p,a,b,ds,us,ws,rfl,h1,h2,h3,h4,h5,h6,h7,q⟩:=h
 match ds,h2 with
 | [x0,x1,x2],_ =>
 have o1:=h3 x1 (.tail _ (.head _))
 have o2:=h3 x2 (.tail _ (.tail _ (.head _)))
 unfold Zj zo zK zp
 refine Ki (λ_ q=>Kh rfl h1 rfl q) (by lia) λk _ _=>?_
 refine Kj h4 h5 rfl (λ_ q=>Kh rfl h1 rfl ⟨_,_,rfl,rfl,dB,q⟩) λsh nsh=>?_
 refine Kj h6 h7 rfl (λ_ q=>Kh rfl h1 rfl ⟨_,_,rfl,rfl,dB,q⟩) λsl nsl=>?_
 refine Kh rfl h1 rfl ⟨_,rfl,_,_,ws,rfl,o1,h6,h7,λsp e H1 s1 fs hs te pe=>?_⟩
 refine Kh rfl (s1 _ _ h1) rfl ⟨_,rfl,_,_,ws,rfl,o2,h6.same s1,h7,λtp f H2 s2 ft ht tf pf=>?_⟩
 have S:=s1.trans s2
 exact zec (t:=t) o1 ⟨_,S _ _ h1,rfl⟩ nsh nsl te pe (s2 _ _ hs) fs tf pf ht (zJ s1 ft) S q
end
section
variable {F:ac->Prop}{vs:List V}{rs:List Rw}
theorem QT:∀ {vs:List V} {rs:List Rw},Paired (RwAt F H) vs rs->RwsAt F H vs (Rws.of rs)
 | _,_,.nil=>by unfold Rws.of RwsAt;rfl
 | _,_,.cons a t=>by
  unfold Rws.of RwsAt
  exact⟨_,_,rfl,a,QT t⟩
theorem QU:∀ {rs:List Rw},(∀r∈rs,WZ r)->qE (Rws.of rs)
 | [],_=>by unfold Rws.of qE;trivial
 | r :: rs,h=>by
  unfold Rws.of qE
  exact⟨h r bt,QU λx hx=>h x (br _ hx)⟩
theorem QV:∀ {rs:List Rw},(∀r∈rs,qD r)->ZJ (Rws.of rs)
 | [],_=>by unfold Rws.of ZJ;trivial
 | r :: rs,h=>by
  unfold Rws.of ZJ
  exact⟨h r bt,QV λx hx=>h x (br _ hx)⟩
theorem YZ{n:Nat}:∀ {rs:List Rw},(∀r∈rs,r.deep<=n)->(Rws.of rs).deep<=n
 | [],_=>by unfold Rws.of;simp[Rws.deep]
 | r :: rs,h=>by
  unfold Rws.of
  have h1:=h r bt
  have h2:=YZ (rs:=rs) λx hx=>h x (br _ hx)
  simp only[Rws.deep]
  lia
theorem Wp(h:W5 r):r.deep=0:=by
 cases r with
 | iff e a b=>exact absurd h (λz=>z)
 | take _ _ _=>simp[Rw.deep]
 | give _ _ _=>simp[Rw.deep]
 | lt _ _=>simp[Rw.deep]
 | say _=>simp[Rw.deep]
 | off _=>simp[Rw.deep]
theorem jx{α β:Type}{R:α->β->Prop}:∀ {xs:List α} {ys:List β} (k:Nat),Paired R xs ys->Paired R (xs.take k) (ys.take k)
 | _,_,0,_=>.nil
 | _,_,_ + 1,.nil=>.nil
 | _,_,k + 1,.cons a t=>.cons a (jx k t)
theorem Zl{α β:Type}{R:α->β->Prop}:∀ {xs:List α} {ys:List β} (k:Nat),Paired R xs ys->Paired R (xs.drop k) (ys.drop k)
 | _,_,0,h=>h
 | _,_,_ + 1,.nil=>.nil
 | _,_,k + 1,.cons _ t=>Zl k t
end
theorem zed(xs:List V)(n:Nat):Yy xs ah (aa (n:Int))=xs.take n:=by
 unfold Yy
 rw[HT.sIx_none,HT.sIx_nat,gG,lV]
 by_cases c:n<=xs.length
 ·rw[fH c]
 ·rw[iX (by lia),cp (bh _),cp (by lia)]
theorem zgE(xs:List V)(n:Nat):Yy xs (aa (n:Int)) ah=xs.drop n:=by
 unfold Yy
 rw[HT.sIx_none,HT.sIx_nat]
 by_cases c:n<=xs.length
 ·rw[fH c]
  exact cp (by rw[cT];exact bh _)
 ·rw[iX (by lia),nA (bh _),nA (by lia),List.take_nil]
theorem zee(xs:List V)(k m:Nat)(hk:k<=m)(hm:m<=xs.length):Yy xs (aa (k:Int)) (aa (m:Int))=(xs.drop k).take (m - k):=by
 unfold Yy
 rw[HT.sIx_nat,HT.sIx_nat,fH hm,fH (by lia:k<=xs.length)]
section
variable {c:Int}{a b L X:ac}{ds:List Int}{us ws:List Str}{vs:List V}{rs:List Rw}{Hb:Hp}
theorem kg{α β:Type}{R:α->β->Prop}:∀ {xs:List α} {ys:List β} {us:List α} {vs:List β},Paired R xs ys->Paired R us vs->Paired R (xs ++ us) (ys ++ vs)
 | _,_,_,_,.nil,h=>h
 | _,_,_,_,.cons a t,h=>.cons a (kg t h)
theorem za4:∀ {rs:List Rw},(∀r∈rs,W5 r)->(Rws.of rs).cnt<=rs.length
 | [],_=>by unfold Rws.of;simp[Rws.cnt]
 | r :: rs,h=>by
  have h2:=za4 (rs:=rs) λx hx=>h x (br _ hx)
  have h1:=h r bt
  unfold Rws.of
  cases r with
  | iff e a b=>exact absurd h1 (λz=>z)
  | take _ _ _=>simp only[Rws.cnt,Rw.cnt,bR];lia
  | give _ _ _=>simp only[Rws.cnt,Rw.cnt,bR];lia
  | lt _ _=>simp only[Rws.cnt,Rw.cnt,bR];lia
  | say _=>simp only[Rws.cnt,Rw.cnt,bR];lia
  | off _=>simp only[Rws.cnt,Rw.cnt,bR];lia
def szX(r:Rw):Nat:=match r with | .iff _ a b=>a.cnt + b.cnt + 3 | _=>1
theorem zft(h:W5 r):szX r=1:=by
 cases r with
 | iff e a b=>exact absurd h (λz=>z)
 | take _ _ _=>rfl
 | give _ _ _=>rfl
 | lt _ _=>rfl
 | say _=>rfl
 | off _=>rfl
theorem Wq:∀ {rs:List Rw},(∀r∈rs,W5 r)->(rs.map szX).sum=rs.length
 | [],_=>rfl
 | r :: rs,h=>by
  rw[bM,i9,zft (h r bt),Wq λx hx=>h x (br _ hx),bR]
  lia
theorem zgF(h:∀r∈rs,rwW r)(l:rs.length<=6):ze9 rs:=⟨bN (YZ (n:=0) λr hr=>by rw[Wp (h r hr).nf];exact bh _) (by lia),QU λr hr=>(h r hr).pl,QV λr hr=>(h r hr).ok,by
 have:=Wq λr hr=>(h r hr).nf
 show (rs.map szX).sum<=11
 lia⟩
theorem zgG{σ:St}{te tf:TE}{y:Int}{n:Nat}(he:∀Q:VK,Q (.int y) H->te σ H Q)(hf:∀Q:VK,Q (.int (n:Nat)) H->tf σ H Q)(hn:0 < n)(q:∀k:Nat,k < n->Q (.int (k:Nat)) H):tOp (rI (λ_ j=>0 < j) λi j=>.int (i % j)) te tf σ H Q:=he _ (hf _ ⟨_,_,rfl,rfl,Int.ofNat_lt.mpr hn,by
 have f1:=dO y (b:=(n:Int)) (by lia)
 have f2:=dC y (b:=(n:Int)) (by lia)
 obtain⟨k,ek⟩:∃k:Nat,y % (n:Int)=k:=⟨(y % (n:Int)).toNat,(oF f1).symm⟩
 have z:=q k (by lia)
 rw[<-ek] at z
 exact z⟩)
theorem zcq{o5 o6 o7:Option V}(hX:H X=aa (.lst (ds.map V.int)))(ld:ds.length=22)(od:∀d∈ds,okD d)(hL:H L=aa (.lst vs))(fL:Hb L=ah)(pr:Paired (RwAt (λb=>Hb b=ah) H) vs rs)(rw_:∀r∈rs,rwW r)(l6:rs.length<=6)(hw:NamesAt H b ws)(lw:ws.length=2)(S:Same Hb H)
  (q:∀l rs H',Same Hb H'->RlAt (λb=>Hb b=ah) H' (.ref l) (Rws.of rs)->ze9 rs->Q (.ref l) H') :
  jf K t (qqN Q) [aa (.int c),aa (.ref a),aa (.ref b),aa (.ref X),aa (.ref L),ah,ah,ah] H:=by
 have lv:=bF pr
 have at1:∀ {j:Nat},j < 22->atI (ds.map V.int) ((j:Nat):Int)=aa (.int (ds.getD j 0))/\okD (ds.getD j 0):=λ{j} hj=>by
  have hj:j < ds.length:=by lia
  have e:ds.getD j 0=ds[j]:=by rw[bC,bb hj];rfl
  exact⟨wc (by rw[bw,bb hj,e];rfl),by rw[e];exact od _ (eN hj)⟩
 unfold jf zo zQ
 refine⟨_,rfl,_,_,rfl,rfl,dB,_,_,rfl,rfl,by show (0:Int) < 3;decide,rfl,_,rfl,?_⟩
 by_cases hc:c / 7 % 3=0
 ·refine ve (decide_eq_true (congrArg V.int hc)) ?_
  refine zgG (n:=vs.length + 1) (λ_ q=>Kh rfl hX (at1 (j:=18) (by lia)).1 q) (λ_ q=>⟨_,rfl,.ref L,vs.length,rfl,.inl ⟨_,SqL.of hL,rfl⟩,_,_,rfl,rfl,q⟩) (Nat.succ_pos vs.length) λk hk=>?_
  have hk:k < vs.length + 1:=hk
  refine⟨_,rfl,zgG (n:=vs.length + 1 - k) (λ_ q=>Kh rfl hX (at1 (j:=21) (by lia)).1 q) (λ_ q=>⟨_,rfl,.ref L,vs.length,rfl,.inl ⟨_,SqL.of hL,rfl⟩,_,_,rfl,rfl,_,rfl,_,_,rfl,rfl,by rw[show ((vs.length + 1 - k:Nat):Int)=(vs.length:Int) + 1 - k by lia] at q;exact q⟩) (by lia) λm' hm=>⟨_,_,rfl,rfl,?_⟩⟩
  obtain⟨m,em⟩:∃m,m=k + m':=⟨_,rfl⟩
  have km:k<=m:=by lia
  have ml:m<=vs.length:=by lia
  obtain⟨e19,o19⟩:=at1 (j:=19) (by lia)
  refine Kh rfl hX e19 ⟨_,rfl,_,b,ws,rfl,o19,hw,lw,λtp e H1 s1 ft ht te pe=>?_⟩
  refine⟨_,rfl,_,rfl,k,rfl,_,rfl,(m:Int),by rw[em];rfl,L,vs,rfl,SqL.of (s1 _ _ hL),λp1 hp1=>?_⟩
  rw[zee vs k m km ml]
  generalize c_:upd H1 p1 _=H2
  obtain⟨s2,g2⟩:=x8 c_ hp1
  have S2:=s1.trans s2
  refine⟨_,rfl,?_⟩
  refine zgG (n:=3) (λ_ q=>Kh rfl (S2 _ _ hX) (at1 (j:=20) (by lia)).1 q) (λ_ q=>q) (by lia) λj f6=>?_
  refine⟨_,rfl,L,vs,rfl,SqL.of (S2 _ _ hL),λp2 hp2=>?_⟩
  rw[zed]
  generalize c_:upd H2 p2 _=H3
  obtain⟨s3,g3⟩:=x8 c_ hp2
  refine⟨by show 4<=sizeLine;rw[bT];decide,λrp hrp=>?_⟩
  generalize c_:upd H3 rp _=H4
  obtain⟨s4,g4⟩:=x8 c_ hrp
  have S3:=S2.trans s3
  have S4:=S3.trans s4
  refine⟨_,rfl,_,rfl,k,rfl,L,vs,rfl,SqL.of (S4 _ _ hL),λp3 hp3=>?_⟩
  rw[zed]
  generalize c_:upd H4 p3 _=H5
  obtain⟨s5,g5⟩:=x8 c_ hp3
  refine⟨_,rfl,by show 1<=sizeLine;rw[bT];decide,λp4 hp4=>?_⟩
  generalize c_:upd H5 p4 _=H6
  obtain⟨s6,g6⟩:=x8 c_ hp4
  refine⟨_,_,_,_,rfl,rfl,s6 _ _ g5,g6,bN (by rw[cH];show min k vs.length + 1<=110;lia:_<=110) (by lia),λp5 hp5=>?_⟩
  generalize c_:upd H6 p5 _=H7
  obtain⟨s7,g7⟩:=x8 c_ hp5
  have S7:=S4.trans (s5.trans (s6.trans s7))
  refine⟨_,rfl,_,rfl,(m:Int),by rw[em];rfl,L,vs,rfl,SqL.of (S7 _ _ hL),λp6 hp6=>?_⟩
  rw[zgE]
  generalize c_:upd H7 p6 _=H8
  obtain⟨s8,g8⟩:=x8 c_ hp6
  refine⟨_,_,_,_,rfl,rfl,s8 _ _ g7,g8,bN (by rw[bn,cH,cT];show min k vs.length + 1 + (vs.length - m)<=110;lia:_<=110) (by lia),λp7 hp7=>?_⟩
  generalize c_:upd H8 p7 _=H9
  obtain⟨s9,g9⟩:=x8 c_ hp7
  refine⟨_,rfl,?_⟩
  have T4:=s5.trans (s6.trans (s7.trans (s8.trans s9)))
  have S9:=S4.trans T4
  have P:=Paired.mapP pr λ_ r z=>RwAt.mono S9 z
  have B:∀ {n:Nat} {x:Rw},x∈rs.take n->x∈rs:=λh=>dR h
  have C:∀ {x:Rw},x∈(rs.drop k).take (m - k)->x∈rs:=λh=>dA (dR h)
  have I:RwAt (λb=>Hb b=ah) H9 (.ref rp) (.iff e (Rws.of ((rs.drop k).take (m - k))) (Rws.of (rs.take j))):=by
   unfold RwAt
   exact⟨rp,tp,p1,p2,_,_,rfl,zJ (S.trans S3) hrp,zJ S ft,zJ (S.trans s1) hp1,zJ (S.trans S2) hp2,T4 _ _ g4,(s2.trans (s3.trans (s4.trans T4))) _ _ ht,(s3.trans (s4.trans T4)) _ _ g2,QT (jx _ (Zl _ P)),(s4.trans T4) _ _ g3,QT (jx _ P)⟩
  have all:∀x∈rs.take k ++ [.iff e (Rws.of ((rs.drop k).take (m - k))) (Rws.of (rs.take j))] ++ rs.drop m,x∈rs\/x=.iff e (Rws.of ((rs.drop k).take (m - k))) (Rws.of (rs.take j)):=λx hx=>by
   rcases bJ.mp hx with hx | hx
   ·rcases bJ.mp hx with hx | hx
    ·exact .inl (B hx)
    ·exact .inr (bI.mp hx)
   ·exact .inl (dA hx)
  have ip:WZ (.iff e (Rws.of ((rs.drop k).take (m - k))) (Rws.of (rs.take j))):=by
   unfold WZ
   exact⟨pe,QU λx hx=>(rw_ x (C hx)).pl,QU λx hx=>(rw_ x (B hx)).pl⟩
  have io:qD (.iff e (Rws.of ((rs.drop k).take (m - k))) (Rws.of (rs.take j))):=by
   unfold qD
   exact⟨te,QV λx hx=>(rw_ x (C hx)).ok,QV λx hx=>(rw_ x (B hx)).ok⟩
  have dp:Rw.deep (.iff e (Rws.of ((rs.drop k).take (m - k))) (Rws.of (rs.take j)))<=1:=by
   have a1:=YZ (n:=0) (rs:=(rs.drop k).take (m - k)) λx hx=>by rw[Wp (rw_ x (C hx)).nf];exact bh _
   have a2:=YZ (n:=0) (rs:=rs.take j) λx hx=>by rw[Wp (rw_ x (B hx)).nf];exact bh _
   simp only[Rw.deep]
   lia
  refine q p7 (rs.take k ++ [.iff e (Rws.of ((rs.drop k).take (m - k))) (Rws.of (rs.take j))] ++ rs.drop m) H9 (S.trans S9) ⟨p7,_,rfl,zJ (S.trans (S7.trans s8)) hp7,g9,QT (kg (kg (jx _ P) (.cons I .nil)) (Zl _ P))⟩ ⟨YZ λx hx=>?_,QU λx hx=>?_,QV λx hx=>?_,?_⟩
  ·rcases all x hx with h | rfl
   ·rw[Wp (rw_ x h).nf];exact bW _
   ·exact dp
  ·rcases all x hx with h | rfl
   ·exact(rw_ x h).pl
   ·exact ip
  ·rcases all x hx with h | rfl
   ·exact(rw_ x h).ok
   ·exact io
  ·show ((rs.take k ++ [Rw.iff e (Rws.of ((rs.drop k).take (m - k))) (Rws.of (rs.take j))] ++ rs.drop m).map szX).sum<=11
   rw[cB,cB,rg,rg,Wq λx hx=>(rw_ x (B hx)).nf,Wq λx hx=>(rw_ x (dA hx)).nf]
   have c1:=za4 (rs:=(rs.drop k).take (m - k)) λx hx=>(rw_ x (C hx)).nf
   have c2:=za4 (rs:=rs.take j) λx hx=>(rw_ x (B hx)).nf
   rw[cH,cT] at c1
   rw[cH] at c2
   rw[cH,cT]
   show min k rs.length + ((Rws.of ((rs.drop k).take (m - k))).cnt + (Rws.of (rs.take j)).cnt + 3 + 0) + (rs.length - m)<=11
   lia
 ·exact xD (decide_eq_false (λz=>hc (V.int.inj z))) ⟨_,rfl,q L rs H S ⟨L,vs,rfl,fL,hL,QT pr⟩ (zgF rw_ l6)⟩
def cRw(D:ac)(Hb:Hp)(i:Nat)(ys:List V)(H:Hp):Prop:=∃rs:List Rw,Paired (RwAt (λb=>Hb b=ah/\b≠D) H) ys rs/\(∀r∈rs,rwW r)/\rs.length=i
theorem VL{vs:List V}{_E:XK}(h:kQ vs H Q _E) :
  YR K t (qqN Q) (L2.start ["cell","shelves","slots","xs","rows","at","to","row"] vs) H:=by
 obtain⟨c,a,b,us,ws,rfl,h1,h2,h3,h4,q⟩:=h
 refine⟨_,rfl,_,22,rfl,by lia,λX ds H1 s1 fX hX ld od=>?_⟩
 unfold zo zK zp
 refine Ki (σ:=[aa (.int c),aa (.ref a),aa (.ref b),aa (.ref X),ah,ah,ah,ah]) (te:=zb 0) (n:=7) (λ_ q=>⟨_,rfl,q⟩) (by lia) λk g1 g2=>?_
 refine⟨_,rfl,by lia,by lia,λD hD=>?_⟩
 have fD:=zJ s1 hD
 refine zcm (J:=Itr 0 (k).toNat) (k).toNat (by lia) (λτ=>∃o,τ=[o,aa (.ref X),aa (.ref a),aa (.ref b)]) (cRw D H) (λi ys H2 H' s ⟨rs,p1,p2⟩=>⟨rs,Paired.mapP p1 λ_ r z=>z.to r (λ_ _ f _=>f) (λb o f e=>s b o f.2 e),p2⟩) ⟨_,rfl⟩ ⟨[],.nil,(λr z=>nomatch z),rfl⟩ (λi H _ h=>h) (λH _=>bh _) hD ?_ ?_
 ·rintro i v τ ys H4 H5 ⟨o,rfl⟩ s4 hi ⟨rs,pr,wr,li⟩ hy ⟨rfl,rfl⟩
  rw[nV]
  have mb:CMulB 3 i:=mS (by lia) (by lia) (by lia) (by lia)
  refine⟨_,rfl,_,rfl,_,_,rfl,rfl,mb,_,rfl,_,rfl,_,_,rfl,rfl,mb,_,_,rfl,rfl,_,rfl,_,_,rfl,SqL.of (s4 _ _ hX),λp hp=>?_⟩
  have e1:3 * (i:Int)=((3 * i:Nat):Int):=by lia
  have e2:3 * (i:Int) + 3=((3 * i + 3:Nat):Int):=by lia
  rw[e2,e1,zee _ _ _ (by lia) (by rw[bo];lia),<-oX,<-oW]
  have le:((ds.drop (3 * i)).take (3 * i + 3 - 3 * i)).length=3:=by rw[cH,cT];lia
  have oe:∀d∈(ds.drop (3 * i)).take (3 * i + 3 - 3 * i),okD d:=λd hd=>od d (dA (dR hd))
  generalize (ds.drop (3 * i)).take (3 * i + 3 - 3 * i)=es at *
  have s5:=isV (o:=HO.lst (es.map V.int)) p hp
  have S:=s1.trans (s4.trans s5)
  have ne:∀ {b},upd H5 p (HO.lst (es.map V.int)) b=ah->b≠D:=λ{b} e z=>by rw[z,s5 _ _ hy] at e;cases e
  refine⟨_,rfl,_,rfl,p,_,_,es,us,ws,rfl,zg,le,oe,h1.same S,h2,h3.same S,h4,λv r H6 s6 hr hw=>⟨⟨_,rfl⟩,⟨rs ++ [r],Paired.snocP (Paired.mapP pr λ_ _ z=>z.mono (s5.trans s6)) (hr.to r (λb o f _=>⟨zJ S f,ne f⟩) λb o _ e=>e),λx hx=>?_,by rw[bn,li];rfl⟩,s5.trans s6⟩⟩
  rcases bJ.mp hx with hx | hx
  ·exact wr x hx
  ·rw[bI.mp hx];exact hw
 ·rintro ys H4 hly ⟨rs,pr,wr,li⟩ s4 hq
  have S:=s1.trans s4
  exact zcq (t:=t) (o5:=ah) (o6:=ah) (o7:=ah) (s4 _ _ hX) ld od hq fD (Paired.mapP pr λ_ r z=>z.to r (λ_ _ f _=>f.1) λb o _ e=>e) wr (by lia) (h3.same S) h4 S q
end
theorem AlkV.mono{H H':Hp}(s:Same H H')(h:AlkV H n v u):AlkV H' n v u:=by
 induction h with
 | int i=>exact .int i
 | str x=>exact .str x
 | lst e1 e2 l _ ih=>exact .lst (s _ _ e1) (s _ _ e2) l ih
 | tup e1 e2 l _ ih=>exact .tup (s _ _ e1) (s _ _ e2) l ih
theorem Zm{H:Hp}{Q:VK}{E:XK}(h:yR 0 vs H Q E):False:=by
 obtain⟨v,u,_,h,_⟩:=h
 cases h
theorem XX(h0:σ[i]?=aa (aa v))(ty:Z1 K H v tv)(k:fM K tv (.type T)=aa b)(q:Q (.bl b) H):tCB (qo K) (zc (zb i) (zc (tC (.ty T)) zi)) σ H Q:=⟨_,h0,v,.ty T,tv,b,rfl,ty,⟨T,rfl,k⟩,q⟩
theorem qk{Q:Bool->Hp->Prop}(h0:σ[i]?=aa (aa v))(ty:Z1 K H v tv)(k:fM K tv (.type T)=aa b)(q:Q b H):tB (tCB (qo K) (zc (zb i) (zc (tC (.ty T)) zi))) σ H Q:=XX h0 ty k ⟨b,rfl,q⟩
theorem zfK{v:V}(q:Q (.bl af) H):Q (.bl (decide (v=v))) H:=by rw[decide_eq_true rfl];exact q
theorem Vh{n:Nat}{v u:V}(F:KF K)(h:AlkV H (n + 1) v u)(q:∀H',Same H H'->Q (.bl af) H') :
  jN K t n (qqN Q) (L2.start ["found","due","one","other"] [v,u]) H:=by
 unfold jN zo zQ tOr Jv Y8
 cases h with
 | int i =>
  refine qk rfl (.int i) F.i_l (xD rfl (qk rfl (.int i) F.i_t (xD rfl (qk rfl (.int i) F.i_s (xD rfl ?_)))))
  exact XX rfl (.int i) (xv _) ⟨af,rfl,ve rfl (XX rfl (.int i) F.i_b ⟨am,rfl,af,rfl,ve rfl ⟨_,rfl,_,rfl,rfl,zfK (q _ (Same.refl _))⟩⟩)⟩
 | str y =>
  refine qk rfl (.str y) F.s_l (xD rfl (qk rfl (.str y) F.s_t (xD rfl (qk rfl (.str y) (xv _) (ve rfl ?_)))))
  exact XX rfl (.str y) (xv _) ⟨af,rfl,ve rfl ⟨_,rfl,_,rfl,rfl,zfK (q _ (Same.refl _))⟩⟩
 | @lst _ a b xs ys ha hb ll hx =>
  refine qk rfl (.lst hb) (xv _) (ve rfl (ve rfl (qk rfl (.lst ha) (xv _) (xD rfl (xD rfl ?_)))))
  refine XX rfl (.lst ha) (xv _) (XX rfl (.lst hb) (xv _) ⟨rfl,_,rfl,xD rfl ?_⟩)
  refine⟨_,rfl,.ref a,xs.length,rfl,.inl ⟨_,SqL.of ha,rfl⟩,_,rfl,.ref b,ys.length,rfl,.inl ⟨_,SqL.of hb,rfl⟩,rfl,_,rfl,xD (by rw[decide_eq_true (by rw[ll])];rfl) ?_⟩
  refine⟨_,rfl,_,rfl,a,b,xs,ys,rfl,ll,.inl ⟨SqL.of ha,SqL.of hb,zcc xs ys (λ_ σ H'=>(∃o1 o2,σ=[aa (.ref a),aa (.ref b),o1,o2])/\Same H H') ⟨⟨_,_,rfl⟩,Same.refl _⟩ (λi σ H' z=>⟨SqL.of (z.2 _ _ ha),SqL.of (z.2 _ _ hb)⟩) ?_ ?_⟩⟩
  ·rintro i x y T σ H1 hi hj hT ⟨⟨o1,o2,rfl⟩,S⟩
   have s1:=isV (o:=HO.tup [x,y]) T hT
   exact⟨T,_,rfl,SqT.of zg,rfl,_,_,rfl,_,_,rfl,rfl,_,rfl,_,rfl,x,y,rfl,AlkV.mono (S.trans s1) (hx i x y hi hj),λH2 s2=>⟨_,rfl,xD rfl ⟨⟨_,_,rfl⟩,S.trans (s1.trans s2)⟩⟩⟩
  ·rintro σ H' ⟨_,S⟩
   exact q _ S
 | @tup _ a b xs ys ha hb ll hx =>
  refine qk rfl (.tup hb) F.t_l (xD rfl (qk rfl (.tup hb) (xv _) (ve rfl (qk rfl (.tup ha) F.t_l (ve rfl (qk rfl (.tup ha) (xv _) (xD rfl ?_)))))))
  refine XX rfl (.tup ha) F.t_l (XX rfl (.tup hb) F.t_l ⟨rfl,_,rfl,xD rfl ?_⟩)
  refine⟨_,rfl,.ref a,xs.length,rfl,.inr ⟨_,SqT.of ha,rfl⟩,_,rfl,.ref b,ys.length,rfl,.inr ⟨_,SqT.of hb,rfl⟩,rfl,_,rfl,xD (by rw[decide_eq_true (by rw[ll])];rfl) ?_⟩
  refine⟨_,rfl,_,rfl,a,b,xs,ys,rfl,ll,.inr ⟨SqT.of ha,SqT.of hb,zdb xs ys (λ_ σ H'=>(∃o1 o2,σ=[aa (.ref a),aa (.ref b),o1,o2])/\Same H H') ⟨⟨_,_,rfl⟩,Same.refl _⟩ (λi σ H' z=>⟨SqT.of (z.2 _ _ ha),SqT.of (z.2 _ _ hb)⟩) ?_ ?_⟩⟩
  ·rintro i x y T σ H1 hi hj hT ⟨⟨o1,o2,rfl⟩,S⟩
   have s1:=isV (o:=HO.tup [x,y]) T hT
   exact⟨T,_,rfl,SqT.of zg,rfl,_,_,rfl,_,_,rfl,rfl,_,rfl,_,rfl,x,y,rfl,AlkV.mono (S.trans s1) (hx i x y hi hj),λH2 s2=>⟨_,rfl,xD rfl ⟨⟨_,_,rfl⟩,S.trans (s1.trans s2)⟩⟩⟩
  ·rintro σ H' ⟨_,S⟩
   exact q _ S
theorem Js{lays:List (Int × List Row)}{r r':Int}(h0:0<=r)(hl:∀y∈lays,y.1 < r):v3 g (lays ++ [(r,gs)]) p r'=if r < r' then (zx gs p).getD (v3 g lays p r') else v3 g lays p r':=by
 unfold v3
 rw[Ve]
 have hb:(qg p r' lays (-1,(zx g p).getD 0)).1 < r:=by
  rcases vM p r' lays (-1,(zx g p).getD 0) with ⟨e1,_⟩ | ⟨y,hy,w,_,_,_,e1,_⟩
  ·rw[e1];show (-1:Int) < r;lia
  ·rw[e1];exact hl y hy
 by_cases c:r < r'
 ·rw[ao ⟨hb,c⟩,ao c,Yn]
  cases zx gs p <;> rfl
 ·rw[ak (λz=>c z.2),ak c]
section
variable {C:List Cs}{tb:Pl->Int}{s:RSt}{j m k:Nat}{f r:Int}{g gi:List Row}{lays:List (Int × List Row)}
theorem zef(h:qQ s gi):giS s=gi:=zfi (Classical.epsilon_spec (p:=qQ s) ⟨gi,h⟩) h
theorem zhb(h:qQ s gi):(gi.map (·.1)).Nodup:=by
 unfold qQ at h
 split at h
 ·rw[h];exact ef
 ·exact h.1.nd
theorem zeg(e:Xn C tb j st0=s)(ho:yp C s=af)(hj:j<=C.length):zdQ C tb=s:=by
 unfold zdQ
 rw[show C.length=j + (C.length - j) by lia,Zk,e]
 exact QP ho _
theorem QW(ho:yp C s=af):Xp r C tb m s=[]:=by
 cases m with
 | zero=>rfl
 | succ m=>rw[Xp,ao ho]
theorem XA(I:RnI C j s)(h:j + m=C.length)(ho:yp C s=am):∃n,m=n + 1:=by
 have no:¬ yp C s=af:=by rw[ho];decide
 have lt:=YT no
 have wn:s.why=ah:=by
  cases e:s.why with
  | none=>rfl
  | some v=>exact absurd (show yp C s=af by unfold yp;rw[e];rfl) no
 have:=I.at_ wn
 exact⟨m - 1,by lia⟩
theorem QY:∀(j:Nat) (s:RSt),(∀y∈s.no,y.2=tb y.1)->∀y∈(Xn C tb j s).no,y.2=tb y.1
 | 0,_,h=>h
 | j + 1,s,h=>QY j (jh C tb s) λy hy=>by
  rcases zgx C tb s with ⟨_,e⟩ | ⟨p,_,e⟩
  ·rw[e] at hy;exact h y hy
  ·rw[e] at hy
   rcases bJ.mp hy with hy | hy
   ·exact h y hy
   ·rw[bI.mp hy]
theorem LyOk.next(h:LyOk f k g lays tb)(e:Xn C tb j st0=s)(ho:yp C s=af)(hj:j<=C.length)(hg:qQ s gi)(I:RnI C j s):LyOk f (k + 1) g (lays ++ [(f + k,gi)]) (J6 tb C):=by
 have f0:=h.f0
 have en:giS (zdQ C tb)=gi:=by rw[zeg e ho hj];exact zef hg
 refine⟨f0,by rw[bn,h.ln];rfl,λy hy=>?_,λp r hr=>?_,λp=>?_⟩
 ·rcases bJ.mp hy with hy | hy
  ·have:=h.lo y hy;lia
  ·cases bI.mp hy;lia
 ·rw[Js (by lia) λy hy=>(h.lo y hy).2,ao (by lia),h.tl p r (by lia)]
  unfold J6
  rw[en]
 ·unfold J6
  rw[en]
  cases hw:zx gi p with
  | none=>exact h.iw p
  | some w=>have:=WX (zd4 I hg) p;rw[hw] at this;exact this
end
theorem dkF{P:Str->Option ae}(T:Txt K P t):DkF K t:=⟨T.q0b,T.q0h,T.q21,T.q26,T.q20,T.q1y,T.q25,T.q22,T.q24,T.q23,T.q1z,T.q29,T.q28,T.q2a,T.q27⟩
section
variable {H':Hp}{lb lb':ac->Nat}{L L':List (ac × HO)}{m re d b:ac}{a:DAd}{g:List Row}{lays:List (Int × List Row)}{P:Pl->Int->Prop}{cs en:List V}{CC:List (List Cs)}{f rank:Int}{ws:List Int}{kv la db:List (Key × V)}{o o':HO}{i:Nat}{r:ac}{no gi:List Row}
theorem TSm.of(s:Same H H'):TSm H H':=λ_ _ e=>s _ _ e
theorem DkO.at(h:DkO t H lb L m re g lays P cs CC)(e:L[i]?=aa (b,o)):H b=aa o:=(h.ob i b o e).1
theorem DkO.lb_(h:DkO t H lb L m re g lays P cs CC)(e:L[i]?=aa (b,o)):lb b=i + 1:=(h.ob i b o e).2
theorem DkO.core2{P':Pl->Int->Prop}(h:DkO t H lb L m re g lays P cs CC)(e:∀b,lb b≠0->lb' b=lb b)(e':∀b,lb b=0->lb' b=0\/lb' b=11/\∃o,H' b=aa o)(ob:∀i b o,L'[i]?=aa (b,o)->H' b=aa o/\lb b=i + 1)(k:∀b o,lb b=10\/lb b=13->H b=aa o->H' b=aa o)(rr:∃kk,RkAt H' re (λb=>lb' b=11) P' kk)(ts:TSm H H')(al:∀b o,H b=aa o->∃o',H' b=aa o'):DkO t H' lb' L' m re g lays P' cs CC:=by
 have e10:(λb=>lb' b=10)=λb=>lb b=10:=funext λb=>propext (by
  rcases lX (lb b) with z | z
  ·rcases e' b z with y | ⟨y,_⟩ <;> rw[y,z] <;> decide
  ·rw[e b (by lia)])
 refine⟨λi b o z=>?_,by rw[e10];exact h.ms.keep (λb o fb e=>k b o (.inl fb) e) ts,rr,(e _ (by rw[h.rl];decide)).trans h.rl,Paired.mapP h.cc λv C ⟨⟨c,ys,ev,hc,pc⟩,lc⟩=>⟨⟨c,ys,ev,k c _ (.inr (lc c ev)) hc,xI ts pc⟩,λc ev=>(e c (by rw[lc c ev];decide)).trans (lc c ev)⟩,λb hb=>?_⟩
 ·obtain⟨h1,h2⟩:=ob i b o z
  exact⟨h1,(e b (by lia)).trans h2⟩
 ·rcases lX (lb b) with z | z
  ·rcases e' b z with y | ⟨_,y⟩
   ·exact absurd y hb
   ·exact y
  ·obtain⟨o,z⟩:=h.ow b (by lia)
   exact al b o z
theorem DkO.core(h:DkO t H lb L m re g lays P cs CC)(ob:∀i b o,L'[i]?=aa (b,o)->H' b=aa o/\lb b=i + 1)(k:∀b o,10<=lb b->lb b≠12->H b=aa o->H' b=aa o)(ts:TSm H H')(al:∀b o,H b=aa o->∃o',H' b=aa o'):DkO t H' lb L' m re g lays P cs CC :=
 h.core2 (λ_ _=>rfl) (λ_=>.inl) ob (λb o z e=>k b o (by lia) (by lia) e) (let ⟨kk,z⟩:=h.rr;⟨kk,z.keep h.rl (λb o fb e=>k b o (by rw[fb];decide) (by rw[fb];decide) e) λ_ z=>z⟩) ts al
open Classical in
theorem DkO.regrow{P':Pl->Int->Prop}(h:DkO t H lb L m re g lays P cs CC)(ll:L.length=9)(k:KeepR (λb=>lb b=11\/H b=ah) re H H')(dm:Dm H H')(rr:RkAt H' re (λb=>lb b=11\/H b=ah) P' kk):∃lb',Fr H H' lb lb'/\DkO t H' lb' L m re g lays P' cs CC:=by
 have kp:∀b o,lb b≠11->H b=aa o->H' b=aa o:=λb o z e=>k b o e (λy=>z (by rw[y];exact h.rl)) (.inr λy=>y.elim z λy=>by rw[e] at y;cases y)
 obtain⟨kk0,r0⟩:=h.rr
 have ts:TSm H H':=λb zs e=>k b _ e (zT e r0.at_ (by lia)) (.inl λ_ z=>nomatch z)
 have al:∀b o,H b=aa o->∃o',H' b=aa o':=λb o e=>let ⟨o',z,_⟩:=dm b o e;⟨o',z⟩
 have ln:∀b,lb b≠0->H b≠ah:=λb z y=>by obtain⟨o,e⟩:=h.ow b z;rw[y] at e;cases e
 refine⟨λb=>if H b=ah/\∃o,H' b=aa o then 11 else lb b,⟨λb o e=>ak (λz=>by rw[z.1] at e;cases e),λb o z e=>kp b o (by lia) e,ts,al⟩,h.core2 (λb z=>ak λy=>ln b z y.1) (λb z=>?_) (λi b o z=>?_) (λb o z e=>kp b o (by lia) e) ⟨kk,rr.keep2 rfl (λb xs _ e=>e) λb fb z=>?_⟩ ts al⟩
 ·by_cases y:H b=ah/\∃o,H' b=aa o
  ·exact .inr ⟨ao y,y.2⟩
  ·exact .inl ((ak y).trans z)
 ·obtain⟨h1,h2⟩:=h.ob i b o z
  have:=(bq.mp z).1
  exact⟨kp b o (by lia) h1,h2⟩
 ·by_cases y:H b=ah/\∃o,H' b=aa o
  ·exact ao y
  ·exact(ak y).trans (fb.resolve_right λw=>y ⟨w,z⟩)
theorem DkO.keep(h:DkO t H lb L m re g lays P cs CC)(ll:L.length=9)(k:∀b o,lb b≠0->lb b≠12->H b=aa o->H' b=aa o)(ts:TSm H H')(al:∀b o,H b=aa o->∃o',H' b=aa o'):DkO t H' lb L m re g lays P cs CC :=
 h.core (λi b o e=>by
  obtain⟨h1,h2⟩:=h.ob i b o e
  have:=(bq.mp e).1
  exact⟨k b o (by lia) (by lia) h1,h2⟩) (λb o h1 h2 e=>k b o (by lia) h2 e) ts al
theorem DkO.same(h:DkO t H lb L m re g lays P cs CC)(ll:L.length=9)(s:Same H H'):DkO t H' lb L m re g lays P cs CC:=h.keep ll (λb o _ _ e=>s _ _ e) (TSm.of s) λb o e=>⟨o,s _ _ e⟩
theorem Vi:∀b' u,H b'=aa u->∃u',upd H b o b'=aa u':=λb' u e=>by
 by_cases c:b'=b
 ·exact⟨o,by rw[c];exact zg⟩
 ·exact⟨u,by rw[zk c];exact e⟩
theorem vp(e:H b=aa o)(n:∀zs,o≠.tup zs):TSm H (upd H b o'):=λb' ys e'=>by rw[zk (zT e' e (λz=>n ys z.symm))];exact e'
theorem DkO.put(h:DkO t H lb L m re g lays P cs CC)(ll:L.length=9)(e:L[i]?=aa (b,o))(n:∀zs,o≠.tup zs):DkO t (upd H b o') lb (L.set i (b,o')) m re g lays P cs CC:=by
 have li:=(bq.mp e).1
 obtain⟨eb,lbb⟩:=h.ob i b o e
 refine h.core (λj b2 o2 e2=>?_) (λb2 o2 h1 h2 e2=>?_) (vp eb n) Vi
 ·rw[List.getElem?_set] at e2
  by_cases c:i=j
  ·rw[ao c,ao (by lia)] at e2
   cases e2
   exact⟨zg,by lia⟩
  ·rw[ak c] at e2
   obtain⟨h1,h2⟩:=h.ob j b2 o2 e2
   exact⟨by rw[zk (λz=>by rw[z] at h2;lia)];exact h1,h2⟩
 ·rw[zk (λz=>by rw[z] at h1;lia)];exact e2
theorem Fr.same(s:Same H H'):Fr H H' lb lb:=⟨λ_ _ _=>rfl,λ_ _ _ e=>s _ _ e,λ_ _ e=>s _ _ e,λ_ o e=>⟨o,s _ _ e⟩⟩
theorem Fr.trans{H2:Hp}{lb2:ac->Nat}(h:Fr H H' lb lb')(k:Fr H' H2 lb' lb2):Fr H H2 lb lb2 :=
 ⟨λb o e=>let ⟨o',e'⟩:=h.al b o e;(k.ex b o' e').trans (h.ex b o e),λb o z e=>k.kp b o (by rw[h.ex b o e];exact z) (h.kp b o z e),λb zs e=>k.ts b zs (h.ts b zs e),λb o e=>let ⟨o',e'⟩:=h.al b o e;k.al b o' e'⟩
theorem Fr.put(e:H b=aa o)(n:∀zs,o≠.tup zs)(l:lb b≠0/\lb b≠14):Fr H (upd H b o') lb lb:=⟨λ_ _ _=>rfl,λb2 u z e2=>by rw[zk (λy=>by rw[y] at z;exact z.elim l.1 l.2)];exact e2,vp e n,Vi⟩
theorem DkO.fput(h:DkO t H lb L m re g lays P cs CC)(e:L[i]?=aa (b,o))(n:∀zs,o≠.tup zs)(ll:i < 9:=by lia):Fr H (upd H b o') lb lb:=Fr.put (h.at e) n (by rw[h.lb_ e];lia)
theorem zfL(h:LsAt H l rows)(F:Fr H H' lb lb')(z:lb l=14):LsAt H' l rows:=by
 obtain⟨xs,hx,hp⟩:=h
 exact⟨xs,F.kp _ _ (.inr z) hx,Paired.mapP hp λ_ _ y=>L2.PrAt.tsame y F.ts⟩
theorem PprAt.fr(h:PprAt H lb r no gi)(F:Fr H H' lb lb'):PprAt H' lb' r no gi:=by
 obtain⟨o,nl,gl,e,h1,h2,z1,z2⟩:=h
 obtain⟨xs,hx,hp⟩:=id h1
 obtain⟨ys,hy,hq⟩:=id h2
 exact⟨o,nl,gl,F.ts _ _ e,zfL h1 F z1,zfL h2 F z2,(F.ex _ _ hx).trans z1,(F.ex _ _ hy).trans z2⟩
theorem Zn{vs:List V}{_E:XK}(MF:MkF K t)(h:xG t vs H Q _E) :
  xH K t (qqN Q) (L2.start ["self","place","rank","ranks","above"] vs) H:=by
 obtain⟨m,p,rank,F,g,lays,q0,rfl,h1,h2,h3,q⟩:=h
 simp only[xH,yh,xh,zN,L2.start,xh,zo,zK,zp,zG,tOp,zb,tC,xo,zc,zi,zB,tIf,tCB,zL,KC,yL,rEq,rI0,xZ,JB,cM,bD,b8,ca,cz,bO,bf,bp,bu,ap,V.int.injEq,V.ref.injEq,V.bl.injEq,bQ,and_true,true_and,and_assoc,aq,cf,cA,cg,b9,decide_eq_true_eq]
 obtain⟨dx,gr,wo,rk,wk,kk,M⟩:=MrAt.ex h1
 refine⟨_,_,_,M.im,MF.cl,MF.r,_,zgy,rk,rfl,.inr ⟨_,.inl M.rr.at_⟩,by lia,λl hl=>?_⟩
 obtain⟨H2,eH,s2,q2⟩:=Xz (o:=HO.lst []) hl
 rw[<-eH];clear eH
 have M2:=M.keep h1.me λb o _ e=>s2 _ _ e
 refine⟨_,.t M2.rr.at_ (s2 _ _ h2),?_⟩
 have go:∀rs:List Int,(∀r∈rs,r<=rank)->∀k:Nat,k<=rs.length->(∀r∈rs.drop k,rank + 1<=r)->k=rs.length:=λrs ha k hk hd=>by
  rcases fo k rs.length with z | z
  ·have e:=hd rs[k] (by rw[da z];exact bt)
   have:=ha rs[k] (eN z)
   lia
  ·lia
 rcases M2.rr.get q0 with ⟨c,rs,hk,hv,fa,ha,hs,hne,hi⟩ | ⟨hv,_,_⟩
 ·rw[hv,pN]
  have hr:∀r∈rs,r<=rank:=λr z=>by
   obtain⟨gs,hg,_⟩:=(hi r).mp z
   exact h3 _ hg
  refine⟨c,rfl,rs,ha,hs,λk H3 s3 hk _ hd=>⟨rs.length,.inl ⟨_,SqL.of (s3 _ _ ha),(bo ..).symm⟩,?_⟩⟩
  rw[ao (by rw[go rs hr k hk hd])]
  exact q H3 (s2.trans s3)
 ·rw[hv,mV]
  refine⟨l,rfl,[],q2,fG,λk H3 s3 hk _ hd=>⟨0,.inl ⟨_,SqL.of (s3 _ _ q2),rfl⟩,?_⟩⟩
  rw[ao (by rw[Nat.le_zero.mp hk])]
  exact q H3 (s2.trans s3)
theorem DkO.out(h:DkO t H lb L m re g lays P cs CC)(e:H b=ah):lb b=0:=cS λz=>by obtain⟨o,y⟩:=h.ow b z;rw[e] at y;cases y
theorem zfu{G:ac->Prop}(h:RkAt H re G noP kk):kk=[]:=by
 cases kk with
 | nil=>rfl
 | cons x l =>
  obtain⟨p,a,rs,_,_,_,_,hn,hi⟩:=h.ls x bt
  cases rs with
  | nil=>exact absurd rfl hn
  | cons y z=>exact((hi y).mp bt).elim
theorem Vj{vs:List V}{_E:XK}(D:DkF K t)(h:jK t vs H Q _E) :
  ZW K t (qqN Q) (L2.start ["self","place","rank","readers","above","behind","reader"] vs) H:=by
 obtain⟨j,dj,m,lA,re,dB,p,rank,F,G,g,lays,q0,kk,rfl,h0,h1,h2,h3,h4,q⟩:=h
 have e:=zfu h2
 subst e
 refine(yT h0 D.cJ D.j3 rfl rfl ⟨re,rfl,.inr ⟨_,.inl h2.at_⟩,_,rfl,by lia,λl hl=>?_⟩)
 generalize c_:upd H l _=H2
 obtain⟨s2,q2⟩:=x8 c_ hl
 obtain⟨dx,gr,wo,rk,wk,kx,M⟩:=MrAt.ex h1
 refine⟨_,.t (s2 _ _ h2.at_) (s2 _ _ h3),?_⟩
 refine(yT (s2 _ _ h0) D.cJ D.j1 rfl rfl ⟨m,_,_,rfl,s2 _ _ M.im,jY (by lia),_,rfl,_,rfl,m,p,rank,F,g,lays,q0,rfl,h1.same s2,s2 _ _ h3,h4,λH3 s3=>?_⟩)
 refine⟨_,rfl,rfl,_,rfl,ve rfl ⟨_,rfl,.ref l,0,rfl,.inl ⟨_,SqL.of (s3 _ _ q2),rfl⟩,_,rfl,_,rfl,_,rfl,_,_,rfl,rfl,l,[],rank + 1,rfl,s3 _ _ q2,fG,λk H4 s4 _ _ _=>⟨k,rfl,_,rfl,_,rfl,l,[],rfl,SqL.of (s4 _ _ (s3 _ _ q2)),λz hz=>?_⟩⟩⟩
 rw[show Yy [] (aa (k:Int)) (aa ((0:Nat):Int))=[] by unfold Yy;rw[List.drop_nil,List.take_nil]]
 exact⟨z,rfl,⟨_,SqL.of zg⟩,zd5 zg (q _ (s2.trans (s3.trans (s4.trans (isV z hz)))))⟩
theorem zcr{k:Key} :yd [(k,v)] k=aa v:=by simp[yd]
theorem zeh(e:H l=aa (.dK [(.inl rank,v)])):DGet H l (.int rank) (aa v):=by
 have z:=DGet.k (k:=.inl rank) e
 rwa [zcr] at z
theorem qq{vs:List V}{_E:XK}(D:DkF K t)(h:xu t vs H Q _E) :
  vc K t (qqN Q) (L2.start ["self","rank","place","worth","now"] vs) H:=by
 obtain⟨d,a,lb,f,rank,cs,ws,db,en,g,lays,CC,r,no,gi,rfl,h,h0,hp,hn,q⟩:=h
 obtain⟨o,nl,gl,e,⟨xs,hx,px⟩,_,z1,z2⟩:=hp
 have e1:H a.jb=aa (.ins t.q03 a.dj (X9 a.mks a.la a.re a.db)):=h.at (i:=2) rfl
 have e2:H a.la=aa (.dK [(.inl rank,.ref r)]):=h.at (i:=6) rfl
 obtain⟨dx,fs,im,_,sn,_⟩:=h.ms.ins
 refine(yT e1 D.cJ D.j2 rfl rfl ⟨_,rfl,a.la,_,rfl,zeh e2,r,_,1,_,rfl,rfl,SqT.of e,rfl,nl,rfl,⟨_,SqL.of hx⟩,vI xs (λ_ σ H'=>(∃o2 o3 o4,σ=[aa (.ref a.jb),aa (.int rank),o2,o3,o4])/\Same H H') ⟨⟨_,_,_,rfl⟩,Same.refl _⟩ (λi σ H' ⟨_,s⟩=>SqL.of (s _ _ hx)) ?_ ?_⟩)
 ·rintro i u σ H' hu ⟨⟨o2,o3,o4,rfl⟩,s⟩
  obtain⟨y,hy,w,p,rfl,ew,ep⟩:=Paired.getP px hu
  refine⟨w,_,rfl,SqT.of (s _ _ ew),rfl,_,_,rfl,_,_,rfl,rfl,yT (s _ _ e1) D.cJ D.j1 rfl rfl ⟨a.mks,_,_,rfl,s _ _ im,sn,_,rfl,_,rfl,a.mks,p,rank,_,g,lays,y.1,rfl,h.ms.same s,h0,s _ _ ep,λH2 s2=>?_⟩⟩
  exact⟨_,rfl,_,rfl,rfl,_,rfl,xD (by rw[decide_eq_true (congrArg V.int (hn y (cE hy)).symm)];rfl) ⟨⟨_,_,_,rfl⟩,s.trans s2⟩⟩
 ·rintro σ H' ⟨_,s⟩
  exact q H' s
theorem kh{vs:List V}{_E:XK}(D:DkF K t)(h:y7 t vs H Q _E) :
  wD K t (qqN Q) (L2.start ["self","ranks","rank","note"] vs) H:=by
 obtain⟨d,a,lb,f,cs,ws,la,db,en,g,lays,P,CC,rfl,h,hc,q⟩:=h
 have e1:H a.jb=aa (.ins t.q03 a.dj (X9 a.mks a.la a.re a.db)):=h.at (i:=2) rfl
 have e2:H a.db=aa (.dK db):=h.at (i:=7) rfl
 refine(yT e1 D.cJ D.j4 rfl rfl ?_)
 rcases hc with rfl | ⟨rank,r,no,gi,rfl,rfl,rfl,h0,hp,hn⟩
 ·refine⟨a.db,[],[],rfl,e2,rfl,by lia,λl srt hl hs _=>?_⟩
  have es:srt=[]:=cZ hs.length_eq
  subst es
  exact⟨_,rfl,l,rfl,⟨_,SqL.of zg⟩,zd5 zg (q _ (Fr.same (isV l hl)) (h.same rfl (isV l hl)))⟩
 ·refine⟨a.db,dbK rank,[rank],rfl,e2,rfl,by show 1 < 64;decide,λl srt hl hs _=>?_⟩
  have es:srt=[rank]:=List.perm_singleton.mp hs
  subst es
  generalize c_:upd H l _=H2
  obtain⟨s2,q2⟩:=x8 c_ hl
  have hl2:lb l=0:=h.out hl
  refine⟨_,rfl,l,rfl,⟨_,SqL.of q2⟩,vI [.int rank] (λi σ H'=>(∃o2 o3,σ=[aa (.ref a.jb),aa (.ref l),o2,o3])/\H' l=aa (.lst [.int rank])/\Fr H H' lb lb/\DkO t H' lb (dkL t d a f cs ws [] [(.inl rank,.ref r)] (if i=0 then dbK rank else []) en) a.mks a.re g lays (ntP rank no) cs CC) ⟨⟨_,_,rfl⟩,q2,Fr.same s2,h.same rfl s2⟩ (λi σ H' ⟨_,z,_⟩=>SqL.of z) ?_ ?_⟩
  ·rintro i u σ H' hu ⟨⟨o2,o3,rfl⟩,hl',F,h'⟩
   have i0:i=0:=by have:=(bq.mp hu).1;simp at this;exact this
   subst i0
   cases hu
   rw[ao rfl] at h'
   have e1':H' a.jb=aa (.ins t.q03 a.dj (X9 a.mks a.la a.re a.db)):=h'.at (i:=2) rfl
   refine⟨_,rfl,a.jb,_,_,rfl,e1',rfl,_,rfl,d,a,lb,f,rank,cs,ws,_,en,g,lays,CC,r,no,gi,rfl,h',h0,hp.fr F,hn,λH3 s3=>?_⟩
   have h3:=h'.same rfl s3
   have e3:H3 a.db=aa (.dK (dbK rank)):=h3.at (i:=7) rfl
   refine⟨_,rfl,rfl,_,rfl,xD rfl (yT (s3 _ _ e1') D.cJ D.j4 rfl rfl ⟨a.db,rfl,.inl ⟨_,.inl e3⟩,_,rfl,dbK rank,.inl rank,_,e3,rfl,zcr,⟨_,_,rfl⟩,?_,?_,?_⟩)⟩
   ·rw[zk (zT (s3 _ _ hl') e3 (by lia))];exact s3 _ _ hl'
   ·exact(F.trans (Fr.same s3)).trans (h3.fput (i:=7) rfl (by lia))
   ·have z:=h3.put (i:=7) (o':=.dK []) rfl rfl (by lia)
    rw[show xj (dbK rank) (.inl rank)=[] by simp[xj,dbK]]
    exact z
  ·rintro σ H' ⟨_,_,F,h'⟩
   exact q H' F h'
theorem zbG{gs:List Row}{r0:Row}(nd:(gs.map (·.1)).Nodup)(h:gs[i]?=aa r0):r0.1 ∉ (gs.take i).map (·.1):=λz=>by
 obtain⟨j,hj⟩:=dz z
 rw[bw,ib] at hj
 split at hj
 ·rename_i hji
  have a1:(gs.map (·.1))[j]?=aa r0.1:=by rw[bw];exact hj
  have a2:(gs.map (·.1))[i]?=aa r0.1:=by rw[bw,h];rfl
  have:=(iC (bq.mp a1).1 nd).mp (a1.trans a2.symm)
  lia
 ·cases hj
theorem QZ{gs:List Row}{r0:Row}{p:Pl}(h:gs[i]?=aa r0):p∈(gs.take (i + 1)).map (·.1)↔p∈(gs.take i).map (·.1)\/p=r0.1:=by
 rw[dq,h,cB,bJ]
 have:p∈cM (·.1) (aa r0).toList↔p=r0.1:=by simp
 rw[this]
def tkI(a:DAd)(r:ac)(rank:Int)(G:ac->Prop)(no:List Row)(H:Hp)(i:Nat)(σ:St)(H':Hp):Prop:=(∃o3 o4,σ=[aa (.ref a.jb),aa (.int rank),aa (.ref r),o3,o4])/\KeepR G a.re H H'/\Dm H H'/\∃kk,RkAt H' a.re G (λp j=>ntP rank no p j/\¬ (j=rank/\p∈(no.take i).map (·.1))) kk
theorem Y0{vs:List V}{_E:XK}(D:DkF K t)(h:xC t vs H Q _E) :
  j7 K t (qqN Q) (L2.start ["self","rank","paper","place","worth"] vs) H:=by
 obtain⟨d,a,lb,f,rank,cs,ws,en,g,lays,CC,r,no,gi,rfl,h,hp,nd,q⟩:=h
 have e1:H a.jb=aa (.ins t.q03 a.dj (X9 a.mks a.la a.re a.db)):=h.at (i:=2) rfl
 have e2:H a.la=aa (.dK [(.inl rank,.ref r)]):=h.at (i:=6) rfl
 refine(yT e1 D.cJ D.j2 rfl rfl ⟨a.la,rfl,.inl ⟨_,.inl e2⟩,_,rfl,_,.inl rank,_,e2,rfl,zcr,?_⟩)
 rw[show xj [((.inl rank:Key),V.ref r)] (.inl rank)=[] by simp[xj]]
 have h2:=h.put (i:=6) (o':=.dK []) rfl rfl (by lia)
 have F2:=h.fput (i:=6) (o':=.dK []) rfl (by lia)
 generalize upd H a.la (.dK [])=H2 at *
 have h2:DkO t H2 lb (dkL t d a f cs ws [] [] [] en) a.mks a.re g lays (ntP rank no) cs CC:=h2
 have e1:H2 a.jb=aa (.ins t.q03 a.dj (X9 a.mks a.la a.re a.db)):=h2.at (i:=2) rfl
 have e3:H2 a.db=aa (.dK []):=h2.at (i:=7) rfl
 refine(yT e1 D.cJ D.j4 rfl rfl ⟨a.db,rfl,.inl ⟨_,.inl e3⟩,_,rfl,[],.inl rank,e3,rfl,λv z=>absurd z (by simp[yd]),λ_=>?_⟩)
 obtain⟨o,nl,gl,er,⟨xs,hx,px⟩,_,z1,z2⟩:=hp.fr F2
 have rl:=h2.rl
 obtain⟨kk,r0⟩:=h2.rr
 refine⟨_,rfl,r,_,1,_,rfl,rfl,SqT.of er,rfl,nl,rfl,⟨_,SqL.of hx⟩,vI xs (tkI a r rank (λb=>lb b=11\/H2 b=ah) no H2) ⟨⟨_,_,rfl⟩,KeepR.refl,Dm.refl,kk,(r0.keep (F':=λb=>lb b=11\/H2 b=ah) rl (λb o _ e=>e) λ_ z=>.inl z).eqv λp i=>by simp⟩ (λi σ H' ⟨_,k,_⟩=>SqL.of (k _ _ hx (λz=>by rw[z,rl] at z1;cases z1) (.inr λz=>z.elim (λy=>by rw[z1] at y;cases y) λy=>by rw[hx] at y;cases y))) ?_ ?_⟩
 ·rintro i u σ H' hu ⟨⟨o3,o4,rfl⟩,k,dm,kk',hr'⟩
  obtain⟨y,hy,w,p,rfl,ew,ep⟩:=Paired.getP px hu
  have tk:∀b zs,H2 b=aa (.tup zs)->H' b=aa (.tup zs):=λb zs e=>k _ _ e (zT e r0.at_ (by lia)) (.inl λ_ z=>nomatch z)
  refine⟨w,_,rfl,SqT.of (tk _ _ ew),rfl,_,_,rfl,_,_,rfl,rfl,yT (k _ _ e1 (zT e1 r0.at_ (by lia)) (.inl λ_ z=>nomatch z)) D.cJ D.j3 rfl rfl ⟨_,rfl,_,rfl,a.re,p,rank,_,_,kk',y.1,rfl,hr',.inl rl,tk _ _ ep,⟨⟨rfl,bX (cE hy)⟩,λz=>zbG nd hy z.2⟩,λH3 kk3 k3 d3 r3=>⟨⟨_,_,rfl⟩,k.trans k3,dm.trans d3,kk3,r3.eqv λp j=>?_⟩⟩⟩
  rw[QZ hy]
  exact⟨λ⟨⟨a,b⟩,c⟩=>⟨a,λd=>d.2.elim (λe=>b ⟨d.1,e⟩) λe=>c ⟨d.1,e⟩⟩,λ⟨a,b⟩=>⟨⟨a,λc=>b ⟨c.1,.inl c.2⟩⟩,λc=>b ⟨c.1,.inr c.2⟩⟩⟩
 ·rintro σ H' ⟨⟨o3,o4,rfl⟩,k,dm,kk',hr'⟩
  obtain⟨lb',F3,h3⟩:=h2.regrow rfl k dm (hr'.eqv (P':=noP) λp i=>⟨λz=>z.2 ⟨z.1.1,by rw[bF px,fi];exact z.1.2⟩,λz=>z.elim⟩)
  exact⟨_,rfl,q H' lb' (F2.trans F3) h3⟩
open Classical in
theorem DkO.relay{F':ac->Prop}{lays':List (Int × List Row)}(h:DkO t H lb L m re g lays P cs CC)(ll:L.length=9)(k:∀b o,lb b≠10->H b=aa o->H' b=aa o)(ts:TSm H H')(M:MkAt t H' m F' g lays')(f1:∀b,F' b->lb b=10\/H b=ah)(f2:∀b,lb b=10->F' b):∃lb',Fr H H' lb lb'/\DkO t H' lb' L m re g lays' P cs CC:=by
 have e0:∀b,lb b≠0->¬ lb b=10->¬ F' b:=λb z y w=>(f1 b w).elim y λv=>by obtain⟨o,e⟩:=h.ow b z;rw[v] at e;cases e
 have ex:∀b,lb b≠0->(if F' b then 10 else lb b)=lb b:=λb z=>by
  by_cases y:lb b=10
  ·rw[ao (f2 b y),y]
  ·rw[ak (e0 b z y)]
 have e10:(λb=>(if F' b then 10 else lb b)=10)=F':=funext λb=>propext ⟨λz=>by
  by_cases y:F' b
  ·exact y
  ·rw[ak y] at z;exact f2 b z,λz=>ao z⟩
 have al:∀b o,H b=aa o->∃o',H' b=aa o':=λb o e=>by
  by_cases y:lb b=10
  ·exact M.own b (f2 b y)
  ·exact⟨o,k b o y e⟩
 have rl:=h.rl
 obtain⟨kk,r0⟩:=h.rr
 refine⟨λb=>if F' b then 10 else lb b,⟨λb o e=>?_,λb o z e=>k b o (by lia) e,ts,al⟩,λi b o e=>?_,by rw[e10];exact M,⟨kk,r0.keep rl (λb o fb e=>k b o (by lia) e) λb z=>(ex b (by lia)).trans z⟩,(ex _ (by lia)).trans rl,Paired.mapP h.cc λv C ⟨⟨c,ys,ev,hc,pc⟩,lc⟩=>⟨⟨c,ys,ev,k c _ (by rw[lc c ev];decide) hc,xI ts pc⟩,λc ev=>(ex c (by rw[lc c ev];decide)).trans (lc c ev)⟩,λb hb=>?_⟩
 ·by_cases y:F' b
  ·rw[ao y];exact((f1 b y).resolve_right λz=>by rw[z] at e;cases e).symm
  ·rw[ak y]
 ·obtain⟨h1,h2⟩:=h.ob i b o e
  have:=(bq.mp e).1
  exact⟨k b o (by lia) h1,(ex b (by lia)).trans h2⟩
 ·by_cases y:F' b
  ·exact M.own b y
  ·obtain⟨o,e⟩:=h.ow b (λz=>hb ((ak y).trans z))
   exact al b o e
def ptI(a:DAd)(r:ac)(rank:Int)(l:ac)(G:ac->Prop)(no:List Row)(H:Hp)(i:Nat)(σ:St)(H':Hp):Prop:=(∃o4 o5,σ=[aa (.ref a.jb),aa (.int rank),aa (.ref r),aa (.ref l),o4,o5])/\KeepR G a.re H H'/\Dm H H'/\∃kk,RkAt H' a.re G (λp j=>j=rank/\p∈(no.take i).map (·.1)) kk
theorem Y1{vs:List V}{_E:XK}(D:DkF K t)(h:wM t vs H Q _E) :
  j9 K t (qqN Q) (L2.start ["self","rank","paper","before","place","worth"] vs) H:=by
 obtain⟨d,a,lb,f,rank,cs,ws,en,g,lays,CC,r,no,gi,rfl,h,h0,hl,l10,hp,nt,q⟩:=h
 have e1:H a.jb=aa (.ins t.q03 a.dj (X9 a.mks a.la a.re a.db)):=h.at (i:=2) rfl
 have nr:rank ∉ lays.map (·.1):=λz=>by
  obtain⟨y,hy,e⟩:=bP.mp z
  have:=hl y hy
  lia
 obtain⟨_,_,im,_⟩:=h.ms.ins
 obtain⟨dx,gr,wo,rk,wk,kx,M⟩:=MrAt.ex h.ms
 refine(yT e1 D.cJ D.j1 rfl rfl ⟨a.mks,_,_,rfl,M.im,jY (by lia),_,rfl,_,_,_,_,_,_,rfl,h.ms,λl ys gs H1 s1 hl0 hl1 hy ho=>?_⟩)
 obtain⟨_,rfl⟩:=ho.resolve_left λz=>nr (bP.mpr ⟨_,z,rfl⟩)
 have ey:ys=[]:=cZ (bF hy)
 subst ey
 have h1:=h.same rfl s1
 obtain⟨o,nl,gl,er,ln,lg,z1,z2⟩:=hp.fr (Fr.same s1)
 refine(yT (s1 _ _ e1) D.cJ D.j1 rfl rfl ⟨a.mks,_,_,rfl,s1 _ _ M.im,jY (by lia),_,rfl,_,rfl,r,_,2,_,rfl,rfl,SqT.of er,rfl,_,_,_,_,_,_,_,rfl,h1.ms,h0,lg,(λz=>by rw[z2] at z;cases z),⟨nt.ng,bN nt.lg (by lia)⟩,bN l10 (by lia),nr,λH2 F2 k2 t2 m2 f2 g2=>?_⟩)
 obtain⟨lb2,Fr2,h2⟩:=h1.relay rfl k2 t2 m2 f2 g2
 rw[zdP nr] at h2
 have F2:=(Fr.same s1).trans Fr2
 have e2:H2 a.jb=aa (.ins t.q03 a.dj (X9 a.mks a.la a.re a.db)):=h2.at (i:=2) rfl
 have lb0:∀ {b},H b=ah->lb b=0:=λ{b} z=>cS λy=>by obtain⟨o,e⟩:=h.ow b y;rw[z] at e;cases e
 have hl2:H2 l=aa (.lst []):=Fr2.kp _ _ (.inl (lb0 hl0)) hl1
 clear M wk kx
 obtain⟨dx,gr,wo,rk,wk,kx,M⟩:=MrAt.ex h2.ms
 refine⟨_,rfl,yT e2 D.cJ D.j1 rfl rfl ⟨a.mks,_,_,rfl,M.im,jY (by lia),_,rfl,_,_,_,_,_,_,rfl,h2.ms,λl2 ys gs2 H3 s3 hl3 hl4 hy ho=>?_⟩⟩
 have hg:gs2=gi:=by
  rcases ho with z | ⟨z,_⟩
  ·rcases bJ.mp z with z | z
   ·exact absurd (bP.mpr ⟨_,z,rfl⟩) nr
   ·cases bI.mp z;rfl
  ·exact absurd (bP.mpr ⟨_,b6 _ (bI.mpr rfl),rfl⟩) z
 subst hg
 have ly:ys.length=gs2.length:=by rw[bF hy,W8 nt.ng,bo]
 refine⟨l,l2,[],ys,rfl,rfl,s3 _ _ hl2,hl4,by show 0 + ys.length<=sizeLine;rw[bT];have:=nt.lg;lia,λp hp4=>?_⟩
 generalize c_:upd H3 p _=H4
 obtain⟨s4,e4⟩:=x8 c_ hp4
 have S4:=s3.trans s4
 have h4:=h2.same rfl S4
 refine⟨p,rfl,⟨_,SqL.of e4⟩,vI ys (λ_ σ H'=>(∃o4,σ=[aa (.ref a.jb),aa (.int rank),aa (.ref r),aa (.ref l),o4,ah])/\Same H4 H') ⟨⟨_,rfl⟩,Same.refl _⟩ (λi σ H' ⟨_,s⟩=>SqL.of (s _ _ e4)) ?_ ?_⟩
 ·rintro i u σ H' hu ⟨⟨o4,rfl⟩,s⟩
  obtain⟨kv',hkv,c,rfl,hc⟩:=Paired.getP hy hu
  rw[W8 nt.ng,bw] at hkv
  obtain⟨r0,hr0,rfl⟩:=cy.mp hkv
  have S:=S4.trans s
  have h5:=h2.same rfl S
  obtain⟨kk,r5⟩:=h5.rr
  refine⟨_,rfl,a.jb,_,_,rfl,S _ _ e2,rfl,_,rfl,_,rfl,a.jb,a.dj,a.mks,a.la,a.re,a.db,c,rank,_,_,_,_,r0.1,kk,rfl,S _ _ e2,h5.ms,r5,(s4.trans s) _ _ hc,λy hy=>?_,λH6 s6=>⟨⟨_,rfl⟩,s.trans s6⟩⟩
  rcases bJ.mp hy with z | z
  ·exact Int.le_of_lt (hl y z)
  ·cases bI.mp z;exact mT _
 ·rintro σ H' ⟨⟨o4,rfl⟩,s⟩
  have h5:=h2.same rfl (S4.trans s)
  have F5:=F2.trans (Fr.same (S4.trans s))
  clear s s4 e4 h4 S4 hy ly hl4 s3 M F2 h2 e2 hl2 e1 im h1 ln lg er ho
  refine⟨_,rfl,yT (h5.at (i:=2) rfl) D.cJ D.j2 rfl rfl ⟨_,rfl,a.la,_,rfl,.k (k:=.inl rank) (h5.at (i:=6) rfl) (by rw[bT];decide),?_⟩⟩
  have h6:=h5.put (i:=6) (o':=.dK (yC [] (.inl rank) (.ref r))) rfl rfl (by lia)
  have F6:=F5.trans (h5.fput (i:=6) (o':=.dK (yC [] (.inl rank) (.ref r))) rfl (by lia))
  generalize upd H' a.la (.dK (yC [] (.inl rank) (.ref r)))=H6 at *
  clear h5 F5
  have h6:DkO t H6 lb2 (dkL t d a f cs ws [] [(.inl rank,.ref r)] [] en) a.mks a.re g (lays ++ [(rank,gs2)]) noP cs CC:=h6
  refine(yT (h6.at (i:=2) rfl) D.cJ D.j4 rfl rfl ⟨_,rfl,a.db,_,rfl,.k (k:=.inl rank) (h6.at (i:=7) rfl) (by rw[bT];decide),?_⟩)
  have h7:=h6.put (i:=7) (o':=.dK (yC [] (.inl rank) (.bl af))) rfl rfl (by lia)
  have F7:=F6.trans (h6.fput (i:=7) (o':=.dK (yC [] (.inl rank) (.bl af))) rfl (by lia))
  generalize upd H6 a.db (.dK (yC [] (.inl rank) (.bl af)))=H7 at *
  clear h6 F6
  have h7:DkO t H7 lb2 (dkL t d a f cs ws [] [(.inl rank,.ref r)] (dbK rank) en) a.mks a.re g (lays ++ [(rank,gs2)]) noP cs CC:=h7
  obtain⟨o,nl,gl,er,⟨xs,hx,px⟩,lg,z1,z2⟩:=hp.fr F7
  have e1:H7 a.jb=aa (.ins t.q03 a.dj (X9 a.mks a.la a.re a.db)):=h7.at (i:=2) rfl
  have rl:=h7.rl
  obtain⟨kk,r0⟩:=h7.rr
  refine⟨_,rfl,r,_,1,_,rfl,rfl,SqT.of er,rfl,nl,rfl,⟨_,SqL.of hx⟩,vI xs (ptI a r rank l (λb=>lb2 b=11\/H7 b=ah) no H7) ⟨⟨_,_,rfl⟩,KeepR.refl,Dm.refl,kk,(r0.keep (F':=λb=>lb2 b=11\/H7 b=ah) rl (λb o _ e=>e) λ_ z=>.inl z).eqv λp i=>by simp[noP]⟩ (λi σ H' ⟨_,k,_⟩=>SqL.of (k _ _ hx (λz=>by rw[z,rl] at z1;cases z1) (.inr λz=>z.elim (λy=>by rw[z1] at y;cases y) λy=>by rw[hx] at y;cases y))) ?_ ?_⟩
  ·rintro i u σ H' hu ⟨⟨o3,o4,rfl⟩,k,dm,kk',hr'⟩
   obtain⟨y,hy,w,p,rfl,ew,ep⟩:=Paired.getP px hu
   have tk:∀b zs,H7 b=aa (.tup zs)->H' b=aa (.tup zs):=λb zs e=>k _ _ e (zT e r0.at_ (by lia)) (.inl λ_ z=>nomatch z)
   refine⟨w,_,rfl,SqT.of (tk _ _ ew),rfl,_,_,rfl,_,_,rfl,rfl,?_⟩
   have np:=zbG nt.nd hy
   have sub:∀ {p:Pl},p∈(no.take i).map (·.1)->p∈no.map (·.1):=λz=>by
    obtain⟨x,hx,rfl⟩:=bP.mp z
    exact bX (dR hx)
   refine(yT (k _ _ e1 (zT e1 r0.at_ (by lia)) (.inl λ_ z=>nomatch z)) D.cJ D.j3 rfl rfl ⟨_,rfl,_,rfl,a.re,p,rank,_,_,kk',y.1,rfl,hr',.inl rl,λb z=>.inr ?_,tk _ _ ep,λz=>np z.2,?_,λrs _ ha=>?_,λH3 kk3 k3 d3 r3=>⟨⟨_,_,rfl⟩,k.trans k3,dm.trans d3,kk3,r3.eqv λp j=>?_⟩⟩)
   ·cases e:H7 b with
    | none=>rfl
    | some o=>obtain⟨o',e',_⟩:=dm b o e;rw[z] at e';cases e'
   ·exact zd6 (l:=[(rank,no)]) hr' (λp r z=>⟨no,by rw[z.1];exact bI.mpr rfl,sub z.2⟩) (λy hy=>by cases bI.mp hy;exact⟨nt.nd,bN nt.ln (by lia)⟩) (by show 1<=300;decide)
   ·cases rs with
    | nil=>exact bW _
    | cons x _=>exact absurd (ha x bt).2 np
   ·rw[QZ hy,and_or_left]
  ·rintro σ H' ⟨⟨o3,o4,rfl⟩,k,dm,kk',hr'⟩
   obtain⟨lb',F8,h8⟩:=h7.regrow rfl k dm (hr'.eqv (P':=ntP rank no) λp i=>by rw[bF px,fi];exact p9)
   exact q H' lb' (F7.trans F8) h8
end
section
variable {H':Hp}{lb lb':ac->Nat}{L L':List (ac × HO)}{m re d b dx:ac}{a:DAd}{g:List Row}{lays:List (Int × List Row)}{P:Pl->Int->Prop}{cs en:List V}{CC:List (List Cs)}{C:List Cs}{f rank:Int}{ws:List Int}{kv la db:List (Key × V)}{o o':HO}{i k:Nat}{r:ac}{no gi:List Row}{tb tb':Pl->Int}{T:List Tl}{v:V}
theorem XB(D:DkF K t)(h:H d=aa (.ins t.q01 dx (Yi a f)))(h2:H a.en=aa (.lst en))(q:Q (.int (f + en.length)) H) :
  qh K t (qqN Q) (L2.start ["self"] [.ref d]) H:=(yT h D.cD D.d3 rfl rfl (yT h D.cD D.d9 rfl rfl ⟨.ref a.en,en.length,rfl,.inl ⟨_,SqL.of h2,rfl⟩,_,_,rfl,rfl,q⟩))
theorem Yp(D:DkF K t)(h:H d=aa (.ins t.q01 dx (Yi a f)))(h2:H a.cl=aa (.lst cs))(q:Q (.int (f + cs.length)) H) :
  jv K t (qqN Q) (L2.start ["self"] [.ref d]) H:=(yT h D.cD D.d3 rfl rfl (yT h D.cD D.d4 rfl rfl ⟨.ref a.cl,cs.length,rfl,.inl ⟨_,SqL.of h2,rfl⟩,_,_,rfl,rfl,q⟩))
theorem Vk{x l:ac}{w:Int}(h:H l=aa (.lst ((w :: ws).map V.int)))(q:Q (.int w) H):ZV K t (qqN Q) (L2.start ["self","ranks"] [.ref x,.ref l]) H:=⟨_,rfl,l,_,0,_,rfl,rfl,SqL.of h,by simp[atI,ixN],q⟩
open Classical in
theorem DkO.relab{N:ac->Prop}(n:Nat)(hn:12<=n)(h:DkO t H lb L m re g lays P cs CC)(s:Same H H')(hN:∀b,N b->H b=ah/\∃o,H' b=aa o):∃lb',Fr H H' lb lb'/\DkO t H' lb' L m re g lays P cs CC/\∀b,N b->lb' b=n:=by
 have l0:∀b,N b->lb b=0:=λb z=>cS λy=>by obtain⟨o,e⟩:=h.ow b y;rw[(hN b z).1] at e;cases e
 have ex:∀b,lb b≠0->(if N b then n else lb b)=lb b:=λb z=>ak λy=>z (l0 b y)
 have e10:(λb=>(if N b then n else lb b)=10)=λb=>lb b=10:=funext λb=>propext (by
  by_cases y:N b
  ·rw[ao y,l0 b y];lia
  ·rw[ak y])
 have rl:=h.rl
 obtain⟨kk,r0⟩:=h.rr
 refine⟨λb=>if N b then n else lb b,⟨λb o e=>ak (λy=>by rw[(hN b y).1] at e;cases e),λb o _ e=>s _ _ e,λb zs e=>s _ _ e,λb o e=>⟨o,s _ _ e⟩⟩,⟨λi b o e=>?_,by rw[e10];exact h.ms.same s,⟨kk,r0.keep rl (λb o _ e=>s _ _ e) λb z=>(ex b (by lia)).trans z⟩,(ex _ (by lia)).trans rl,Paired.mapP h.cc λv C ⟨⟨c,ys,ev,hc,pc⟩,lc⟩=>⟨⟨c,ys,ev,s _ _ hc,xO s pc⟩,λc ev=>(ex c (by rw[lc c ev];decide)).trans (lc c ev)⟩,λb hb=>?_⟩,λb z=>ao z⟩
 ·obtain⟨h1,h2⟩:=h.ob i b o e
  exact⟨s _ _ h1,(ex b (by lia)).trans h2⟩
 ·by_cases y:N b
  ·exact(hN b y).2
  ·obtain⟨o,e⟩:=h.ow b (λz=>hb ((ak y).trans z))
   exact⟨o,s _ _ e⟩
theorem DkO.addC(h:DkO t H lb L m re g lays P cs CC)(s:Same H H')(hc:H c=ah)(ha:CoAt H' (.ref c) C):∃lb',Fr H H' lb lb'/\DkO t H' lb' L m re g lays P (cs ++ [.ref c]) (CC ++ [C]):=by
 obtain⟨c',ys,ec,hy,py⟩:=id ha
 cases ec
 obtain⟨lb',F,h',z⟩:=h.relab (N:=λb=>b=c) 13 (by lia) s λb e=>by rw[e];exact⟨hc,_,hy⟩
 exact⟨lb',F,h'.ob,h'.ms,h'.rr,h'.rl,Paired.snocP h'.cc ⟨ha,λc' e=>by cases e;exact z c rfl⟩,h'.ow⟩
theorem Kl{vs:List V}{_E:XK}(D:DkF K t)(h:qY t vs H Q _E) :
  XV K t (qqN Q) (L2.start ["self","code","rank"] vs) H:=by
 obtain⟨d,v,a,lb,f,cs,ws,g,CC,C,rfl,h1,h,h2,h3,q⟩:=h
 have e1:H d=aa (.ins t.q01 a.dx (Yi a f)):=h.at (i:=0) rfl
 obtain⟨c0,ys,rfl,hy,py⟩:=h1
 refine(qa e1 rfl rfl ⟨d,_,a,f,cs,rfl,e1,h.at (i:=3) rfl,?_⟩)
 refine(yT e1 D.cD D.d4 rfl rfl ⟨.inl ⟨rfl,_,SqL.of (h.at (i:=3) rfl)⟩,_,rfl,c0,ys,rfl,.inl (SqL.of hy),λc hc=>?_⟩)
 generalize c_:upd H c _=H2
 obtain⟨s2,e2⟩:=x8 c_ hc
 obtain⟨lb2,F2,h4⟩:=h.addC (C:=C) s2 hc ⟨c,ys,rfl,e2,xO s2 py⟩
 have h5:=h4.put (i:=3) (o':=.lst (cs ++ [.ref c])) rfl rfl (by lia)
 have F5:=F2.trans (h4.fput (i:=3) (o':=.lst (cs ++ [.ref c])) rfl (by lia))
 refine⟨a.cl,cs,_,rfl,rfl,h4.at (i:=3) rfl,bY h2 (by rw[bT];decide),?_⟩
 generalize upd H2 a.cl (.lst (cs ++ [.ref c]))=H5 at *
 have h5:DkO t H5 lb2 (dkL t d a f (cs ++ [.ref c]) ws [] [] [] []) a.mks a.re g [] noP (cs ++ [.ref c]) (CC ++ [C]):=h5
 refine(yT (h5.at (i:=0) rfl) D.cD D.d5 rfl rfl ⟨.inl ⟨rfl,_,SqL.of (h5.at (i:=4) rfl)⟩,_,rfl,a.wl,_,_,rfl,rfl,h5.at (i:=4) rfl,bY (by rw[bo];exact h3) (by rw[bT];decide),_,rfl,?_⟩)
 have h6:=h5.put (i:=4) (o':=.lst ((ws ++ [f + cs.length]).map V.int)) rfl rfl (by lia)
 have F6:=F5.trans (h5.fput (i:=4) (o':=.lst ((ws ++ [f + cs.length]).map V.int)) rfl (by lia))
 rw[cB] at h6 F6
 exact q _ lb2 (cs ++ [.ref c]) F6 (bn ..) (by rw[dkL,cB];exact h6)
theorem RnAt.lab(R:RnAt t H x ra C s)(l:∀b,OwA x ra b->lb b=12)(k:∀b o,lb b=12->H b=aa o->H' b=aa o)(ts:TSm H H'):RnAt t H' x ra C s:=
 ⟨k _ _ (l _ (.inl (.inl rfl))) R.ix,let ⟨xs,hx,px⟩:=R.hc;⟨xs,k _ _ (l _ (.inr rfl)) hx,xI ts px⟩,k _ _ (l _ (.inl (.inr (.inl rfl)))) R.hs,k _ _ (l _ (.inl (.inr (.inr (.inl rfl))))) R.hg,k _ _ (l _ (.inl (.inr (.inr (.inr (.inl rfl)))))) R.hn,k _ _ (l _ (.inl (.inr (.inr (.inr (.inr rfl)))))) R.ha,R.ng,R.nc⟩
theorem Q5(h:k < n):jZ f k n=(f + k) :: jZ f (k + 1) n:=by
 unfold jZ
 rw[show n - k=n - (k + 1) + 1 by lia,List.range_succ_eq_map,bM,gm]
 refine congr (congrArg _ (by lia)) (fN λi _=>?_)
 show f + (k:Int) + ((i + 1:Nat):Int)=f + ((k + 1:Nat):Int) + i
 lia
theorem Y2{vs:List V}{_E:XK}(D:DkF K t)(h:wN t vs H Q _E) :
  j8 K t (qqN Q) (L2.start ["self","hand","rank"] vs) H:=by
 obtain⟨d,a,lb,f,CC,k,tb,C,rfl,h,hC,hl,q⟩:=h
 obtain⟨cs,g,lays,en,h,ly,le,_⟩:=h
 have hk:k < CC.length:=(bq.mp hC).1
 rw[Q5 hk] at h
 have e1:H d=aa (.ins t.q01 a.dx (Yi a f)):=h.at (i:=0) rfl
 refine(yT e1 D.cD D.d2 rfl rfl ⟨a.wy,_,_,rfl,h.at (i:=1) rfl,rfl,yT e1 D.cD D.d5 rfl rfl ⟨a.wl,_,rfl,.inl (SqL.of (h.at (i:=4) rfl)),λl hl0=>⟨a.wy,l,f + k,_,rfl,zg,?_⟩⟩⟩)
 generalize c_:upd H l _=H2
 obtain⟨s2,_⟩:=x8 c_ hl0
 have h2:=h.same rfl s2
 refine(yT (s2 _ _ e1) D.cD D.d5 rfl rfl ⟨.inl ⟨rfl,_,SqL.of (h2.at (i:=4) rfl)⟩,_,rfl,a.wl,_,f + k,rfl,rfl,h2.at (i:=4) rfl,bt,?_⟩)
 have h3:=h2.put (i:=4) (o':=.lst ((jZ f (k + 1) CC.length).map V.int)) rfl rfl (by lia)
 have F3:=(Fr.same s2).trans (h2.fput (i:=4) (o':=.lst ((jZ f (k + 1) CC.length).map V.int)) rfl (by lia))
 rw[List.erase_cons_head]
 generalize upd H2 a.wl (.lst ((jZ f (k + 1) CC.length).map V.int))=H3 at *
 have h3:DkO t H3 lb (dkL t d a f cs (jZ f (k + 1) CC.length) [] [] [] en) a.mks a.re g lays noP cs CC:=h3
 clear h2 s2
 have e3:H3 d=aa (.ins t.q01 a.dx (Yi a f)):=h3.at (i:=0) rfl
 obtain⟨v,hv⟩:∃v,cs[k]?=aa v:=⟨_,bb (by rw[bF h3.cc];exact hk)⟩
 obtain⟨C',hC',⟨c,ys,rfl,hc,pc⟩,_⟩:=Paired.getP h3.cc hv
 obtain rfl:C'=C:=bV (hC'.symm.trans hC)
 refine⟨_,rfl,yT e3 D.cD D.d4 rfl rfl ⟨_,rfl,yT e3 D.cD D.d3 rfl rfl ⟨_,_,rfl,rfl,a.cl,cs,k,_,rfl,congrArg V.int (by lia),SqL.of (h3.at (i:=3) rfl),wc hv,?_⟩⟩⟩
 intro x dx hx hd n
 have n1:∀b o,H3 b=aa o->b≠x:=λb o e=>zC e hx
 have n2:∀b o,H3 b=aa o->b≠dx:=λb o e=>zC e hd
 have s4:Same H3 (upd (upd H3 dx (HO.own x)) x (HO.ins t.q00 dx [])):=λb o e=>by rw[zk (n1 b o e),zk (n2 b o e)];exact e
 refine⟨x,c,dx,ys,C',rfl,zg,s4 _ _ hc,xO s4 pc,λH5 ra k5 R5 fr=>?_⟩
 obtain⟨s5,ow⟩:=zd1 (Same.refl H3) hx hd k5 fr
 obtain⟨lb5,F5,h5,l12⟩:=h3.relab (N:=OwA x ra) 12 (by lia) s5 λb z=>⟨ow b z,by
  cases e:H5 b with
  | none=>exact absurd e (R5.has z)
  | some o=>exact⟨o,rfl⟩⟩
 refine⟨rfl,by show 2<=sizeLine;rw[bT];decide,λtp ht=>?_⟩
 generalize c_:upd H5 tp _=H6
 obtain⟨s6,e6⟩:=x8 c_ ht
 have h6:=h5.same rfl s6
 have F6:=(F3.trans F5).trans (Fr.same s6)
 have R6:=R5.same s6
 clear h5 R5 h3 F3 F5
 refine(yT (h6.at (i:=0) rfl) D.cD D.d6 rfl rfl ⟨_,rfl,a.hd,_,rfl,.k (k:=.inl 0) (h6.at (i:=5) rfl) (by rw[bT];decide),?_⟩)
 have h7:=h6.put (i:=5) (o':=.dK (yC [] (.inl 0) (.ref tp))) rfl rfl (by lia)
 have F7:=F6.trans (h6.fput (i:=5) (o':=.dK (yC [] (.inl 0) (.ref tp))) rfl (by lia))
 have k7:∀b o,lb5 b≠6->H6 b=aa o->upd H6 a.hd (.dK (yC [] (.inl 0) (.ref tp))) b=aa o:=λb o z e=>by rw[zk (λy=>z (by rw[y];exact h6.lb_ (i:=5) rfl))];exact e
 have t7:=(h6.fput (i:=5) (o':=.dK (yC [] (.inl 0) (.ref tp))) rfl (by lia)).ts
 generalize upd H6 a.hd (.dK (yC [] (.inl 0) (.ref tp)))=H7 at *
 have h7:DkO t H7 lb5 (dkL t d a f cs (jZ f (k + 1) CC.length) [(.inl 0,.ref tp)] [] [] en) a.mks a.re g lays noP cs CC:=h7
 have R7:RnAt t H7 x ra C' st0:=R6.lab l12 (λb o z e=>k7 b o (by lia) e) t7
 refine⟨_,rfl,_,rfl,by show 3<=sizeLine;rw[bT];decide,λp hp=>?_⟩
 have s8:=isV (o:=HO.tup [V.str "take",V.int 0,V.int (f + k)]) p hp
 exact q (.ref p) _ lb5 (F7.trans (Fr.same s8)) ⟨p,[],rfl,zg,rfl⟩ ⟨cs,g,lays,en,tp,x,ra,h7.same rfl s8,ly,le,hk,s8 _ _ (t7 _ _ e6),R7.same s8,l12⟩
theorem zgH{k:Key}:yd ([]:List (Key × V)) k=ah:=by simp[yd]
theorem Vl{x:Int}(h:H p=aa (.tup [.str w,.int 0,.int x])):TlAt H (.ref p) (tlW w x):=⟨p,[],rfl,h,rfl⟩
theorem ZH{vs:List V}{_E:XK}(D:DkF K t)(h:yK t vs H Q _E) :
  v9 K t (qqN Q) (L2.start ["self","hand","lowest","changed"] vs) H:=by
 obtain⟨d,a,lb,f,CC,T,k,tb,rfl,O,h,q⟩:=h
 rcases h with ⟨eT,cs,g,lays,en,h,ly,le,lk⟩ | ⟨tb',eT,cs,g,lays,en,r,no,gi,h,ly,le,lk,hp,nt,hn⟩
 ·have e1:H d=aa (.ins t.q01 a.dx (Yi a f)):=h.at (i:=0) rfl
  refine(qa e1 rfl rfl ⟨d,_,a,f,en,rfl,e1,h.at (i:=8) rfl,?_⟩)
  refine(yT e1 D.cD D.d8 rfl rfl ⟨a.jb,_,_,rfl,h.at (i:=2) rfl,rfl,d,a,lb,f,cs,_,_,_,en,g,lays,noP,CC,rfl,h,.inl rfl,λH2 F2 h2=>?_⟩)
  have e2:H2 d=aa (.ins t.q01 a.dx (Yi a f)):=h2.at (i:=0) rfl
  refine⟨_,rfl,yT e2 D.cD D.d8 rfl rfl ⟨a.jb,_,_,_,_,rfl,h2.at (i:=2) rfl,D.cJ,D.j2,rfl,a.la,_,rfl,.k (k:=.inl (f + en.length)) (h2.at (i:=6) rfl),_,rfl,xD (by rw[zgH];rfl) (xD rfl ?_)⟩⟩
  refine⟨_,rfl,rfl,_,rfl,xD rfl ?_⟩
  refine(yT e2 D.cD D.d5 rfl rfl ⟨by show 0<=sizeLine;exact bW _,λz hz=>?_⟩)
  have s3:=isV (o:=HO.lst []) z hz
  have h3:=h2.same rfl s3
  have F3:=F2.trans (Fr.same s3)
  refine⟨a.wl,z,_,rfl,rfl,SqL.of (h3.at (i:=4) rfl),SqL.of zg,_,rfl,?_⟩
  generalize upd H2 z (.lst [])=H3 at *
  rcases fo k CC.length with hk | hk
  ·have hC:CC[k]?=aa CC[k]:=bb hk
   have ed:CC.drop k=CC[k] :: CC.drop (k + 1):=da hk
   rw[ed] at eT
   subst eT
   exact ve (by rw[Q5 hk];rfl) (qa (h3.at (i:=0) rfl) rfl rfl ⟨_,rfl,d,a,lb,f,CC,k,tb,_,rfl,⟨cs,g,lays,en,h3,ly,le,lk⟩,hC,O.le,λv H4 lb4 F4 tv R4=>q v H4 lb4 (F3.trans F4) tv ⟨O,k,tb,.inr (.inl ⟨_,_,st0,ed,rfl,⟨0,rn0,nU _,rfl⟩,R4⟩)⟩⟩)
  ·rw[df hk] at eT
   refine xD (by rw[show jZ f k CC.length=[] by unfold jZ;rw[Nat.sub_eq_zero_of_le hk];rfl];rfl) ⟨_,rfl,by show 2<=sizeLine;rw[bT];decide,λp hp=>?_⟩
   have s4:=isV (o:=HO.tup [V.str "rest",V.int 0]) p hp
   subst eT
   exact q _ _ lb (F3.trans (Fr.same s4)) ⟨p,[],rfl,zg,rfl⟩ ⟨O,k,tb,.inl ⟨by rw[df hk];rfl,cs,g,lays,en,h3.same rfl s4,ly,le,lk⟩⟩
 ·subst le
  have e1:H d=aa (.ins t.q01 a.dx (Yi a f)):=h.at (i:=0) rfl
  have f0:(0:Int)<=f + en.length:=by have:=ly.f0;lia
  refine(qa e1 rfl rfl ⟨d,_,a,f,en,rfl,e1,h.at (i:=8) rfl,?_⟩)
  refine(yT e1 D.cD D.d8 rfl rfl ⟨a.jb,_,_,rfl,h.at (i:=2) rfl,rfl,d,a,lb,f,cs,_,_,_,en,g,lays,_,CC,rfl,h,.inr ⟨f + en.length,r,no,gi,rfl,rfl,rfl,f0,hp,hn⟩,λH2 F2 h2=>?_⟩)
  have e2:H2 d=aa (.ins t.q01 a.dx (Yi a f)):=h2.at (i:=0) rfl
  refine⟨_,rfl,yT e2 D.cD D.d8 rfl rfl ⟨a.jb,_,_,_,_,rfl,h2.at (i:=2) rfl,D.cJ,D.j2,rfl,a.la,_,rfl,.k (k:=.inl (f + en.length)) (h2.at (i:=6) rfl),_,rfl,ve (by rw[zcr];rfl) ⟨_,rfl,rfl,_,rfl,ve rfl (ve rfl ?_)⟩⟩⟩
  refine(yT e2 D.cD D.d9 rfl rfl ⟨.inl ⟨rfl,_,SqL.of (h2.at (i:=8) rfl)⟩,yT e2 D.cD D.d8 rfl rfl ⟨a.jb,_,_,rfl,h2.at (i:=2) rfl,rfl,_,rfl,d,a,lb,f,f + en.length,cs,_,en,g,lays,CC,r,no,gi,rfl,h2,hp.fr F2,nt.nd,λH3 lb3 F3 h3=>?_⟩⟩)
  have l5:=O.le
  refine⟨a.en,en,_,rfl,rfl,h3.at (i:=8) rfl,bY (show en.length<=5 by lia) (by rw[bT];decide),?_⟩
  have h4:=h3.put (i:=8) (o':=.lst (en ++ [.ref r])) rfl rfl (by lia)
  have F4:=(F2.trans F3).trans (h3.fput (i:=8) (o':=.lst (en ++ [.ref r])) rfl (by lia))
  generalize upd H3 a.en (.lst (en ++ [.ref r]))=H4 at *
  have h4:DkO t H4 lb3 (dkL t d a f cs (jZ f (en.length + 1) CC.length) [] [] [] (en ++ [.ref r])) a.mks a.re g lays noP cs CC:=h4
  refine⟨_,rfl,_,rfl,by show 3<=sizeLine;rw[bT];decide,λp hp=>?_⟩
  have s5:=isV (o:=HO.tup [V.str "settle",V.int 0,V.int (f + en.length)]) p hp
  subst eT
  exact q _ _ lb3 (F4.trans (Fr.same s5)) (Vl zg) ⟨O,en.length + 1,tb',.inl ⟨by rw[show f + ((en.length + 1:Nat):Int)=f + en.length + 1 by lia];rfl,cs,g,lays,_,h4.same rfl s5,ly,bn ..,lk⟩⟩
theorem DkO.step(h:DkO t H lb L m re g lays P cs CC)(ll:L.length=9)(R:RnAt t H x ra C s)(R':RnAt t H' x ra C s')(l12:∀b,OwA x ra b->lb b=12)(k:Kp x ra H H'):Fr H H' lb lb/\DkO t H' lb L m re g lays P cs CC:=by
 have kp:∀b o,lb b≠12->H b=aa o->H' b=aa o:=λb o z e=>k b o (λy=>z (l12 b (.inl y))) e
 have ts:TSm H H':=λb zs e=>k b _ (λy=>by
  rcases y with y | y | y | y | y
  ·rw[y,R.ix] at e;cases e
  ·rw[y,R.hs] at e;cases e
  ·rw[y,R.hg] at e;cases e
  ·rw[y,R.hn] at e;cases e
  ·rw[y,R.ha] at e;cases e) e
 have al:∀b o,H b=aa o->∃o',H' b=aa o':=λb o e=>by
  by_cases y:OwA x ra b
  ·cases e:H' b with
   | none=>exact absurd e (R'.has y)
   | some o=>exact⟨o,rfl⟩
  ·exact⟨o,k b o (λz=>y (.inl z)) e⟩
 exact⟨⟨λ_ _ _=>rfl,λb o z e=>kp b o (by lia) e,ts,al⟩,h.keep ll (λb o _ z e=>kp b o z e) ts al⟩
theorem VM{vs:List V}{_E:XK}(D:DkF K t)(h:wB t vs H Q _E) :
  kZ K t (qqN Q) (L2.start ["self","hand","rank","run","place","worth"] vs) H:=by
 obtain⟨d,a,lb,f,CC,T,rfl,h,q⟩:=h
 obtain⟨O,k,tb,h⟩:=h
 have go:∀ {kv:List (Key × V)} {cs:List V} {ws:List Int} {la db:List (Key × V)} {en:List V} {g:List Row} {lays:List (Int × List Row)} {P:Pl->Int->Prop} {R:TS},DkO t H lb (dkL t d a f cs ws kv la db en) a.mks a.re g lays P cs CC->(if (!(yd kv (.inl 0)).isSome)=af then zG (zO t.q01 (bc "moved_free") (yK t) [] E0 (zb 0) (zc (zb 1) zi)) { nx:=R (qqN Q),rt:=Q } (L2.start ["self","hand","rank","run","place","worth"] [.ref d,.int 0]) H else R (qqN Q) (L2.start ["self","hand","rank","run","place","worth"] [.ref d,.int 0]) H)->(zo (zQ (tOr (zB (tOp (rI0 λi j=>.bl (decide (i < j))) (zb 1) (tC (.int 0)))) (zB (tOp (rI0 λi j=>.bl (decide (j<=i))) (zb 1) (zN K (zb 0) (bc "hands"))))) Wx zH) (zo (zQ (zB (tOp (Vr af) (zb 1) (zN K (zb 0) (bc "held")))) (zG (zO t.q01 (bc "moved_free") (yK t) [] E0 (zb 0) (zc (zb 1) zi))) zH) R)) (qqN Q) (L2.start ["self","hand","rank","run","place","worth"] [.ref d,.int 0]) H:=λh z=>by
  have e1:H d=aa (.ins t.q01 a.dx (Yi a f)):=h.at (i:=0) rfl
  exact⟨_,rfl,_,_,rfl,rfl,_,rfl,xD (by lia) ⟨_,rfl,yT e1 D.cD D.d1 rfl rfl ⟨_,_,rfl,rfl,_,rfl,xD (by lia) ⟨_,rfl,yT e1 D.cD D.d6 rfl rfl ⟨a.hd,_,rfl,.k (k:=.inl 0) (h.at (i:=5) rfl),_,rfl,z⟩⟩⟩⟩⟩
 unfold kZ
 rcases h with ⟨eT,cs,g,lays,en,h,z⟩ | ⟨C,m,s,ed,eT,⟨j,I,jm,ej⟩,cs,g,lays,en,tp,x,ra,h,ly,le,hk,htp,R,l12⟩ | ⟨tb',eT,cs,g,lays,en,r,no,gi,h,z⟩
 ·exact go h (ve (by rw[zgH];rfl) (qa (h.at (i:=0) rfl) rfl rfl ⟨_,rfl,d,a,lb,f,CC,T,k,tb,rfl,O,.inl ⟨eT,cs,g,lays,en,h,z⟩,q⟩))
 ·refine go h (xD (by rw[zcr];rfl) ?_)
  have e1:H d=aa (.ins t.q01 a.dx (Yi a f)):=h.at (i:=0) rfl
  have OC:W7 C/\C.length<=11:=O.ok C (dA (i:=k) (by rw[ed];exact bt))
  have eh:H a.hd=aa (.dK [(.inl 0,.ref tp)]):=h.at (i:=5) rfl
  have f0:=ly.f0
  refine(yT e1 D.cD D.d6 rfl rfl ⟨_,rfl,a.hd,_,rfl,zeh eh,tp,_,0,_,rfl,rfl,SqT.of htp,rfl,?_⟩)
  refine(yT e1 D.cD D.d6 rfl rfl ⟨_,rfl,a.hd,_,rfl,zeh eh,tp,_,1,_,rfl,rfl,SqT.of htp,rfl,?_⟩)
  refine(qa R.ix rfl rfl ⟨x,ra,C,s,rfl,R,λH2 s2=>⟨_,rfl,?_⟩⟩)
  have h2:=h.same rfl s2
  have R2:=R.same s2
  have e2:=s2 _ _ e1
  cases ho:yp C s with
  | true =>
   rw[QW ho,cz] at eT
   refine ve rfl ?_
   refine(yT e2 D.cD D.d6 rfl rfl ⟨a.hd,rfl,.inl ⟨_,.inl (s2 _ _ eh)⟩,_,rfl,_,.inl 0,_,s2 _ _ eh,rfl,zcr,?_⟩)
   rw[show xj [((.inl 0:Key),V.ref tp)] (.inl 0)=[] by simp[xj]]
   have h3:=h2.put (i:=5) (o':=.dK []) rfl rfl (by lia)
   have F3':=h2.fput (i:=5) (o':=.dK []) rfl (by lia)
   have k3:∀b o,lb b=12->H2 b=aa o->upd H2 a.hd (.dK []) b=aa o:=λb o z e=>by rw[zk (λy=>by rw[y,h2.lb_ (i:=5) rfl] at z;cases z)];exact e
   have R3:=R2.lab l12 k3 F3'.ts
   generalize upd H2 a.hd (.dK [])=H3 at *
   have F3:=(Fr.same s2).trans F3'
   have h3:DkO t H3 lb (dkL t d a f cs (jZ f (k + 1) CC.length) [] [] [] en) a.mks a.re g lays noP cs CC:=h3
   have l2:=I.ok.l2
   have l3:=I.ok.l3
   have jl:j<=11:=by lia
   refine(yT (h3.at (i:=0) rfl) D.cD D.d8 rfl rfl ⟨a.jb,_,_,rfl,h3.at (i:=2) rfl,rfl,_,rfl,qa R3.ix rfl rfl ⟨x,ra,C,s,rfl,R3,by lia,I.ok.nd,by lia,(λH' z=>by rw[ho] at z;cases z),λr o nl gl out H4 _ s4 hnl hgl _ hr oc hn hg gi=>?_⟩⟩)
   obtain⟨lb4,F4,h4,l14⟩:=h3.relab (N:=λb=>b=nl\/b=gl) 14 (by lia) s4 λb z=>by
    obtain⟨xs,hx,_⟩:=id hn
    obtain⟨ys,hy,_⟩:=id hg
    rcases z with rfl | rfl
    ·exact⟨hnl,_,hx⟩
    ·exact⟨hgl,_,hy⟩
   have hP:PprAt H4 lb4 r s.no out:=⟨o,nl,gl,hr,hn,hg,l14 _ (.inl rfl),l14 _ (.inr rfl)⟩
   have lo:out.length<=s.gi.length:=zd0 gi
   have nt:zgn s.no out:=⟨I.ok.nd,zhb gi,by lia,by lia⟩
   have ll:=ly.ln
   have l5:=O.le
   refine⟨d,a,lb4,f,f + k,cs,_,en,g,lays,CC,r,s.no,out,rfl,h4,by lia,λy hy=>(ly.lo y hy).2,by lia,hP,nt,λH5 lb5 F5 h5=>?_⟩
   refine⟨_,rfl,_,rfl,by show 3<=sizeLine;rw[bT];decide,λp hp=>?_⟩
   have s6:=isV (o:=HO.tup [V.str "lay",V.int 0,V.int (f + k)]) p hp
   subst eT
   refine q _ _ lb5 (F3.trans (F4.trans (F5.trans (Fr.same s6)))) (Vl zg) ⟨O,k,tb,.inr (.inr ⟨J6 tb C,rfl,cs,g,_,en,r,s.no,out,h5.same rfl s6,ly.next ej ho (by lia) gi I,le,hk,hP.fr (F5.trans (Fr.same s6)),nt,λy hy=>?_⟩)⟩
   rw[Js (by lia) λy hy=>(ly.lo y hy).2,ak (Int.lt_irrefl _),ly.tl _ _ (mT _)]
   exact QY j st0 (by lia) y (by rw[ej];exact hy)
  | false =>
   obtain⟨n,rfl⟩:=XA I jm ho
   rw[Xp,ak (by rw[ho];decide),ca] at eT
   refine xD rfl ?_
   refine(qa R2.ix rfl rfl ⟨x,ra,C,s,rfl,R2,OC.1.ok,I.ok.so,λH3 ha s3=>?_,λp q1 H3 ha s3 hq=>?_⟩)
   ·have R3:=R2.same s3
    have ew:ZD C tb s=0:=by unfold ZD;rw[ha]
    refine⟨_,rfl,rfl,_,rfl,ve rfl (qa R3.ix rfl rfl ⟨x,0,j,ra,C,s,rfl,R3,OC.1.ok,I.ok,by lia,λH4 k4 R4=>?_⟩)⟩
    obtain⟨F4,h4⟩:=(h2.same rfl s3).step rfl R3 R4 l12 k4
    rw[<-ew] at R4
    refine⟨_,rfl,_,rfl,by show 3<=sizeLine;rw[bT];decide,λp hp=>?_⟩
    have s6:=isV (o:=HO.tup [V.str "step",V.int 0,V.int (f + k)]) p hp
    subst eT
    exact q _ _ lb ((Fr.same (s2.trans s3)).trans (F4.trans (Fr.same s6))) (by show TlAt _ _ (qV _ C tb s);unfold qV;rw[ha];exact Vl zg) ⟨O,k,tb,.inr (.inl ⟨C,n,jh C tb s,ed,rfl,⟨j + 1,Kd OC.1 I ho (by rw[ew];rfl),by lia,by rw[Zk,ej];rfl⟩,cs,g,lays,en,tp,x,ra,h4.same rfl s6,ly,le,hk,s6 _ _ (F4.ts _ _ (s3 _ _ (s2 _ _ htp))),R4.same s6,l12⟩)⟩
   ·have R3:=R2.same s3
    have h3:=h2.same rfl s3
    have ew:ZD C tb s=tb p:=by unfold ZD;rw[ha]
    obtain⟨_,_,im,_,sn,_⟩:=h3.ms.ins
    refine⟨_,rfl,rfl,_,rfl,xD rfl (yT (s3 _ _ e2) D.cD D.d7 rfl rfl ⟨a.mks,_,_,rfl,im,sn,_,rfl,_,rfl,a.mks,q1,f + k,_,g,lays,p,rfl,h3.ms,by lia,hq,λH4 s4=>?_⟩)⟩
    rw[ly.tl _ _ (mT _)]
    have R4:=R3.same s4
    refine(qa R4.ix rfl rfl ⟨_,rfl,x,tb p,j,ra,C,s,rfl,R4,OC.1.ok,I.ok,by lia,λH5 k5 R5=>?_⟩)
    obtain⟨F5,h5⟩:=(h3.same rfl s4).step rfl R4 R5 l12 k5
    rw[<-ew] at R5
    refine⟨_,rfl,_,rfl,_,rfl,_,rfl,by show 5<=sizeLine;rw[bT];decide,λp' hp=>?_⟩
    have s6:=isV (o:=HO.tup [V.str "read",V.int 0,V.int (f + k),V.ref q1,V.int (tb p)]) p' hp
    subst eT
    exact q _ _ lb ((Fr.same (s2.trans (s3.trans s4))).trans (F5.trans (Fr.same s6))) (by show TlAt _ _ (qV _ C tb s);unfold qV;rw[ha];exact⟨p',[.ref q1,.int (tb p)],rfl,zg,q1,rfl,s6 _ _ (F5.ts _ _ (s4 _ _ hq))⟩) ⟨O,k,tb,.inr (.inl ⟨C,n,jh C tb s,ed,rfl,⟨j + 1,Kd OC.1 I ho (by rw[ew];exact ly.iw p),by lia,by rw[Zk,ej];rfl⟩,cs,g,lays,en,tp,x,ra,h5.same rfl s6,ly,le,hk,s6 _ _ (F5.ts _ _ (s4 _ _ (s3 _ _ (s2 _ _ htp)))),R5.same s6,l12⟩)⟩
 ·exact go h (ve (by rw[zgH];rfl) (qa (h.at (i:=0) rfl) rfl rfl ⟨_,rfl,d,a,lb,f,CC,T,k,tb,rfl,O,.inr ⟨tb',eT,cs,g,lays,en,r,no,gi,h,z⟩,q⟩))
end
section
variable {H':Hp}{lb lb':ac->Nat}{d l:ac}{a:DAd}{cs en xs ys:List V}{CC:List (List Cs)}{C:List Cs}{f:Int}{T:List Tl}{v:V}
theorem DkI.out(h:DkI t H d a lb f CC T)(k:∀b o,lb b≠0->H b=aa o->H' b=aa o)(ts:TSm H H')(al:∀b o,H b=aa o->∃o',H' b=aa o'):DkI t H' d a lb f CC T:=by
 obtain⟨O,i,tb,h⟩:=h
 refine⟨O,i,tb,?_⟩
 rcases h with ⟨eT,cs,g,lays,en,h,z⟩ | ⟨C,m,s,ed,eT,z,cs,g,lays,en,tp,x,ra,h,ly,le,hk,htp,R,l12⟩ | ⟨tb',eT,cs,g,lays,en,r,no,gi,h,ly,le,hk,⟨o,nl,gl,er,⟨xs,hx,px⟩,⟨ys,hy,py⟩,z1,z2⟩,z⟩
 ·exact .inl ⟨eT,cs,g,lays,en,h.keep rfl (λb o z _ e=>k b o z e) ts al,z⟩
 ·exact .inr (.inl ⟨C,m,s,ed,eT,z,cs,g,lays,en,tp,x,ra,h.keep rfl (λb o z _ e=>k b o z e) ts al,ly,le,hk,ts _ _ htp,R.lab l12 (λb o z e=>k b o (by lia) e) ts,l12⟩)
 ·exact .inr (.inr ⟨tb',eT,cs,g,lays,en,r,no,gi,h.keep rfl (λb o z _ e=>k b o z e) ts al,ly,le,hk,⟨o,nl,gl,ts _ _ er,⟨xs,k _ _ (by lia) hx,Paired.mapP px λ_ _ y=>L2.PrAt.tsame y ts⟩,⟨ys,k _ _ (by lia) hy,Paired.mapP py λ_ _ y=>L2.PrAt.tsame y ts⟩,z1,z2⟩,z⟩)
theorem DkI.same(h:DkI t H d a lb f CC T)(s:Same H H'):DkI t H' d a lb f CC T:=h.out (λb o _ e=>s _ _ e) (TSm.of s) λb o e=>⟨o,s _ _ e⟩
theorem DkI.put(h:DkI t H d a lb f CC T)(hl:H l=aa (.lst xs))(z:lb l=0):DkI t (upd H l (.lst ys)) d a lb f CC T:=h.out (λb o y e=>by rw[zk (λw=>y (by rw[w];exact z))];exact e) (vp hl λ_ z=>nomatch z) Vi
theorem DkI.cmp(h:DkI t H d a lb f CC T):H d=aa (.ins t.q01 a.dx (Yi a f))/\∃cs en,H a.cl=aa (.lst cs)/\H a.en=aa (.lst en)/\cs.length=CC.length/\(T=[]/\en.length=cs.length\/T≠[]/\en.length < cs.length):=by
 obtain⟨O,i,tb,h⟩:=h
 rcases h with ⟨eT,cs,g,lays,en,h,ly,le,lk⟩ | ⟨C,m,s,ed,eT,z,cs,g,lays,en,tp,x,ra,h,ly,le,hk,_⟩ | ⟨tb',eT,cs,g,lays,en,r,no,gi,h,ly,le,hk,_⟩
 ·have e:=bF h.cc
  refine⟨h.at (i:=0) rfl,cs,en,h.at (i:=3) rfl,h.at (i:=8) rfl,e,?_⟩
  rcases fo i CC.length with z | z
  ·rw[da z] at eT
   exact .inr ⟨by rw[eT];exact(λy=>nomatch y),by lia⟩
  ·rw[df z] at eT
   exact .inl ⟨eT,by lia⟩
 ·have e:=bF h.cc
  exact⟨h.at (i:=0) rfl,cs,en,h.at (i:=3) rfl,h.at (i:=8) rfl,e,.inr ⟨by rw[eT];exact(λy=>by simp at y),by lia⟩⟩
 ·have e:=bF h.cc
  exact⟨h.at (i:=0) rfl,cs,en,h.at (i:=3) rfl,h.at (i:=8) rfl,e,.inr ⟨by rw[eT];exact(λy=>nomatch y),by lia⟩⟩
theorem TlAt.ts(h:TlAt H v x)(ts:TSm H H'):TlAt H' v x:=by
 obtain⟨w,o,p⟩:=x
 obtain⟨b,xs,e,h1,h2⟩:=h
 refine⟨b,xs,e,ts _ _ h1,?_⟩
 cases p with
 | none=>exact h2
 | some y=>obtain⟨q,e,h3⟩:=h2;exact⟨q,e,ts _ _ h3⟩
theorem xJ(h:Paired (TlAt H) xs T)(ts:TSm H H'):Paired (TlAt H') xs T:=Paired.mapP h λ_ _ z=>TlAt.ts z ts
theorem Fr.up(h:Fr H H' lb lb')(hl:H' l=aa (.lst xs))(hn:H l=ah):Fr H (upd H' l (.lst ys)) lb lb':=⟨h.ex,λb o z e=>by rw[zk (λy=>by rw[y,hn] at e;cases e)];exact h.kp b o z e,λb zs e=>vp hl (by lia) _ _ (h.ts b zs e),λb o e=>let ⟨o',e'⟩:=h.al b o e;Vi b o' e'⟩
structure FnI(t:Adr)(H:Hp)(d l:ac)(a:DAd)(lb:ac->Nat)(f:Int)(CC:List (List Cs))(T:List Tl)(i:Nat)(H':Hp)(lb':ac->Nat)(xs:List V):Prop where
 fr:Fr H H' lb lb'
 hn:H l=ah
 hl:H' l=aa (.lst xs)
 l0:lb' l=0
 pd:Paired (TlAt H') xs (T.take i)
 di:DkI t H' d a lb' f CC (T.drop i)
theorem FnI.next{H2:Hp}{lb2:ac->Nat}(h:FnI t H d l a lb f CC T i H' lb' xs)(F:Fr H' H2 lb' lb2)(tv:TlAt H2 v ((T.drop i).headD rsT))(dk:DkI t H2 d a lb2 f CC (T.drop i).tail)(hi:i < T.length):H2 l=aa (.lst xs)/\FnI t H d l a lb f CC T (i + 1) (upd H2 l (.lst (xs ++ [v]))) lb2 (xs ++ [v]):=by
 have hl2:=F.kp _ _ (.inl h.l0) h.hl
 have l2:lb2 l=0:=(F.ex _ _ h.hl).trans h.l0
 have ts:TSm H2 (upd H2 l (.lst (xs ++ [v]))):=vp hl2 λ_ z=>nomatch z
 have e:=da hi
 rw[e] at tv dk
 refine⟨hl2,(h.fr.trans F).up hl2 h.hn,h.hn,zg,l2,?_,dk.put hl2 l2⟩
 rw[dq,bb hi]
 exact Paired.snocP (xJ (xJ h.pd F.ts) ts) (TlAt.ts tv ts)
theorem Wh{vs:List V}{_E:XK}(D:DkF K t)(h:v4 t vs H Q _E) :
  Zi K t (qqN Q) (L2.start ["self","told"] vs) H:=by
 obtain⟨d,a,lb,f,CC,T,rfl,h,hT,q⟩:=h
 refine⟨by lia,λl hl=>?_⟩
 have s0:=isV (o:=HO.lst []) l hl
 have l0:lb l=0:=by
  obtain⟨O,i,tb,h⟩:=h
  rcases h with ⟨_,cs,g,lays,en,h,_⟩ | ⟨C,m,s,_,_,_,cs,g,lays,en,tp,x,ra,h,_⟩ | ⟨tb',_,cs,g,lays,en,r,no,gi,h,_⟩
  ·exact h.out hl
  ·exact h.out hl
  ·exact h.out hl
 refine⟨λm σ H'=>∃i lb' xs,m=T.length - i/\i<=T.length/\σ=[aa (.ref d),aa (.ref l)]/\FnI t H d l a lb f CC T i H' lb' xs,⟨_,0,lb,[],rfl,bW _,rfl,Fr.same s0,hl,zg,l0,.nil,h.same s0⟩,?_⟩
 rintro m σ H1 ⟨i,lb1,xs,rfl,hi,rfl,I⟩
 obtain⟨e1,cs,en,ec,ee,_,hc⟩:=I.di.cmp
 refine(qa e1 rfl rfl ⟨d,_,a,f,en,rfl,e1,ee,qa e1 rfl rfl ⟨d,_,a,f,cs,rfl,e1,ec,_,_,rfl,rfl,_,rfl,?_⟩⟩)
 rcases hc with ⟨z,eq⟩ | ⟨z,lt⟩
 ·refine xD (decide_eq_false (by lia)) ⟨_,rfl,?_⟩
  have ei:T.take i=T:=cp (List.drop_eq_nil_iff.mp z)
  have I1:=I.pd
  have I2:=I.di
  rw[ei] at I1
  rw[z] at I2
  exact q l xs H1 lb1 I.fr I.l0 I.hl I1 I2
 ·have lt':i < T.length:=cS λy=>z (df (by lia))
  refine ve (decide_eq_true (by lia)) ⟨λσ' H'=>∃lb' xs,σ'=[aa (.ref d),aa (.ref l)]/\FnI t H d l a lb f CC T (i + 1) H' lb' xs,λσ' H' ⟨lb',xs,e,z⟩=>⟨T.length - (i + 1),by lia,i + 1,lb',xs,rfl,lt',e,z⟩,?_⟩
  refine⟨_,rfl,.inl ⟨rfl,_,SqL.of I.hl⟩,qa e1 rfl rfl ⟨_,rfl,.ref l,xs.length,rfl,.inl ⟨_,SqL.of I.hl,rfl⟩,yT e1 D.cD D.d1 rfl rfl ⟨_,_,rfl,rfl,by show (0:Int) < 1;decide,d,a,lb1,f,CC,T.drop i,congrArg (λz=>[V.ref d,V.int z]) (Int.emod_one _),I.di,λv H2 lb2 F2 tv I2=>?_⟩⟩⟩
  obtain⟨hl2,N⟩:=I.next F2 tv I2 lt'
  have:=bF I.pd
  rw[cH] at this
  exact⟨l,xs,v,rfl,rfl,hl2,bY (show xs.length<=1000 by lia) (by rw[bT];decide),lb2,_,rfl,N⟩
end
structure PO(H0:Hp)(x w:ac)(ox:HO)(H:Hp)(lb:ac->Nat)(F:ac->Prop)(E:List (Nat × ac × HO)):Prop where
 hx:H x=aa ox
 lx:lb x=1
 ob:∀e∈E,1 < e.1/\H e.2.1=aa e.2.2/\lb e.2.1=e.1
 ow:∀b,lb b≠0->∃o,H b=aa o
 kp:Jn x H0 H
 fr:∀b,lb b≠0->b=x\/b=w\/H0 b=ah
 f10:∀b,lb b=10↔F b
section
variable {H0 H':Hp}{x w c:ac}{ox o:HO}{lb:ac->Nat}{E:List (Nat × ac × HO)}{n:Nat}{N F:ac->Prop}
theorem PO.put(h:PO H0 x w ox H lb F E)(o:HO):PO H0 x w o (upd H x o) lb F E:=by
 refine⟨zg,h.lx,λe he=>?_,λb z=>?_,λb u z e=>by rw[zk z];exact h.kp b u z e,h.fr,h.f10⟩
 ·obtain⟨h1,h2,h3⟩:=h.ob e he
  exact⟨h1,by rw[zk (λy=>by rw[y,h.lx] at h3;lia)];exact h2,h3⟩
 ·obtain⟨u,e⟩:=h.ow b z
  exact Vi b u e
theorem PO.same(h:PO H0 x w ox H lb F E)(s:Same H H'):PO H0 x w ox H' lb F E:=⟨s _ _ h.hx,h.lx,λe he=>let ⟨h1,h2,h3⟩:=h.ob e he;⟨h1,s _ _ h2,h3⟩,λb z=>let ⟨o,e⟩:=h.ow b z;⟨o,s _ _ e⟩,λb o z e=>s _ _ (h.kp b o z e),h.fr,h.f10⟩
theorem PO.l0(h:PO H0 x w ox H lb F E)(hc:H c=ah):lb c=0/\H0 c=ah:=by
 have nx:c≠x:=λz=>by rw[z,h.hx] at hc;cases hc
 refine⟨cS (λz=>by obtain⟨o,e⟩:=h.ow c z;rw[hc] at e;cases e),?_⟩
 cases e:H0 c with
 | none=>rfl
 | some u=>have:=h.kp c u nx e;rw[hc] at this;cases this
open Classical in
theorem PO.lab{F':ac->Prop}(h:PO H0 x w ox H lb F E)(n:Nat)(hF:∀b,(N b/\n=10\/F b)↔F' b)(hN:∀b,N b->lb b=0/\H0 b=ah/\∃o,H b=aa o):∃lb',PO H0 x w ox H lb' F' E/\(∀b,N b->lb' b=n)/\∀b,¬ N b->lb' b=lb b:=by
 have e0:∀b,lb b≠0->¬ N b:=λb z y=>z (hN b y).1
 refine⟨λb=>if N b then n else lb b,⟨h.hx,(ak (e0 x (by rw[h.lx];decide))).trans h.lx,λe he=>?_,λb z=>?_,h.kp,λb z=>?_,λb=>?_⟩,λb z=>ao z,λb z=>ak z⟩
 ·obtain⟨h1,h2,h3⟩:=h.ob e he
  by_cases y:N e.2.1
  ·have:=(hN _ y).1;lia
  ·exact⟨h1,h2,(ak y).trans h3⟩
 ·by_cases y:N b
  ·exact(hN b y).2.2
  ·exact h.ow b (λw=>z ((ak y).trans w))
 ·by_cases y:N b
  ·exact .inr (.inr (hN b y).2.1)
  ·exact h.fr b (λw=>z ((ak y).trans w))
 ·rw[<-hF,<-h.f10]
  by_cases y:N b
  ·rw[ao y,(hN b y).1];simp[y]
  ·rw[ak y];simp[y]
theorem PO.new(h:PO H0 x w ox H lb F E)(n:Nat)(n1:1 < n)(n2:n≠10)(hc:H c=ah):∃lb',PO H0 x w ox (upd H c o) lb' F ((n,c,o) :: E):=by
 obtain⟨l0,f0⟩:=h.l0 hc
 obtain⟨lb',h',e1,e2⟩:=(h.same (isV c hc (o:=o))).lab (N:=λb=>b=c) n (λb=>⟨λz=>z.resolve_left λy=>n2 y.2,.inr⟩) λb z=>by rw[z];exact⟨l0,f0,_,zg⟩
 exact⟨lb',h'.hx,h'.lx,λe he=>by
  rcases bE.mp he with rfl | he
  ·exact⟨n1,zg,e1 c rfl⟩
  ·exact h'.ob e he,h'.ow,h'.kp,h'.fr,h'.f10⟩
open Classical in
theorem PO.init(h:H0 x=aa o)(hw:∃u,H0 w=aa u):∃lb,PO H0 x w o H0 lb (λ_=>False) []/\(w≠x->lb w=2)/\∀b,b≠x->b≠w->lb b=0:=by
 refine⟨λb=>if b=x then 1 else if b=w then 2 else 0,⟨h,ao rfl,(λe he=>nomatch he),λb z=>?_,λb u _ e=>e,λb z=>?_,λb=>?_⟩,λz=>(ak z).trans (ao rfl),λb z y=>(ak z).trans (ak y)⟩
 ·by_cases y:b=x
  ·rw[y];exact⟨_,h⟩
  ·by_cases v:b=w
   ·rw[v];exact hw
   ·rw[ak y,ak v] at z;exact absurd rfl z
 ·by_cases y:b=x
  ·exact .inl y
  ·by_cases v:b=w
   ·exact .inr (.inl v)
   ·rw[ak y,ak v] at z;exact absurd rfl z
 ·by_cases y:b=x
  ·rw[ao y];simp
  ·by_cases v:b=w
   ·rw[ak y,ao v];simp
   ·rw[ak y,ak v];simp
section
variable {C dx:ac}{fs:List (Str × V)}{fl:Str}{y:V}{σ:St}{D:Wt}{k:Nat}
theorem PO.st(P:PO H0 x w (.ins C dx fs) H lb F E)(h0:σ[0]?=aa (aa (.ref x)))(c:Cls K C)(n:NoAttr K C fl)(hl:fs.length < 1000)(q:∀H',PO H0 x w (.ins C dx (xY fl y fs)) H' lb F E->D.nx σ H'):zb 0 σ H λx' H2=>∃a C dx fs,x'=.ref a/\H2 a=aa (.ins C dx fs)/\Cls K C/\NoAttr K C fl/\fs.length < 1000/\D.nx σ (upd H2 a (.ins C dx (xY fl y fs))):=⟨_,h0,x,C,dx,fs,rfl,P.hx,c,n,hl,q _ (P.put _)⟩
theorem PO.stM(M:MkAt t H m F g [])(P:PO H0 x w (.ins C dx fs) H lb F E)(h0:σ[0]?=aa (aa (.ref x)))(c:Cls K C)(n:NoAttr K C fl)(hl:fs.length < 1000)(q:∀H',PO H0 x w (.ins C dx (xY fl y fs)) H' lb F E->MkAt t H' m F g []->D.nx σ H'):zb 0 σ H λx' H2=>∃a C dx fs,x'=.ref a/\H2 a=aa (.ins C dx fs)/\Cls K C/\NoAttr K C fl/\fs.length < 1000/\D.nx σ (upd H2 a (.ins C dx (xY fl y fs))):=⟨_,h0,x,C,dx,fs,rfl,P.hx,c,n,hl,q _ (P.put _) (M.keep (λb o fb e=>by rw[zk (λz=>by have:=(P.f10 b).mpr fb;rw[z,P.lx] at this;cases this)];exact e) (vp P.hx λ_ z=>nomatch z))⟩
theorem PO.sv(P:PO H0 x w (.ins C dx fs) H lb F E)(h0:σ[0]?=aa (aa (.ref x)))(h1:σ[k]?=aa (aa y))(c:Cls K C)(n:NoAttr K C fl)(hl:fs.length < 1000)(q:∀H',PO H0 x w (.ins C dx (xY fl y fs)) H' lb F E->D.nx σ H'):xK K (zb 0) (zb k) fl D σ H:=⟨_,h1,P.st h0 c n hl q⟩
theorem PO.so(o:HO)(m:Nat)(m1:1 < m)(m2:m≠10)(P:PO H0 x w (.ins C dx fs) H lb F E)(h0:σ[0]?=aa (aa (.ref x)))(c:Cls K C)(n:NoAttr K C fl)(hl:fs.length < 1000)(q:∀c H' lb',PO H0 x w (.ins C dx (xY fl (.ref c) fs)) H' lb' F ((m,c,o) :: E)->D.nx σ H')(p:ac)(hp:H p=ah):zb 0 σ (upd H p o) λx' H2=>∃a C dx fs,x'=.ref a/\H2 a=aa (.ins C dx fs)/\Cls K C/\NoAttr K C fl/\fs.length < 1000/\D.nx σ (upd H2 a (.ins C dx (xY fl (.ref p) fs))):=by
 obtain⟨lb',P'⟩:=P.new (o:=o) m m1 m2 hp
 exact P'.st h0 c n hl λH'=>q p H' lb'
end
theorem VN{l dx:ac}{xs:List V}{C:List Cs}(F:RnF K t)(h1:H x=aa (.ins t.q00 dx []))(h2:H l=aa (.lst xs))(h3:Paired (CsAt H) xs C)(q:∀H' a,Jn x H H'->RnAt t H' x a C st0->(∀b,OwA x a b->b=x\/H b=ah)->Q .non H') :
  q8 K t (qqN Q) (L2.start ["self","code"] [.ref x,.ref l]) H:=by
 obtain⟨lb,P,_⟩:=PO.init h1 ⟨_,h1⟩
 unfold q8 zo
 refine⟨_,rfl,l,xs,rfl,.inl (SqL.of h2),P.so (.lst xs) 2 (by lia) (by lia) rfl F.cl F.n1 (by lia) λco H1 lb1 P=>P.st rfl F.cl F.n2 (by show 1 < 1000;decide) λH2 P=>P.st rfl F.cl F.n3 (by show 2 < 1000;decide) λH3 P=>P.so (.dK []) 3 (by lia) (by lia) rfl F.cl F.n4 (by show 3 < 1000;decide) λsl H4 lb4 P=>P.so (.dT []) 4 (by lia) (by lia) rfl F.cl F.n5 (by show 4 < 1000;decide) λgi H5 lb5 P=>P.so (.dT []) 5 (by lia) (by lia) rfl F.cl F.n6 (by show 5 < 1000;decide) λno H6 lb6 P=>⟨by lia,P.so (.lst []) 6 (by lia) (by lia) rfl F.cl F.n7 (by show 6 < 1000;decide) λsa H7 lb7 P=>?_⟩⟩
 have ob:∀n c o,(n,c,o)∈_->H7 c=aa o/\lb7 c=n:=λn c o z=>(P.ob (n,c,o) z).2
 have o2:=ob 2 co _ (.tail _ (.tail _ (.tail _ (.tail _ (.head _)))))
 have o3:=ob 3 sl _ (.tail _ (.tail _ (.tail _ (.head _))))
 have o4:=ob 4 gi _ (.tail _ (.tail _ (.head _)))
 have o5:=ob 5 no _ (.tail _ (.head _))
 have o6:=ob 6 sa _ (.head _)
 have nx:∀ {n:Nat} {b:ac},lb7 b=n + 2->b=x\/H b=ah:=λ{n b} z=>(P.fr b (by lia)).imp id λy=>y.elim (λy=>by rw[y,P.lx] at z;lia) id
 refine q H7 ⟨dx,co,sl,gi,no,sa⟩ P.kp ⟨P.hx,⟨xs,o2.1,xI (λb zs e=>P.kp _ _ (zT e h1 (by lia)) e) h3⟩,o3.1,o4.1,o5.1,o6.1,λz=>by rw[show gi=no from z,o5.2] at o4;exact absurd o4.2 (by lia),λz=>by rw[show co=sa from z,o6.2] at o2;exact absurd o2.2 (by lia)⟩ λb z=>?_
 rcases z with (z | z | z | z | z) | z
 ·exact .inl z
 ·rw[z];exact nx o3.2
 ·rw[z];exact nx o4.2
 ·rw[z];exact nx o5.2
 ·rw[z];exact nx o6.2
 ·rw[z];exact nx o2.2
theorem VO{vs:List V}{_E:XK}(D:DkF K t)(h:kR t vs H Q _E) :
  kT K t (qqN Q) (L2.start ["self","makes"] vs) H:=by
 obtain⟨x,m,dx,rfl,h1,q⟩:=h
 obtain⟨lb,P,_⟩:=PO.init h1 ⟨_,h1⟩
 unfold kT zo
 refine P.sv rfl rfl D.cJ D.j1 (by lia) λH1 P=>P.so (.dK []) 7 (by lia) (by lia) rfl D.cJ D.j2 (by show 1 < 1000;decide) λla H2 lb2 P=>P.so (.dT []) 11 (by lia) (by lia) rfl D.cJ D.j3 (by show 2 < 1000;decide) λre H3 lb3 P=>P.so (.dK []) 8 (by lia) (by lia) rfl D.cJ D.j4 (by show 3 < 1000;decide) λdb H7 lb6 P7=>?_
 have go:∀n c o,(n,c,o)∈[(8,db,HO.dK []),(11,re,.dT []),(7,la,.dK [])]->H7 c=aa o/\H c=ah/\lb6 c=n:=λn c o z=>by
  obtain⟨h1,h2,h3⟩:=P7.ob _ z
  have h1:1 < n:=h1
  have h3:lb6 c=n:=h3
  rcases P7.fr c (by lia) with y | y | y
  ·rw[y,P7.lx] at h3;lia
  ·rw[y,P7.lx] at h3;lia
  ·exact⟨h2,y,h3⟩
 obtain⟨a1,a2,a3⟩:=go 7 la _ (.tail _ (.tail _ (.head _)))
 obtain⟨b1,b2,b3⟩:=go 11 re _ (.tail _ (.head _))
 obtain⟨c1,c2,c3⟩:=go 8 db _ (.head _)
 exact q _ la re db P7.kp P7.hx a1 b1 c1 a2 b2 c2 (λz=>by rw[z,c3] at a3;cases a3)
theorem VP{vs:List V}{_E:XK}(D:DkF K t)(h:wz t vs H Q _E) :
  kU K t (qqN Q) (L2.start ["self","table","hands","way","first"] vs) H:=by
 obtain⟨x,l,w,dx,dw,f,g,rfl,h1,h2,h3,h4,nw,q⟩:=h
 obtain⟨lb,P,lw,_⟩:=PO.init (w:=w) h1 ⟨_,h4⟩
 have P:PO H x w _ H lb (λ_=>False) [(2,w,.ins t.q09 dw [])]:=⟨P.hx,P.lx,λe he=>by cases bI.mp he;exact⟨by show 1 < 2;decide,h4,lw nw⟩,P.ow,P.kp,P.fr,P.f10⟩
 obtain⟨xs,hx,px⟩:=h2
 have nlx:l≠x:=zT hx h1 (by lia)
 unfold kU zo
 refine P.sv rfl rfl D.cD D.d1 (by lia) λH1 P=>P.sv rfl rfl D.cD D.d2 (by show 1 < 1000;decide) λH2 P=>P.sv rfl rfl D.cD D.d3 (by show 2 < 1000;decide) λH3 P=>⟨by lia,P.so (.lst []) 4 (by lia) (by lia) rfl D.cD D.d4 (by show 3 < 1000;decide) λcl H4 lb4 P=>⟨by lia,P.so (.lst []) 5 (by lia) (by lia) rfl D.cD D.d5 (by show 4 < 1000;decide) λwl H5 lb5 P=>P.so (.dK []) 6 (by lia) (by lia) rfl D.cD D.d6 (by show 5 < 1000;decide) λhd H9 lb9 P=>?_⟩⟩
 refine⟨_,rfl,?_⟩
 intro m dm hm hdm nm
 have sm:Same H9 (upd (upd H9 dm (HO.own m)) m (HO.ins t.q02 dm [])):=λb o e=>by rw[zk (zC e hm),zk (zC e hdm)];exact e
 have hl9:LsAt H9 l g:=⟨xs,P.kp _ _ nlx hx,Paired.mapP px λ_ _ ⟨r,p,e,e1,e2⟩=>⟨r,p,e,P.kp _ _ (zT e1 h1 (by lia)) e1,P.kp _ _ (zT e2 h1 (by lia)) e2⟩⟩
 refine⟨m,l,dm,g,rfl,zg,hl9.same sm,h3,λH10 F k10 M10 f10=>⟨rfl,?_⟩⟩
 have s10:Same H9 H10:=λb o e=>k10 b o (zC e hm) (sm _ _ e)
 have fF:∀b,F b->H9 b=ah:=λb z=>by
  rcases f10 b z with y | y
  ·rw[y];exact hm
  ·cases e:H9 b with
   | none=>rfl
   | some o=>have:=sm b o e;rw[y] at this;cases this
 obtain⟨lb10,P',e10,_⟩:=(P.same s10).lab (N:=F) (F':=F) 10 (λb=>⟨λz=>z.elim (λy=>y.1) c9,λz=>.inl ⟨z,rfl⟩⟩) λb z=>⟨(P.l0 (fF b z)).1,(P.l0 (fF b z)).2,M10.own b z⟩
 replace P:=P'
 clear P' k10 f10 s10 sm hm hdm nm hl9 fF
 refine P.stM M10 rfl D.cD D.d7 (by show 6 < 1000;decide) λH11 P M11=>?_
 refine⟨_,rfl,x,_,_,_,_,rfl,P.hx,D.cD,D.d7,rfl,?_⟩
 intro jb dj hj hdj nj
 have sj:Same H11 (upd (upd H11 dj (HO.own jb)) jb (HO.ins t.q03 dj [])):=λb o e=>by rw[zk (zC e hj),zk (zC e hdj)];exact e
 refine⟨jb,m,dj,rfl,zg,λH12 la re db k12 j12 l12 r12 d12 nl nr nd ld=>⟨rfl,?_⟩⟩
 have s12:Same H11 H12:=λb o e=>k12 b o (zC e hj) (sj _ _ e)
 have fr:∀b,upd (upd H11 dj (HO.own jb)) jb (HO.ins t.q03 dj []) b=ah->H11 b=ah:=λb z=>by
  cases e:H11 b with
  | none=>rfl
  | some o=>have:=sj b o e;rw[z] at this;cases this
 have e0:∀b,H11 b=ah->_:=λb z=>P.l0 z
 have M12:=M11.same s12
 have Q0:=P.same s12
 obtain⟨lb1,Q1,a1,b1⟩:=Q0.lab (N:=λb=>b=jb) (F':=F) 3 (λb=>⟨λz=>z.resolve_left (λy=>nomatch y.2),.inr⟩) λb z=>by rw[z];exact⟨(e0 _ hj).1,(e0 _ hj).2,_,j12⟩
 have n1:la≠jb:=λz=>by rw[z,zg] at nl;cases nl
 have n2:re≠jb:=λz=>by rw[z,zg] at nr;cases nr
 have n3:db≠jb:=λz=>by rw[z,zg] at nd;cases nd
 have n4:re≠la:=zT r12 l12 (by lia)
 have n5:db≠re:=zT d12 r12 (by lia)
 obtain⟨lb2,Q2,a2,b2⟩:=Q1.lab (N:=λb=>b=la) (F':=F) 7 (λb=>⟨λz=>z.resolve_left (λy=>nomatch y.2),.inr⟩) λb z=>by rw[z,b1 _ n1];exact⟨(e0 _ (fr _ nl)).1,(e0 _ (fr _ nl)).2,_,l12⟩
 obtain⟨lb3,Q3,a3,b3⟩:=Q2.lab (N:=λb=>b=re) (F':=F) 11 (λb=>⟨λz=>z.resolve_left (λy=>nomatch y.2),.inr⟩) λb z=>by rw[z,b2 _ n4,b1 _ n2];exact⟨(e0 _ (fr _ nr)).1,(e0 _ (fr _ nr)).2,_,r12⟩
 obtain⟨lb4,Q4,a4,b4⟩:=Q3.lab (N:=λb=>b=db) (F':=F) 8 (λb=>⟨λz=>z.resolve_left (λy=>nomatch y.2),.inr⟩) λb z=>by rw[z,b3 _ n5,b2 _ ld.symm,b1 _ n3];exact⟨(e0 _ (fr _ nd)).1,(e0 _ (fr _ nd)).2,_,d12⟩
 have y1:lb4 jb=3:=by rw[b4 _ n3.symm,b3 _ n2.symm,b2 _ n1.symm,a1 _ rfl]
 have y2:lb4 la=7:=by rw[b4 _ ld,b3 _ n4.symm,a2 _ rfl]
 have y3:lb4 re=11:=by rw[b4 _ n5.symm,a3 _ rfl]
 have y4:=a4 _ rfl
 have P:PO H x w _ H12 lb4 F [(3,jb,.ins t.q03 dj (X9 m la re db)),(7,la,.dK []),(11,re,.dT []),(8,db,.dK []),(6,hd,.dK []),(5,wl,.lst []),(4,cl,.lst []),(2,w,.ins t.q09 dw [])]:=⟨Q4.hx,Q4.lx,λe he=>by
  rcases bE.mp he with rfl | he
  ·exact⟨by show 1 < 3;decide,j12,y1⟩
  rcases bE.mp he with rfl | he
  ·exact⟨by show 1 < 7;decide,l12,y2⟩
  rcases bE.mp he with rfl | he
  ·exact⟨by show 1 < 11;decide,r12,y3⟩
  rcases bE.mp he with rfl | he
  ·exact⟨by show 1 < 8;decide,d12,y4⟩
  exact Q4.ob e he,Q4.ow,Q4.kp,Q4.fr,Q4.f10⟩
 clear Q0 Q1 Q2 Q3 Q4 a1 a2 a3 a4 b1 b2 b3 b4 y1 y2 y3 y4 n1 n2 n3 n4 n5 s12 sj k12 e0 fr nl nr nd ld hj hdj nj j12 l12 r12 d12
 refine P.stM M12 rfl D.cD D.d8 (by show 7 < 1000;decide) λH13 P M13=>?_
 refine⟨by lia,λen hc=>?_⟩
 have M14:=M13.same (isV en hc (o:=.lst []))
 obtain⟨lb5,P'⟩:=P.new (o:=.lst []) 9 (by lia) (by lia) hc
 replace P:=P'
 clear P'
 generalize upd H13 en (.lst [])=H14 at *
 refine P.stM M14 rfl D.cD D.d9 (by show 8 < 1000;decide) λH15 P M15=>?_
 have eF:(λb=>lb5 b=10)=F:=funext λb=>propext (P.f10 b)
 have ob:∀n c o,(n,c,o)∈_->H15 c=aa o/\lb5 c=n:=λn c o z=>(P.ob (n,c,o) z).2
 obtain⟨r1,r2⟩:=ob 11 re _ (.tail _ (.tail _ (.tail _ (.head _))))
 refine q H15 ⟨dx,w,dw,cl,wl,hd,m,jb,dj,en,la,re,db⟩ lb5 P.kp (λb o n1 n2 e=>cS λz=>by rcases P.fr b z with y | y | y;exact n1 y;exact n2 y;rw[y] at e;cases e) ⟨λi b o e=>?_,by rw[eF];exact M15,⟨[],⟨r1,ef,ef,(by lia),λ_ _ z=>z.elim⟩⟩,r2,.nil,P.ow⟩
 match i,e with
 | 0,e=>cases e;exact⟨P.hx,P.lx⟩
 | 1,e=>cases e;exact ob 2 _ _ (.tail _ (.tail _ (.tail _ (.tail _ (.tail _ (.tail _ (.tail _ (.tail _ (.head _)))))))))
 | 2,e=>cases e;exact ob 3 _ _ (.tail _ (.head _))
 | 3,e=>cases e;exact ob 4 _ _ (.tail _ (.tail _ (.tail _ (.tail _ (.tail _ (.tail _ (.tail _ (.head _))))))))
 | 4,e=>cases e;exact ob 5 _ _ (.tail _ (.tail _ (.tail _ (.tail _ (.tail _ (.tail _ (.head _)))))))
 | 5,e=>cases e;exact ob 6 _ _ (.tail _ (.tail _ (.tail _ (.tail _ (.tail _ (.head _))))))
 | 6,e=>cases e;exact ob 7 _ _ (.tail _ (.tail _ (.head _)))
 | 7,e=>cases e;exact ob 8 _ _ (.tail _ (.tail _ (.tail _ (.tail _ (.head _)))))
 | 8,e=>cases e;exact ob 9 _ _ (.head _)
end
theorem Q6{p:Pl}:∀a b:List Row,zx (a ++ b) p=(zx b p).or (zx a p)
 | [],b=>by rw[cz,zx,rh]
 | r :: a,b=>by rw[ca,zx,Q6 a b,zx,Option.or_assoc]
theorem zgI(T:YH (tab ++ gi) out)(G:qQ s gi)(e:Xn C (vj tab) j st0=s)(ho:yp C s=af)(hj:j<=C.length):vj out=J6 (vj tab) C:=by
 funext p
 unfold J6 vj
 rw[zeW T p]
 have en:giS (zdQ C (vj tab))=gi:=by rw[zeg e ho hj];exact zef G
 unfold vj at en
 rw[en,Q6]
 cases zx gi p <;> rfl
section
variable {cl tl l x:ac}{ra:RAd}{f r:Int}{CC:List (List Cs)}{C:List Cs}{tab:List Row}{H0 H':Hp}{xs ys:List V}{T P:List Tl}{tb:Pl->Int}{s s':RSt}{i:Nat}{v:V}
theorem zfM(R:RnAt t H x ra C s)(k:Kp x ra H H'):TSm H H':=λb zs e=>k b _ (λy=>by
 rcases y with y | y | y | y | y
 ·rw[y,R.ix] at e;cases e
 ·rw[y,R.hs] at e;cases e
 ·rw[y,R.hg] at e;cases e
 ·rw[y,R.hn] at e;cases e
 ·rw[y,R.ha] at e;cases e) e
structure RwL(H0 H:Hp)(l:ac)(xs:List V)(P:List Tl):Prop where
 hn:H0 l=ah
 hl:H l=aa (.lst xs)
 pd:Paired (TlAt H) xs P
theorem RwL.same(h:RwL H0 H l xs P)(s:Same H H'):RwL H0 H' l xs P:=⟨h.hn,s _ _ h.hl,xJ h.pd (TSm.of s)⟩
theorem RwL.add(h:RwL H0 H l xs P)(tv:TlAt H v y):RwL H0 (upd H l (.lst (xs ++ [v]))) l (xs ++ [v]) (P ++ [y]):=
 have ts:TSm H (upd H l (.lst (xs ++ [v]))):=vp h.hl λ_ z=>nomatch z
 ⟨h.hn,zg,Paired.snocP (xJ h.pd ts) (TlAt.ts tv ts)⟩
structure DuS(t:Adr)(H0 H:Hp)(x:ac)(ra:RAd)(C:List Cs)(tb:Pl->Int)(r:Int)(P0:List Tl)(l:ac)(i:Nat)(s:RSt)(xs:List V):Prop where
 S:FdS t H0 H x ra C tb i s
 lw:∃P,RwL H0 H l xs (P0 ++ P)/\Xp r C tb C.length st0=P ++ Xp r C tb (C.length - i) s
 no:¬ OwA x ra l
theorem DuS.same(h:DuS t H0 H x ra C tb r P0 l i s xs)(k:Same H H'):DuS t H0 H' x ra C tb r P0 l i s xs:=⟨h.S.same k,let ⟨P,a,b⟩:=h.lw;⟨P,a.same k,b⟩,h.no⟩
theorem DuS.len(h:DuS t H0 H x ra C tb r P0 l i s xs)(hC:C.length<=11):xs.length<=P0.length + 11:=by
 obtain⟨P,a,b⟩:=h.lw
 have e:=bF a.pd
 have st:∀m s,(Xp r C tb m s).length<=m:=λm=>by
  induction m with
  | zero=>intro s;exact bh _
  | succ m ih =>
   intro s
   rw[Xp]
   split
   ·exact bW _
   ·rw[bR];have:=ih (jh C tb s);lia
 have:=st C.length st0
 rw[b,bn] at this
 rw[e,bn]
 lia
theorem DuS.step(h:DuS t H0 H x ra C tb r P0 l i s xs)(O:W7 C)(ow:∀b,OwA x ra b->H0 b=ah)(ho:yp C s=am)(hw:inW (ZD C tb s)=af)(tv:TlAt H v (qV r C tb s))(k:Kp x ra (upd H l (.lst (xs ++ [v]))) H')(R':RnAt t H' x ra C (xU C (ZD C tb s) s)):DuS t H0 H' x ra C tb r P0 l (i + 1) (jh C tb s) (xs ++ [v]):=by
 obtain⟨P,a,b⟩:=h.lw
 have S1:FdS t H0 (upd H l (.lst (xs ++ [v]))) x ra C tb i s:=⟨y9 h.S.sm a.hn,h.S.R.off h.no a.hl,h.S.I,h.S.rc,h.S.fw,h.S.le⟩
 have a2:=a.add tv
 refine⟨S1.step O ow ho hw k R',⟨P ++ [qV r C tb s],⟨a.hn,k _ _ (λz=>h.no (.inl z)) a2.hl,by rw[<-fC];exact xJ a2.pd (zfM S1.R k)⟩,?_⟩,h.no⟩
 obtain⟨n,e⟩:=XA (m:=C.length - i) h.S.I (by have:=h.S.le;lia) ho
 rw[b,e,Xp,ak (by rw[ho];decide),show C.length - (i + 1)=n by lia,fC]
 rfl
def duI(cl:ac)(f:Int)(tab:List Row)(CC:List (List Cs))(H:Hp)(i:Nat)(σ:St)(H':Hp):Prop:=∃(tl l:ac) (o4 o5 o6 o7 o8:Option V) (xs:List V) (P:List Tl) (tab':List Row),σ=[aa (.ref cl),aa (.ref tl),aa (.int f),aa (.ref l),o4,o5,o6,o7,o8]/\Same H H'/\RwL H H' l xs P/\qW f (vj tab) CC=P ++ qW (f + i) (vj tab') (CC.drop i)/\LsAt H' tl tab'/\tab'.length<=5 + 11 * i/\(∀r∈tab',inW r.2=af)/\P.length<=14 * i/\tl≠l
theorem za5(h:LsAt H tl tab)(n:tl≠l)(hl:H l=aa (.lst xs)):LsAt (upd H l (.lst zs)) tl tab:=by
 obtain⟨ys,hy,py⟩:=h
 exact⟨ys,by rw[zk n];exact hy,Paired.mapP py λ_ _ y=>L2.PrAt.tsame y (vp hl λ_ z=>nomatch z)⟩
theorem zfN(h:LsAt H tl tab)(R:RnAt t H x ra C s)(k:Kp x ra H H')(n:¬ Ow x ra tl):LsAt H' tl tab:=by
 obtain⟨ys,hy,py⟩:=h
 exact⟨ys,k _ _ n hy,Paired.mapP py λ_ _ y=>L2.PrAt.tsame y (zfM R k)⟩
def dvS(cl tl:ac)(f:Int)(l:ac)(i:Nat)(x:ac)(o7 o8:Option V):St:=[aa (.ref cl),aa (.ref tl),aa (.int f),aa (.ref l),aa (.int (i:Nat)),aa (.int (f + (i:Nat))),aa (.ref x),o7,o8]
theorem Q7(hD:D.nx=duI cl f tab CC H0 (i + 1))(S:DuS t H0 H x ra C (vj tab') (f + i) (P ++ [tlW "take" (f + i)]) l j s xs)(ho:yp C s=af)(O:W7 C)(l11:C.length<=11)(ed:CC.drop i=C :: CC.drop (i + 1))(eT:qW f (vj tab) CC=P ++ qW (f + i) (vj tab') (CC.drop i))(ht:LsAt H tl tab')(lt':tab'.length<=5 + 11 * i)(i5:i < 5)(iw:∀r∈tab',inW r.2=af)(lP:P.length<=14 * i) :
  (zo (zK (tOp ZB (zb 3) (xo (zc (yt (zc (tC (.str (bc "lay"))) (zc (tC (.int 0)) (zc (zb 5) zi)))) (zc (yt (zc (tC (.str (bc "settle"))) (zc (tC (.int 0)) (zc (zb 5) zi)))) zi)))) (zp 3)) (zK (zL kP [] E0 (zc (zb 1) (zc (tOp (yS K) (zO t.q00 (bc "paper") (ww t) [] E0 (zb 6) zi) (tC (.int 2))) zi))) (zp 1))) D (dvS cl tl f l i x o7 o8) H:=by
 have ln:=S.len l11
 rw[bn,cN] at ln
 obtain⟨P2,rw1,eP⟩:=S.lw
 refine⟨_,rfl,_,rfl,by show 3<=sizeLine;rw[bT];decide,λp1 hp1=>?_⟩
 have s1:=isV (o:=HO.tup [V.str "lay",V.int 0,V.int (f + i)]) p1 hp1
 have e1:upd H p1 (HO.tup [V.str "lay",V.int 0,V.int (f + i)]) p1=aa (.tup [V.str "lay",V.int 0,V.int (f + i)]):=zg
 show zc _ _ _ (upd H p1 (HO.tup [V.str "lay",V.int 0,V.int (f + i)])) _
 generalize upd H p1 (HO.tup [V.str "lay",V.int 0,V.int (f + i)])=H1 at *
 refine⟨_,rfl,by show 3<=sizeLine;rw[bT];decide,λp2 hp2=>?_⟩
 have s2:=isV (o:=HO.tup [V.str "settle",V.int 0,V.int (f + i)]) p2 hp2
 have e2:upd H1 p2 (HO.tup [V.str "settle",V.int 0,V.int (f + i)]) p2=aa (.tup [V.str "settle",V.int 0,V.int (f + i)]):=zg
 refine⟨by show 2<=sizeLine;rw[bT];decide,λp3 hp3=>?_⟩
 have hp3':upd H1 p2 (HO.tup [V.str "settle",V.int 0,V.int (f + i)]) p3=ah:=hp3
 have s3:=isV (o:=HO.lst [V.ref p1,V.ref p2]) p3 hp3'
 have e3:upd (upd H1 p2 (HO.tup [V.str "settle",V.int 0,V.int (f + i)])) p3 (HO.lst [V.ref p1,V.ref p2]) p3=aa (.lst [V.ref p1,V.ref p2]):=zg
 show ZB _ _ (upd (upd H1 p2 (HO.tup [V.str "settle",V.int 0,V.int (f + i)])) p3 (HO.lst [V.ref p1,V.ref p2])) _
 clear hp3
 generalize upd H1 p2 (HO.tup [V.str "settle",V.int 0,V.int (f + i)])=H2 at *
 generalize upd H2 p3 (HO.lst [V.ref p1,V.ref p2])=H3 at *
 have S3:=s1.trans (s2.trans s3)
 have rw3:=rw1.same S3
 refine⟨l,p3,xs,_,rfl,rfl,rw3.hl,e3,by show xs.length + 2<=sizeLine;rw[bT];lia,λl2 hl2=>?_⟩
 have s4:=isV (o:=HO.lst (xs ++ [V.ref p1,V.ref p2])) l2 hl2
 have e4:upd H3 l2 (HO.lst (xs ++ [V.ref p1,V.ref p2])) l2=aa (.lst (xs ++ [V.ref p1,V.ref p2])):=zg
 have rw4:=rw3.same s4
 have D4:=S.same (S3.trans s4)
 have hl0:H0 l2=ah:=zJ (S.S.sm.trans S3) hl2
 have t4:Paired (TlAt (upd H3 l2 (HO.lst (xs ++ [V.ref p1,V.ref p2])))) (xs ++ [V.ref p1,V.ref p2]) (P ++ [tlW "take" (f + i)] ++ P2 ++ [tlW "lay" (f + i),tlW "settle" (f + i)]):=kg rw4.pd (.cons (Vl (s4 _ _ (s3 _ _ (s2 _ _ e1)))) (.cons (Vl (s4 _ _ (s3 _ _ e2))) .nil))
 generalize upd H3 l2 (HO.lst (xs ++ [V.ref p1,V.ref p2]))=H4 at *
 have l2':=D4.S.I.ok.l2
 have l3':=D4.S.I.ok.l3
 have jl:=D4.S.le
 refine⟨_,rfl,qa D4.S.R.ix rfl rfl ⟨x,ra,C,s,rfl,D4.S.R,by lia,D4.S.I.ok.nd,by lia,(λH' z=>by rw[ho] at z;cases z),λr o nl gl out H5 _ s5 hnl hgl _ hr oc hn hg gi=>?_⟩⟩
 have lo:out.length<=s.gi.length:=zd0 gi
 have lb:(tab' ++ out).length<=63:=by rw[bn];lia
 refine⟨r,_,2,_,rfl,rfl,SqT.of hr,rfl,tl,gl,tab',out,rfl,ht.same ((S3.trans s4).trans s5),hg,bN (wj _) lb,bN lb (by lia),λtl2 out2 H6 s6 n6 ht2 T=>?_⟩
 show D.nx _ H6
 rw[hD]
 have eb:=zgI T gi S.S.rc ho (by lia)
 refine⟨tl2,l2,_,_,_,_,_,_,_,out2,rfl,D4.S.sm.trans (s5.trans s6),⟨hl0,(s5.trans s6) _ _ e4,xJ t4 (TSm.of (s5.trans s6))⟩,?_,ht2,?_,?_,?_,λz=>by rw[z,s5 _ _ e4] at n6;cases n6⟩
 ·rw[eT,ed,qW,eP,QW ho,bO,eb,show f + ((i + 1:Nat):Int)=f + i + 1 by lia]
  simp
 ·have:=zck T
  rw[bn] at this
  lia
 ·intro r hr
  have:=YW ((T.2 r.1 r.2).mp hr).1
  rcases bJ.mp this with z | z
  ·exact iw _ z
  ·exact zd4 S.S.I gi _ z
 ·have:=DuS.len S l11
  rw[bn,cN] at this
  have e:=bF rw1.pd
  rw[bn,bn,cN] at e
  rw[bn,bn,bn]
  show P.length + 1 + P2.length + 2<=14 * (i + 1)
  lia
theorem Km{vs:List V}{_E:XK}(h:qX vs H Q _E) :
  XT K t (qqN Q) (L2.start ["codes","table","first","rows","k","rank","run","step","place"] vs) H:=by
 obtain⟨cl,tl,f,CC,tab,rfl,h1,h2,h3,h4,q⟩:=h
 obtain⟨vs,hv,pv⟩:=h1.at_
 have lv:=bF pv
 have l5:=h1.le
 refine⟨by lia,λl hl=>?_⟩
 have s0:=isV (o:=HO.lst []) l hl
 refine⟨_,rfl,.ref cl,vs.length,rfl,.inl ⟨_,SqL.of (s0 _ _ hv),rfl⟩,vs.length,rfl,by lia,by lia,vS (duI cl f tab CC H) ⟨tl,l,_,_,_,_,_,[],[],tab,rfl,s0,⟨hl,zg,.nil⟩,by simp,h2.same s0,h3,h4,bh _,λz=>by obtain⟨_,y,_⟩:=h2;rw[z,hl] at y;cases y⟩ ?_ ?_⟩
 ·rintro i σ H1 hi ⟨tl,l,o4,o5,o6,o7,o8,xs,P,tab',rfl,s1,rw1,eT,ht,lt',iw,lP,tn⟩
  have hi:i < vs.length:=by lia
  obtain⟨v,hvi⟩:∃v,vs[i]?=aa v:=⟨_,bb hi⟩
  obtain⟨C,hC,c,ys,rfl,hc,pc⟩:=Paired.getP pv hvi
  obtain⟨O,l11⟩:=h1.ok C (cE hC)
  have ed:CC.drop i=C :: CC.drop (i + 1):=by
   have hk:=(bq.mp hC)
   rw[da hk.1,hk.2]
  have lc:ys.length=C.length:=bF pc
  rw[nV]
  refine⟨_,rfl,_,rfl,_,_,rfl,rfl,?_⟩
  refine⟨_,rfl,_,rfl,cl,_,i,_,rfl,rfl,SqL.of (s1 _ _ hv),wc hvi,?_⟩
  intro x dx hx hd n
  have s2:Same H1 (upd (upd H1 dx (HO.own x)) x (HO.ins t.q00 dx [])):=λb o e=>by rw[zk (zC e hx),zk (zC e hd)];exact e
  refine⟨x,c,dx,ys,C,rfl,zg,s2 _ _ (s1 _ _ hc),xO (s1.trans s2) pc,λH3 ra k3 R3 fr=>⟨rfl,?_⟩⟩
  obtain⟨s3,ow⟩:=zd1 (Same.refl H1) hx hd k3 fr
  have no:¬ OwA x ra l:=λz=>by have:=rw1.hl;rw[ow l z] at this;cases this
  have not:¬ OwA x ra tl:=λz=>by obtain⟨_,y,_⟩:=ht;rw[ow tl z] at y;cases y
  have rw3:=rw1.same s3
  have lx:=bF rw1.pd
  refine⟨_,rfl,.inl ⟨rfl,_,SqL.of rw3.hl⟩,_,rfl,by show 3<=sizeLine;rw[bT];decide,λp hp=>?_⟩
  have s4:=isV (o:=HO.tup [V.str "take",V.int 0,V.int (f + i)]) p hp
  have rw4:=rw3.same s4
  have rw5:=rw4.add (Vl (w:="take") (x:=f + i) (p:=p) zg)
  have S5:FdS t H (upd (upd H3 p (HO.tup [V.str "take",V.int 0,V.int (f + i)])) l (.lst (xs ++ [.ref p]))) x ra C (vj tab') 0 st0:=⟨y9 ((s1.trans s3).trans s4) rw1.hn,(R3.same s4).off no rw4.hl,rn0,rfl,bh _,bW _⟩
  refine⟨l,xs,_,rfl,rfl,rw4.hl,bY (show xs.length<=100 by lia) (by rw[bT];decide),?_⟩
  show (_:Wt).nx _ (upd (upd H3 p (HO.tup [V.str "take",V.int 0,V.int (f + i)])) l (.lst (xs ++ [.ref p])))
  have sx:Same H (upd (upd H3 p (HO.tup [V.str "take",V.int 0,V.int (f + i)])) l (.lst (xs ++ [.ref p]))):=S5.sm
  have ht6:LsAt (upd (upd H3 p (HO.tup [V.str "take",V.int 0,V.int (f + i)])) l (.lst (xs ++ [.ref p]))) tl tab':=za5 (ht.same (s3.trans s4)) tn rw4.hl
  generalize upd (upd H3 p (HO.tup [V.str "take",V.int 0,V.int (f + i)])) l (.lst (xs ++ [.ref p]))=H5 at *
  refine⟨_,rfl,_,rfl,cl,_,i,_,rfl,rfl,SqL.of (sx _ _ hv),wc hvi,.ref c,ys.length,rfl,.inl ⟨_,SqL.of (sx _ _ hc),rfl⟩,ys.length,rfl,by lia,by lia,vS (λj σ H'=>∃o7 o8 s zs,σ=dvS cl tl f l i x o7 o8/\LsAt H' tl tab'/\DuS t H H' x ra C (vj tab') (f + i) (P ++ [tlW "take" (f + i)]) l j s zs) ⟨_,_,st0,_,rfl,ht6,S5,⟨[],by rw[bO];exact rw5,rfl⟩,no⟩ ?_ ?_⟩
  ·rintro j σ H6 hj ⟨o7,o8,s,zs,rfl,ht6,S⟩
   have i5:i < 5:=by lia
   have hj:j < C.length:=by lia
   have ow0:∀b,OwA x ra b->H b=ah:=λb z=>zJ s1 (ow b z)
   refine(qa S.S.R.ix rfl rfl ⟨x,ra,C,s,rfl,S.S.R,λH7 s7=>⟨_,rfl,?_⟩⟩)
   have S7:=S.same s7
   cases ho:yp C s with
   | true=>exact ve rfl (Q7 rfl S7 ho O l11 ed eT (ht6.same s7) lt' i5 iw lP)
   | false =>
    have zl:=S.len l11
    rw[bn,cN] at zl
    have zl:zs.length < sizeLine:=by rw[bT];lia
    refine xD rfl (qa S7.S.R.ix rfl rfl ⟨x,ra,C,s,rfl,S7.S.R,O.ok,S7.S.I.ok.so,λH8 ha s8=>?_,λp q1 H8 ha s8 hq=>?_⟩)
    ·have S8:=S7.same s8
     have ew:ZD C (vj tab') s=0:=by unfold ZD;rw[ha]
     obtain⟨_,w8,_⟩:=S8.lw
     refine⟨_,rfl,rfl,_,rfl,ve rfl ⟨_,rfl,.inl ⟨rfl,_,SqL.of w8.hl⟩,_,rfl,by show 3<=sizeLine;rw[bT];decide,λp hp=>?_⟩⟩
     have s9:=isV (o:=HO.tup [V.str "step",V.int 0,V.int (f + i)]) p hp
     have e9:upd H8 p (HO.tup [V.str "step",V.int 0,V.int (f + i)]) p=aa (.tup [V.str "step",V.int 0,V.int (f + i)]):=zg
     have S9:=S8.same s9
     have w9:=w8.same s9
     generalize upd H8 p (HO.tup [V.str "step",V.int 0,V.int (f + i)])=H9 at *
     have R9:=S9.S.R.off (zs:=zs ++ [.ref p]) no w9.hl
     refine⟨l,zs,_,rfl,rfl,w9.hl,zl,(qa R9.ix rfl rfl ⟨x,0,j,ra,C,s,rfl,R9,O.ok,S9.S.I.ok,by lia,λH10 k10 R10=>?_⟩)⟩
     rw[<-ew] at R10
     have t9:TlAt H9 (.ref p) (qV (f + i) C (vj tab') s):=by unfold qV;rw[ha];exact Vl e9
     have l10:LsAt H10 tl tab':=zfN (za5 (ht6.same (s7.trans (s8.trans s9))) tn w9.hl) R9 k10 λz=>not (.inl z)
     exact⟨_,_,_,_,rfl,l10,S9.step O ow0 ho (by rw[ew];rfl) t9 k10 R10⟩
    ·have S8:=S7.same s8
     have ew:ZD C (vj tab') s=vj tab' p:=by unfold ZD;rw[ha]
     have ht8:=ht6.same (s7.trans s8)
     have lt5:tab'.length<=500:=by lia
     obtain⟨_,w8,_⟩:=S8.lw
     refine⟨_,rfl,rfl,_,rfl,xD rfl ⟨_,rfl,.inl ⟨rfl,_,SqL.of w8.hl⟩,_,rfl,_,rfl,_,rfl,_,rfl,tl,q1,tab',p,rfl,ht8,lt5,hq,λH9 s9=>⟨by show 5<=sizeLine;rw[bT];decide,λpp hp=>?_⟩⟩⟩
     have s10:=isV (o:=HO.tup [V.str "read",V.int 0,V.int (f + i),V.ref q1,V.int ((zx tab' p).getD 0)]) pp hp
     have e10:upd H9 pp (HO.tup [V.str "read",V.int 0,V.int (f + i),V.ref q1,V.int ((zx tab' p).getD 0)]) pp=aa (.tup [V.str "read",V.int 0,V.int (f + i),V.ref q1,V.int ((zx tab' p).getD 0)]):=zg
     have S10:=(S8.same s9).same s10
     have w10:=(w8.same s9).same s10
     have q10:=s10 _ _ (s9 _ _ hq)
     have ht10:=ht8.same (s9.trans s10)
     generalize upd H9 pp (HO.tup [V.str "read",V.int 0,V.int (f + i),V.ref q1,V.int ((zx tab' p).getD 0)])=H10 at *
     have R11:=S10.S.R.off (zs:=zs ++ [.ref pp]) no w10.hl
     have ht11:=za5 (zs:=zs ++ [.ref pp]) ht10 tn w10.hl
     have q11:=vp (o':=.lst (zs ++ [.ref pp])) w10.hl (by lia) _ _ q10
     refine⟨l,zs,_,rfl,rfl,w10.hl,zl,(qa R11.ix rfl rfl ⟨_,rfl,_,rfl,tl,q1,tab',p,rfl,ht11,lt5,q11,λH12 s12=>⟨x,vj tab' p,j,ra,C,s,rfl,R11.same s12,O.ok,S10.S.I.ok,by lia,λH13 k13 R13=>?_⟩⟩)⟩
     rw[<-ew] at R13
     have t10:TlAt H10 (.ref pp) (qV (f + i) C (vj tab') s):=by unfold qV;rw[ha];exact⟨pp,[.ref q1,.int (vj tab' p)],rfl,e10,q1,rfl,q10⟩
     have k:Kp x ra (upd H10 l (.lst (zs ++ [.ref pp]))) H13:=λb o n e=>k13 b o n (s12 _ _ e)
     exact⟨_,_,_,_,rfl,zfN ht11 R11 k λz=>not (.inl z),S10.step O ow0 ho (by rw[ew];exact WX iw p) t10 k R13⟩
  ·rintro σ H6 ⟨o7,o8,s,zs,rfl,ht6,S⟩
   have jl:((ys.length:Int)).toNat=C.length:=by lia
   rw[jl] at S
   refine Q7 rfl S (cS λz=>?_) O l11 ed eT ht6 lt' (by lia) iw lP
   obtain⟨n,e⟩:=XA (m:=0) S.S.I rfl (iA.mpr z)
   cases e
 ·rintro σ H1 ⟨tl,l,o4,o5,o6,o7,o8,xs,P,tab',rfl,s1,rw1,eT,ht,lt',iw,lP,tn⟩
  have en:((vs.length:Int)).toNat=CC.length:=by lia
  rw[en,pS,qW,bO] at eT
  refine⟨_,rfl,q l xs H1 s1 rw1.hn rw1.hl ?_⟩
  rw[eT];exact rw1.pd
end
theorem Kn:∀a:Rws,a.deep=0->qT a<=a.cnt
 | .nil,_=>by rw[qT];exact bW _
 | .cons r rs,h=>by
  rw[Rws.deep] at h
  have i:=Kn rs (by lia)
  rw[qT,Rws.cnt]
  have:szR r<=r.cnt:=by
   cases r with
   | iff e a b=>rw[Rw.deep] at h;lia
   | _=>simp[szR,Rw.cnt]
  lia
theorem zfO:∀rs:List Rw,(Rws.of rs).deep<=1->qT (Rws.of rs)<=(rs.map szX).sum
 | [],_=>by show qT .nil<=_;rw[qT];exact bW _
 | r :: rs,h=>by
  have h:(Rws.cons r (Rws.of rs)).deep<=1:=h
  rw[Rws.deep] at h
  have i:=zfO rs (by lia)
  show qT (.cons r (Rws.of rs))<=_
  rw[qT,bM,i9]
  have:szR r<=szX r:=by
   cases r with
   | iff e a b =>
    rw[Rw.deep] at h
    have h1:=Kn a (by lia)
    have h2:=Kn b (by lia)
    rw[szR]
    show _<=a.cnt + b.cnt + 3
    lia
   | _=>simp[szR,szX]
  lia
theorem zgJ(h:ze9 rs):W6 6 (Rws.of rs)/\(zZ (Rws.of rs) 0).length<=11/\W7 (zZ (Rws.of rs) 0):=by
 have z:=YY (Rws.of rs) 0
 have s:=zfO rs h.dp
 have:(rs.map szX).sum<=11:=h.sz
 have:=h.dp
 have R:W6 6 (Rws.of rs):=⟨by lia,by lia,h.pl⟩
 exact⟨R,by lia,zg7 R h.ok (by lia)⟩
section
variable {lb lb':ac->Nat}{d l cl du to:ac}{a:DAd}{CC:List (List Cs)}{f:Int}{T TL DL:List Tl}{v u:V}{xs ys ds ts vs:List V}{H':Hp}
theorem zei(h:TlAt H v x)(k:TlAt H u x):AlkV H (n + 3) v u:=by
 obtain⟨w,is,o⟩:=x
 obtain⟨p,as,rfl,e1,z1⟩:=h
 obtain⟨q,bs,rfl,e2,z2⟩:=k
 have hh:as.length=bs.length/\∀(i:Nat) (x y:V),as[i]?=aa x->bs[i]?=aa y->AlkV H (n + 2) x y:=by
  cases o with
  | none=>cases z1;cases z2;exact⟨rfl,λi x y z=>by simp at z⟩
  | some o =>
   obtain⟨a1,rfl,h1⟩:=z1
   obtain⟨a2,rfl,h2⟩:=z2
   refine⟨rfl,λi x y=>?_⟩
   match i with
   | 0 =>
    intro z1 z2
    cases z1;cases z2
    refine .tup h1 h2 rfl λi x y=>?_
    match i with
    | 0=>intro z1 z2;cases z1;cases z2;exact .str _
    | 1=>intro z1 z2;cases z1;cases z2;exact .int _
    | i + 2=>intro z1;simp at z1
   | 1=>intro z1 z2;cases z1;cases z2;exact .int _
   | i + 2=>intro z1;simp at z1
 refine .tup e1 e2 (by simp[hh.1]) λi x y=>?_
 match i with
 | 0=>intro z1 z2;cases z1;cases z2;exact .str _
 | i + 1 =>
  rw[bp,bp]
  rcases fo i (is.map V.int).length with c | c
  ·rw[dZ c,dZ c]
   intro z1 z2
   have e:=z1.symm.trans z2
   cases e
   rw[bw] at z1
   obtain⟨w,_,rfl⟩:=cy.mp z1
   exact .int _
  ·rw[dU c,dU c]
   exact hh.2 _ x y
theorem zfv(h:Paired (TlAt H) xs T)(k:Paired (TlAt H) ys T)(hx:H l=aa (.lst xs))(hy:H cl=aa (.lst ys)):AlkV H 4 (.ref l) (.ref cl):=.lst hx hy (by rw[bF h,bF k]) λi x y z1 z2=>by
 obtain⟨w1,e1,t1⟩:=Paired.getP h z1
 obtain⟨w2,e2,t2⟩:=Paired.getP k z2
 obtain rfl:w1=w2:=bV (e1.symm.trans e2)
 exact zei t1 t2
theorem zcs{o0 o1 o2 o3 o7:Option V}(h:DkI t H d a lb f CC T)(hT:T.length<=100)(hd:H du=aa (.lst ds))(pd:Paired (TlAt H) ds DL)(ld:lb du=0)(ht:H to=aa (.lst ts))(pt:Paired (TlAt H) ts TL)(lt:lb to=0)(e:TL ++ T=DL)(lT:TL.length<=100)(hc:H cl=aa (.lst vs))(lc:lb cl=0)(lv:vs.length=CC.length)(q:∀H',Q (.bl af) H') :
  Jo K t (qqN Q) [o0,o1,o2,o3,aa (.ref cl),aa (.int f),aa (.ref d),o7,aa (.ref du),aa (.ref to)] H:=by
 obtain⟨e1,_⟩:=h.cmp
 have lp:=bF pt
 refine⟨_,rfl,_,rfl,d,_,_,rfl,e1,rfl,d,a,lb,f,CC,T,rfl,h,bN hT (by lia),λl xs H2 lb2 F2 l0 hl px I2=>?_⟩
 have lx:=bF px
 refine⟨to,l,ts,xs,rfl,rfl,F2.kp _ _ (.inl lt) ht,hl,by rw[bT];lia,λp hp=>?_⟩
 generalize c_:upd H2 p _=H3
 obtain⟨s3,e3⟩:=x8 c_ hp
 have t3:=F2.ts
 have p3:Paired (TlAt H3) (ts ++ xs) DL:=by rw[<-e];exact kg (xJ (xJ pt t3) (TSm.of s3)) (xJ px (TSm.of s3))
 have I3:=I2.same s3
 refine⟨_,rfl,_,rfl,_,_,rfl,zfv p3 (xJ (xJ pd t3) (TSm.of s3)) e3 (s3 _ _ (F2.kp _ _ (.inl ld) hd)),λH4 s4=>⟨_,rfl,xD rfl ?_⟩⟩
 have I4:=I3.same s4
 obtain⟨e4,cs,en,ec,ee,lcs,hh⟩:=I4.cmp
 have le:en.length=vs.length:=by
  rcases hh with ⟨_,z⟩ | ⟨z,_⟩
  ·lia
  ·exact absurd rfl z
 have hc4:=s4 _ _ (s3 _ _ (F2.kp _ _ (.inl lc) hc))
 refine⟨_,rfl,d,_,_,rfl,e4,rfl,d,_,a,f,en,rfl,e4,ee,_,rfl,_,rfl,.ref cl,vs.length,rfl,.inl ⟨_,SqL.of hc4,rfl⟩,_,_,rfl,rfl,_,_,rfl,by rw[le];exact .int _,λH5 s5=>⟨af,rfl,ve rfl ?_⟩⟩
 refine⟨_,rfl,d,_,_,rfl,s5 _ _ e4,rfl,d,a,lb2,f,CC,[],rfl,I4.same s5,λv H6 lb6 F6 tv I6=>?_⟩
 refine⟨by show 2<=sizeLine;rw[bT];decide,λpp hp=>?_⟩
 have s7:=isV (o:=HO.tup [V.str "rest",V.int 0]) pp hp
 exact⟨_,_,rfl,zei (TlAt.ts tv (TSm.of s7)) ⟨pp,[],rfl,zg,rfl⟩,λH7 _=>q H7⟩
end
section
variable {lb lb':ac->Nat}{d l cl du to s:ac}{a:DAd}{CC:List (List Cs)}{f:Int}{T TL DL:List Tl}{v u:V}{xs ys ds ts vs:List V}{H':Hp}{N:Nat}
theorem zej{α:Type}(x:α)(k:Nat):(bD k [x]).flatten=bD k x:=by
 induction k with
 | zero=>rfl
 | succ k ih=>rw[dY,eU,ih,dY];rfl
theorem Q8{x:Tl}(h:TlAt H v x):∀k,Paired (TlAt H) (bD k v) (bD k x)
 | 0=>.nil
 | k + 1=>.cons h (Q8 h k)
theorem zct{o0 o1 o2 o3 o7:Option V}(h:DkI t H d a lb f CC (DL.drop N))(lD:DL.length<=100)(lN:N<=63)(hd:H du=aa (.lst ds))(pd:Paired (TlAt H) ds DL)(ht:H to=aa (.lst ts))(pt:Paired (TlAt H) ts (DL.take N ++ bD (N - DL.length) rsT))(lt:lb to=0)(hc:H cl=aa (.lst vs))(lc:lb cl=0)(lv:vs.length=CC.length)(lw:∀b,H b=ah->lb b=0)(q:∀H',Q (.bl af) H') :
  Jp K t (qqN Q) [o0,o1,o2,o3,aa (.ref cl),aa (.int f),aa (.ref d),o7,aa (.ref du),aa (.ref to)] H:=by
 have l1:=bF pd
 have l2:=bF pt
 rw[bn,cH,dh] at l2
 have l2:ts.length=N:=by lia
 refine⟨_,rfl,by show 2<=sizeLine;rw[bT];decide,λp1 hp1=>?_⟩
 have s1:=isV (o:=HO.tup [V.str "rest",V.int 0]) p1 hp1
 have e1:upd H p1 (HO.tup [V.str "rest",V.int 0]) p1=aa (.tup [V.str "rest",V.int 0]):=zg
 show zi _ (upd H p1 (HO.tup [V.str "rest",V.int 0])) _
 generalize upd H p1 (HO.tup [V.str "rest",V.int 0])=H1 at *
 refine⟨by show 1<=sizeLine;rw[bT];decide,λp2 hp2=>?_⟩
 generalize c_:upd H1 p2 _=H2
 obtain⟨s2,e2⟩:=x8 c_ hp2
 have S2:=s1.trans s2
 refine⟨_,rfl,.ref to,ts.length,rfl,.inl ⟨_,SqL.of (S2 _ _ ht),rfl⟩,_,rfl,.ref du,ds.length,rfl,.inl ⟨_,SqL.of (S2 _ _ hd),rfl⟩,_,_,rfl,rfl,0,_,rfl,?_⟩
 obtain⟨k,ek⟩:∃k:Nat,(if ((ts.length:Int) - (ds.length:Int)) > 0 then ((ts.length:Int) - (ds.length:Int)) else 0)=(k:Int)/\k=N - DL.length:=⟨N - DL.length,by split <;> lia,rfl⟩
 refine⟨p2,k,_,rfl,congrArg V.int ek.1,e2,by lia,by lia,by show 1 * _<=sizeLine;rw[bT];lia,λp3 hp3=>?_⟩
 rw[dH,zej]
 generalize c_:upd H2 p3 _=H3
 obtain⟨s3,e3⟩:=x8 c_ hp3
 have S3:=S2.trans s3
 refine⟨du,p3,ds,_,rfl,rfl,S3 _ _ hd,e3,by rw[bT,dh];lia,λp4 hp4=>?_⟩
 have s4:=isV (o:=HO.lst (ds ++ bD k (V.ref p1))) p4 hp4
 have S4:=S3.trans s4
 have t4:=TSm.of S4
 have pr:TlAt (upd H3 p4 (HO.lst (ds ++ bD k (V.ref p1)))) (.ref p1) rsT:=⟨p1,[],rfl,s4 _ _ (s3 _ _ (s2 _ _ e1)),rfl⟩
 refine zcs (DL:=DL ++ bD k rsT) (h.same S4) (by rw[cT];lia) zg (kg (xJ pd t4) (Q8 pr k)) (lw p4 (zJ S3 hp4)) (S4 _ _ ht) (xJ pt t4) lt ?_ (by rw[bn,cH,dh];lia) (S4 _ _ hc) lc lv q
 rw[ek.2]
 rcases fo N DL.length with c | c
 ·rw[show N - DL.length=0 by lia,List.replicate_zero,bO,bO,gc]
 ·rw[df c,bO,cp c]
end
def ScAt(K:bx)(H:Hp)(s:ac)(xs:List V)(P:ac->Prop):Prop:=(∀H',SqL K H' s xs)\/∃o,H s=aa o/\(∀H',H' s=aa o->SqL K H' s xs)/\¬ P s
theorem ScAt.sq{P:ac->Prop}(h:ScAt K H s xs P):SqL K H s xs:=h.elim (λk=>k H) λ⟨_,e,k,_⟩=>k H e
theorem ScAt.kp{P:ac->Prop}{H':Hp}(h:ScAt K H s xs P)(k:∀b o,¬ P b->H b=aa o->H' b=aa o):ScAt K H' s xs P:=h.imp id λ⟨o,e,g,n⟩=>⟨o,k _ _ n e,g,n⟩
theorem ScAt.or{P:ac->Prop}(h:ScAt K H s xs P)(hb:H b=ah):ScAt K H s xs (λx=>P x\/x=b):=h.imp id λ⟨o,e,g,n⟩=>⟨o,e,g,λz=>z.elim n λz=>by rw[z,hb] at e;cases e⟩
section
variable {lb lb':ac->Nat}{d l cl du to s D:ac}{a:DAd}{CC:List (List Cs)}{f:Int}{T TL DL:List Tl}{v u:V}{xs ys ds ts vs:List V}{H':Hp}{N i:Nat}{ns:List Int}
theorem DkI.l0(h:DkI t H d a lb f CC T)(hl:H b=ah):lb b=0:=by
 obtain⟨O,i,tb,h⟩:=h
 rcases h with ⟨_,cs,g,lays,en,h,_⟩ | ⟨C,m,s,_,_,_,cs,g,lays,en,tp,x,ra,h,_⟩ | ⟨tb',_,cs,g,lays,en,r,no,gi,h,_⟩
 ·exact h.out hl
 ·exact h.out hl
 ·exact h.out hl
theorem ScAt.fr(h:ScAt K H s xs λb=>lb b≠0\/b=D)(F:Fr H H' lb lb'):ScAt K H' s xs λb=>lb' b≠0\/b=D:=h.imp id λ⟨o,e,g,n⟩=>by
 have l0:lb s=0:=cS λz=>n (.inl z)
 exact⟨o,F.kp _ _ (.inl l0) e,g,λz=>z.elim (λy=>y ((F.ex _ _ e).trans l0)) λy=>n (.inr y)⟩
def tkR(DL:List Tl)(i:Nat):List Tl:=DL.take i ++ bD (i - DL.length) rsT
theorem zek(DL:List Tl)(i:Nat):tkR DL (i + 1)=tkR DL i ++ [(DL.drop i).headD rsT]:=by
 unfold tkR
 rcases fo i DL.length with c | c
 ·rw[dq,bb c,da c,show i + 1 - DL.length=0 by lia,show i - DL.length=0 by lia]
  show DL.take i ++ [DL[i]] ++ []=DL.take i ++ [] ++ [DL[i]]
  rw[bO,bO]
 ·rw[df c,cp c,cp (by lia),show i + 1 - DL.length=i - DL.length + 1 by lia,List.replicate_succ']
  simp
structure CmI(K:bx)(t:Adr)(H:Hp)(d D s:ac)(ns:List Int)(a:DAd)(lb:ac->Nat)(f:Int)(CC:List (List Cs))(DL:List Tl)(i:Nat)(H':Hp)(lb':ac->Nat)(ys:List V):Prop where
 fr:Fr H H' lb lb'
 hn:H D=ah
 hl:H' D=aa (.lst ys)
 l0:lb' D=0
 pd:Paired (TlAt H') ys (tkR DL i)
 di:DkI t H' d a lb' f CC (DL.drop i)
 sc:ScAt K H' s (ns.map V.int) λb=>lb' b≠0\/b=D
theorem zel{o1 o2 o3 o7 o9:Option V}(h:DkI t H d a lb f CC DL)(lD:DL.length<=100)(hS:ScAt K H s (ns.map V.int) λb=>lb b≠0)(hn:ns.length<=63)(hd:H du=aa (.lst ds))(pd:Paired (TlAt H) ds DL)(ld:lb du=0)(hc:H cl=aa (.lst vs))(lc:lb cl=0)(lv:vs.length=CC.length)(q:∀H',Q (.bl af) H') :
  Qu K t (qqN Q) [aa (.ref s),o1,o2,o3,aa (.ref cl),aa (.int f),aa (.ref d),o7,aa (.ref du),o9] H:=by
 refine⟨_,rfl,s,rfl,⟨_,hS.sq⟩,λD hD=>?_⟩
 have s0:=isV (o:=HO.lst []) D hD
 have sc0:=(hS.or hD).kp (H':=upd H D (.lst [])) λb o n e=>s0 _ _ e
 refine⟨λi m ys τ H'=>m=ns.length - i/\i<=ns.length/\(∃o,τ=[o,aa (.ref d)])/\∃lb',CmI K t H d D s ns a lb f CC DL i H' lb' ys,⟨_,rfl,bW _,⟨_,rfl⟩,lb,Fr.same s0,hD,zg,h.l0 hD,by rw[show tkR DL 0=[] by unfold tkR;rw[ot,Nat.zero_sub];rfl];exact .nil,h.same s0,sc0⟩,?_⟩
 rintro i m ys τ H1 ⟨rfl,hi,⟨o,rfl⟩,lb1,I⟩
 refine⟨I.hl,?_⟩
 rcases fo i ns.length with c | c
 ·have ly:=bF I.pd
  have ly:ys.length<=200:=by
   unfold tkR at ly
   rw[bn,cH,dh] at ly
   lia
  obtain⟨e1,_⟩:=I.di.cmp
  refine .inr ⟨⟨_,_,I.sc.sq,bb (by rw[bo];exact c)⟩,bY ly (by rw[bT];decide),λv τ' H'=>H' D=aa (.lst ys)/\(∃o,τ'=[o,aa (.ref d)])/\∃lb',CmI K t H d D s ns a lb f CC DL (i + 1) (upd H' D (.lst (ys ++ [v]))) lb' (ys ++ [v]),λv τ' H' ⟨z1,z2,z3⟩=>⟨z1,ns.length - (i + 1),by lia,rfl,c,z2,z3⟩,λ_ _=>False,λ_ _ z=>z.elim,?_⟩
  rintro x H2 ⟨rfl,_⟩
  refine ve (R:=False) rfl ⟨_,rfl,d,_,_,rfl,e1,rfl,d,a,lb1,f,CC,DL.drop i,rfl,I.di,λv H3 lb3 F3 tv I3=>?_⟩
  have hl3:=F3.kp _ _ (.inl I.l0) I.hl
  have l3:lb3 D=0:=(F3.ex _ _ I.hl).trans I.l0
  have ts:TSm H3 (upd H3 D (.lst (ys ++ [v]))):=vp hl3 λ_ z=>nomatch z
  refine⟨hl3,⟨_,rfl⟩,lb3,(I.fr.trans F3).up hl3 hD,hD,zg,l3,?_,?_,(I.sc.fr F3).kp λb o n e=>by rw[zk (λz=>n (.inr z))];exact e⟩
  ·rw[zek]
   exact Paired.snocP (xJ (xJ I.pd F3.ts) ts) (TlAt.ts tv ts)
  ·rw[List.tail_drop] at I3
   exact I3.put hl3 l3
 ·have ei:i=ns.length:=by lia
  refine .inl ⟨⟨_,I.sc.sq,by rw[bo];exact c⟩,?_⟩
  have P:=I.pd
  exact zct (N:=i) I.di lD (by lia) (I.fr.kp _ _ (.inl ld) hd) (xJ pd I.fr.ts) I.hl P I.l0 (I.fr.kp _ _ (.inl lc) hc) ((I.fr.ex _ _ hc).trans lc) lv (λb z=>I.di.l0 z) q
end
section
variable {lb lb':ac->Nat}{d l cl tl du to s D:ac}{a:DAd}{CC:List (List Cs)}{f:Int}{T TL DL:List Tl}{v u:V}{xs ys ds ts vs cs:List V}{H' H0:Hp}{N i:Nat}{ns:List Int}{tab g:List Row}
theorem zbH{r:Int}{C:List Cs}{tb:Pl->Int}:∀m s,(Xp r C tb m s).length<=m
 | 0,_=>bh _
 | m + 1,s=>by
  rw[Xp]
  split
  ·exact bW _
  ·rw[bR];have:=zbH (r:=r) (C:=C) (tb:=tb) m (jh C tb s);lia
theorem zbI:∀(CC:List (List Cs)) (r:Int) (tb:Pl->Int),(∀C∈CC,C.length<=11)->(qW r tb CC).length<=14 * CC.length
 | [],_,_,_=>bh _
 | C :: CC,r,tb,h=>by
  have:=zbI CC (r + 1) (J6 tb C) λC z=>h C (br _ z)
  have:=zbH (r:=r) (C:=C) (tb:=tb) C.length st0
  have:=h C bt
  rw[qW,bR,bn,bR,bR,bR]
  lia
theorem zhc(h:SqL K H0 s xs)(sm:Same H0 H)(z0:∀b o,H0 b=aa o->lb b=0):ScAt K H s xs λb=>lb b≠0:=by
 rcases h with (h | ⟨n,h⟩) | h
 ·exact .inr ⟨_,sm _ _ h,λH' e=>.inl (.inl e),λz=>z (z0 _ _ h)⟩
 ·exact .inr ⟨_,sm _ _ h,λH' e=>.inl (.inr ⟨n,e⟩),λz=>z (z0 _ _ h)⟩
 ·exact .inl λH'=>.inr h
theorem CoAt.same(h:CoAt H v C)(k:Same H H'):CoAt H' v C:=let ⟨c,ys,e,hc,pc⟩:=h;⟨c,ys,e,k _ _ hc,xO k pc⟩
theorem CosAt.same(h:CosAt H cl CC)(k:Same H H'):CosAt H' cl CC:=⟨let ⟨xs,hx,px⟩:=h.at_;⟨xs,k _ _ hx,Paired.mapP px λ_ _ z=>z.same k⟩,h.ok,h.le⟩
theorem zem{o1 o2 o7 o8 o9:Option V}(h:DkI t H d a lb f CC (qW f (vj tab) CC))(hS:SqL K H0 s (ns.map V.int))(hn:ns.length<=63)(sm:Same H0 H)(z0:∀b o,H0 b=aa o->lb b=0)(hC:CosAt H0 cl CC)(hT:LsAt H0 tl tab)(l5:tab.length<=5)(iw:∀r∈tab,inW r.2=af)(q:∀H',Q (.bl af) H') :
  Qv K t (qqN Q) [aa (.ref s),o1,o2,aa (.ref tl),aa (.ref cl),aa (.int f),aa (.ref d),o7,o8,o9] H:=by
 obtain⟨vs,hv,pv⟩:=id hC.at_
 refine⟨_,rfl,_,rfl,_,rfl,cl,tl,f,CC,tab,rfl,hC.same sm,hT.same sm,l5,iw,λl xs H2 s2 hl hx px=>?_⟩
 have:=zbI CC f (vj tab) λC z=>(hC.ok C z).2
 have:=hC.le
 exact zel (h.same s2) (by lia) (zhc hS (sm.trans s2) z0) hn hx px (h.l0 hl) (s2 _ _ (sm _ _ hv)) (z0 _ _ hv) (bF pv) q
theorem zen :jZ f 0 k ++ [f + (k:Int)]=jZ f 0 (k + 1):=by
 unfold jZ
 rw[lV,lV,List.range_succ,cB]
 show _ ++ [f + (k:Int)]=_ ++ [f + ((0:Nat):Int) + (k:Int)]
 rw[show f + ((0:Nat):Int) + (k:Int)=f + k by lia]
def adI(t:Adr)(H0:Hp)(s tl cl d:ac)(a:DAd)(f:Int)(tab:List Row)(CC:List (List Cs))(o1 o2 o8 o9:Option V)(i:Nat)(σ:St)(H:Hp):Prop:=∃o7 lb cs,σ=[aa (.ref s),o1,o2,aa (.ref tl),aa (.ref cl),aa (.int f),aa (.ref d),o7,o8,o9]/\Same H0 H/\(∀b o,H0 b=aa o->lb b=0)/\cs.length=i/\DkO t H lb (dkL t d a f cs (jZ f 0 i) [] [] [] []) a.mks a.re tab [] noP cs (CC.take i)
theorem Q9{o1 o2 o7 o8 o9:Option V}(h:DkO t H lb (dkL t d a f [] [] [] [] [] []) a.mks a.re tab [] noP [] [])(f0:0<=f)(hS:SqL K H0 s (ns.map V.int))(hn:ns.length<=63)(sm:Same H0 H)(z0:∀b o,H0 b=aa o->lb b=0)(hC:CosAt H0 cl CC)(hT:LsAt H0 tl tab)(l5:tab.length<=5)(iw:∀r∈tab,inW r.2=af)(q:∀H',Q (.bl af) H') :
  Qw K t (qqN Q) [aa (.ref s),o1,o2,aa (.ref tl),aa (.ref cl),aa (.int f),aa (.ref d),o7,o8,o9] H:=by
 obtain⟨vs,hv,pv⟩:=id hC.at_
 have lv:=bF pv
 have lC:=hC.le
 refine⟨_,rfl,.ref cl,vs.length,rfl,.inl ⟨_,SqL.of (sm _ _ hv),rfl⟩,vs.length,rfl,by lia,by lia,vS (adI t H0 s tl cl d a f tab CC o1 o2 o8 o9) ⟨_,lb,[],rfl,sm,z0,rfl,h⟩ ?_ ?_⟩
 ·rintro i σ H1 hi ⟨o7,lb1,cs,rfl,sm1,z1,lc,h1⟩
  rw[nV]
  have hi:i < vs.length:=by lia
  obtain⟨v,hvi⟩:∃v,vs[i]?=aa v:=⟨_,bb hi⟩
  obtain⟨C,hCi,co⟩:=Paired.getP pv hvi
  refine⟨_,rfl,d,_,_,rfl,h1.at (i:=0) rfl,rfl,_,rfl,_,rfl,cl,_,i,_,rfl,rfl,SqL.of (sm1 _ _ hv),wc hvi,d,v,a,lb1,f,cs,_,tab,_,C,rfl,co.same sm1,h1,by lia,by unfold jZ;rw[bo,List.length_range];lia,λH2 lb2 cs2 F2 l2 h2=>?_⟩
  refine⟨_,rfl,_,rfl,_,_,rfl,rfl,_,_,rfl,by rw[lc];exact .int _,λH3 s3=>⟨_,rfl,xD rfl ?_⟩⟩
  rw[lc,zen] at h2
  refine⟨_,lb2,cs2,rfl,λb o e=>s3 _ _ (F2.kp _ _ (.inl (z1 _ _ e)) (sm1 _ _ e)),λb o e=>(F2.ex _ _ (sm1 _ _ e)).trans (z1 _ _ e),by lia,?_⟩
  rw[dq,hCi]
  exact h2.same rfl s3
 ·rintro σ H1 ⟨o7,lb1,cs,rfl,sm1,z1,lc,h1⟩
  have en:((vs.length:Int)).toNat=CC.length:=by lia
  rw[en,fi] at h1
  have O:zgo CC:=⟨hC.ok,hC.le⟩
  have I:DkI t H1 d a lb1 f CC (qW f (vj tab) CC):=⟨O,0,vj tab,.inl ⟨by rw[gG,show f + ((0:Nat):Int)=f by lia],cs,tab,[],[],h1,⟨f0,rfl,(λy z=>nomatch z),λp r _=>rfl,λp=>WX iw p⟩,rfl,bW _⟩⟩
  exact zem I hS hn sm1 z1 hC hT l5 iw q
end
section
variable {lb:ac->Nat}{d l cl tl s:ac}{a:DAd}{CC:List (List Cs)}{f:Int}{v:V}{xs ys vs:List V}{H' H0:Hp}{ns:List Int}{tab:List Row}{σ:St}
theorem zeo{o1 o2 o5 o6 o7 o8 o9:Option V}(hS:SqL K H s (ns.map V.int))(hn:ns.length<=63)(hb:∀i∈ns,Cb i)(hC:CosAt H cl CC)(hT:LsAt H tl tab)(l5:tab.length<=5)(iw:∀r∈tab,inW r.2=af)(q:∀H',Q (.bl af) H') :
  Qx K t (qqN Q) [aa (.ref s),o1,o2,aa (.ref tl),aa (.ref cl),o5,o6,o7,o8,o9] H:=by
 obtain⟨rows,hr,pr⟩:=id hT
 have sp:∀ {H0 H1:Hp} {l x w dx dw:ac} {f:Int} {Q':VK} {E:XK},Same H H0->H0 l=ah->upd H0 l (.lst rows) w=ah->upd H0 l (.lst rows) dw=ah->dw≠w->H1=upd (upd (upd H0 l (.lst rows)) dw (.own w)) w (.ins t.q09 dw [])->H1 x=ah->H1 dx=ah->(∀H' a lb,Same H0 H'->(∀b o,H0 b=aa o->lb b=0)->DkO t H' lb (dkL t x a f [] [] [] [] [] []) a.mks a.re tab [] noP [] []->Q' .non H')->wz t [.ref x,.ref l,.int 1,.ref w,.int f] (upd (upd H1 dx (.own x)) x (.ins t.q01 dx [])) Q' E:=λ{H0 H1 l x w dx dw f Q' E} s0 hl hw hdw nw e hx hdx q=>by
  have s1:=isV (o:=HO.lst rows) l hl
  have e1:upd H0 l (.lst rows) l=aa (.lst rows):=zg
  generalize upd H0 l (.lst rows)=H2 at *
  have s2:Same H2 H1:=λb o z=>by rw[e,zk (zC z hw),zk (zC z hdw)];exact z
  have w2:H1 w=aa (.ins t.q09 dw []):=by rw[e];exact zg
  clear e
  have s3:Same H1 (upd (upd H1 dx (.own x)) x (.ins t.q01 dx [])):=λb o z=>by rw[zk (zC z hx),zk (zC z hdx)];exact z
  have S:=s1.trans (s2.trans s3)
  have nx:∀b o,H0 b=aa o->b≠x:=λb o z y=>by have:=s2 _ _ (s1 _ _ z);rw[y,hx] at this;cases this
  refine⟨x,l,w,dx,dw,f,tab,rfl,zg,⟨rows,s3 _ _ (s2 _ _ e1),vL (s0.trans S) pr⟩,by lia,s3 _ _ w2,(λz=>by rw[z,hx] at w2;cases w2),λH' a lb k z0 h=>q H' a lb (λb o z=>k b o (nx b o z) (S _ _ z)) (λb o z=>z0 b o (nx b o z) (λy=>by have:=s1 _ _ z;rw[y,hw] at this;cases this) (S _ _ z)) h⟩
 refine⟨_,rfl,tl,rows,rfl,.inl (SqL.of hr),λl hl=>?_⟩
 intro w dw hw hdw nw x dx hx hdx nx
 refine sp (Same.refl H) hl hw hdw nw rfl hx hdx λH2 a lb sm z0 h=>⟨rfl,?_⟩
 refine⟨_,rfl,s,ns,0,rfl,hS.mono sm,hn,hb,λc H3 s3 _=>⟨_,_,rfl,rfl,by show (0:Int) < 2;decide,rfl,_,rfl,?_⟩⟩
 have S3:=sm.trans s3
 by_cases hc:c % 2=1
 ·refine ve (decide_eq_true (congrArg V.int hc)) ?_
  refine⟨_,rfl,s,ns,0,rfl,hS.mono S3,hn,hb,λc2 H4 s4 cb=>⟨_,_,rfl,rfl,dB,_,_,rfl,rfl,⟨by lia,by lia,by lia⟩,_,_,rfl,rfl,⟨cb.w.div,by unfold Cw;lia⟩,_,_,rfl,rfl,⟨by lia,by lia,by lia⟩,_,_,rfl,rfl,_,_,rfl,rfl,by show (0:Int) < 10 ^ 29 - 300;decide,?_⟩⟩
  have S4:=S3.trans s4
  refine⟨_,rfl,tl,rows,rfl,.inl (SqL.of (S4 _ _ hr)),λl hl=>?_⟩
  intro w dw hw hdw nw
  refine⟨_,rfl,λx dx hx hdx nx=>?_⟩
  refine sp S4 hl hw hdw nw rfl hx hdx λH5 a lb sm5 z5 h=>⟨rfl,?_⟩
  exact Q9 h (dO _ (by lia)) hS hn (S4.trans sm5) (λb o e=>z5 _ _ (S4 _ _ e)) hC hT l5 iw q
 ·exact xD (decide_eq_false (λz=>hc (V.int.inj z))) (Q9 (h.same rfl s3) (mT _) hS hn S3 z0 hC hT l5 iw q)
end
theorem zhd(ns:List Int):∃ys:List Int,Yy (ns.map V.int) (aa (3:Int)) (aa (8:Int))=ys.map V.int/\ys.length<=5:=by
 have e3:HT.sIx ns.length 0 (aa (3:Int))=min 3 ns.length:=HT.sIx_nat ..
 have e8:HT.sIx ns.length ns.length (aa (8:Int))=min 8 ns.length:=HT.sIx_nat ..
 refine⟨(ns.drop (min 3 ns.length)).take (min 8 ns.length - min 3 ns.length),?_,?_⟩
 ·unfold Yy
  rw[bo,e3,e8,oW,oX]
 ·rw[cH,cT];lia
section
variable {a b cl tl s:ac}{CC:List (List Cs)}{H0:Hp}{ns:List Int}{us ws:List Str}{tab:List Row}
theorem zep{o4 o5 o6 o7 o8 o9:Option V}(hS:SqL K H s (ns.map V.int))(hn:ns.length<=63)(hb:∀i∈ns,Cb i)(h1:NamesAt H a us)(h2:us.length=2)(h3:NamesAt H b ws)(h4:ws.length=2)(hT:LsAt H tl tab)(l5:tab.length<=5)(iw:∀r∈tab,inW r.2=af)(q:∀H',Q (.bl af) H') :
  Qy K t (qqN Q) [aa (.ref s),aa (.ref a),aa (.ref b),aa (.ref tl),o4,o5,o6,o7,o8,o9] H:=by
 obtain⟨ms,em,lm⟩:=zhd ns
 refine⟨_,rfl,3,rfl,8,rfl,s,_,rfl,hS,λp hp=>?_⟩
 rw[em]
 generalize c_:upd H p _=H1
 obtain⟨s1,e1⟩:=x8 c_ hp
 refine⟨p,rfl,⟨_,SqL.of e1⟩,λD hD=>?_⟩
 have s2:=isV (o:=HO.lst []) D hD
 refine⟨λi m ys τ H'=>m=ms.length - i/\i<=ms.length/\(∃o,τ=[o,aa (.ref a),aa (.ref b)])/\Same H1 H'/\H' D=aa (.lst ys)/\∃CC:List (List Cs),Paired (λv C=>CoAt H' v C/\v≠.ref D) ys CC/\CC.length=i/\∀C∈CC,W7 C/\C.length<=11,⟨_,rfl,bW _,⟨_,rfl⟩,s2,zg,[],.nil,rfl,λ_ z=>nomatch z⟩,?_⟩
 rintro i m ys τ H2 ⟨rfl,hi,⟨o,rfl⟩,sm,hD2,CC,pc,lc,ok⟩
 refine⟨hD2,?_⟩
 have ly:=bF pc
 rcases fo i ms.length with c | c
 ·refine .inr ⟨⟨_,_,SqL.of (sm _ _ e1),bb (by rw[bo];exact c)⟩,bY (show ys.length<=5 by lia) (by rw[bT];decide),λv τ' H'=>H' D=aa (.lst ys)/\Same H2 H'/\(∃o,τ'=[o,aa (.ref a),aa (.ref b)])/\∃C,CoAt H' v C/\v≠.ref D/\W7 C/\C.length<=11,?_,λ_ _=>False,λ_ _ z=>z.elim,?_⟩
  ·rintro v τ' H3 ⟨z1,s3,z2,C,cv,nv,z3⟩
   have ts:TSm H3 (upd H3 D (.lst (ys ++ [v]))):=vp z1 λ_ z=>nomatch z
   have kc:∀ {v C},CoAt H3 v C->v≠.ref D->CoAt (upd H3 D (.lst (ys ++ [v]))) v C/\v≠.ref D:=λ{v C} ⟨c,zs,e,hc,pc⟩ n=>⟨⟨c,zs,e,by rw[zk (λy=>n (by rw[e,y]))];exact hc,xI (vp z1 λ_ z=>nomatch z) pc⟩,n⟩
   refine⟨z1,ms.length - (i + 1),by lia,rfl,c,z2,y9 (sm.trans s3) hD,zg,CC ++ [C],Paired.snocP (Paired.mapP pc λv C ⟨z,n⟩=>?_) ?_,by rw[bn,lc];rfl,λC' z=>?_⟩
   ·obtain⟨c,zs,e,hc,pc⟩:=z.same s3
    exact⟨⟨c,zs,e,by rw[zk (λy=>n (by rw[e,y]))];exact hc,xI ts pc⟩,n⟩
   ·obtain⟨c,zs,e,hc,pc⟩:=cv
    exact⟨⟨c,zs,e,by rw[zk (λy=>nv (by rw[e,y]))];exact hc,xI ts pc⟩,nv⟩
   ·rcases bJ.mp z with z | z
    ·exact ok C' z
    ·rw[bI.mp z];exact z3
  ·rintro x H3 ⟨rfl,hx⟩
   have hx:=hx _ (SqL.of (sm _ _ e1))
   rw[bw] at hx
   obtain⟨n,_,rfl⟩:=cy.mp hx
   have S:=s1.trans sm
   refine ve (R:=False) rfl ⟨_,rfl,_,rfl,_,rfl,n,a,b,us,ws,rfl,h1.same S,h2,h3.same S,h4,λl rs H4 s4 rl rx=>?_⟩
   obtain⟨R,l11,O⟩:=zgJ rx
   refine⟨.ref l,Rws.of rs,rfl,rl.any,R,bN l11 (by lia),λl2 xs H5 s5 hl2 hx px=>?_⟩
   exact⟨(s4.trans s5) _ _ hD2,s4.trans s5,⟨_,rfl⟩,_,⟨l2,xs,rfl,hx,px⟩,(λz=>by cases z;rw[s4 _ _ hD2] at hl2;cases hl2),O,l11⟩
 ·refine .inl ⟨⟨_,SqL.of (sm _ _ e1),by rw[bo];exact c⟩,?_⟩
  have S:=s1.trans sm
  have hC:CosAt H2 D CC:=⟨⟨ys,hD2,Paired.mapP pc λ_ _ z=>z.1⟩,ok,by lia⟩
  exact zeo (hS.mono S) hn hb hC (hT.same S) l5 iw q
theorem zfw{vs:List V}{_E:XK}(h:sp_law K vs H Q _E) :
  zdR K t (qqN Q) (L2.start ["script","shelves","slots","table","codes","first","desk","k","due","told"] vs) H:=by
 obtain⟨s,ns,rfl,hS,hn,hb,q⟩:=h
 refine⟨_,rfl,s,ns,1,rfl,hS,hn,hb,λc1 H1 s1 _=>⟨c1,rfl,λa us H2 s2 _ na la=>?_⟩⟩
 have S2:=s1.trans s2
 refine⟨_,rfl,s,ns,2,rfl,hS.mono S2,hn,hb,λc2 H3 s3 _=>⟨c2,rfl,λb ws H4 s4 _ nb lb=>?_⟩⟩
 have S4:=S2.trans (s3.trans s4)
 refine⟨_,rfl,s,ns,1,rfl,hS.mono S4,hn,hb,λc3 H5 s5 _=>⟨_,_,rfl,rfl,dB,_,rfl,_,a,us,rfl,na.same (s3.trans (s4.trans s5)),la,λtl tab H6 s6 _ ht _ ok l5=>?_⟩⟩
 have S6:=S4.trans (s5.trans s6)
 exact zep (hS.mono S6) hn hb (na.same (s3.trans (s4.trans (s5.trans s6)))) la (nb.same (s5.trans s6)) lb ht l5 (λr z=>(ok r z).2.1) q
end
section
variable {x:ac}{a:RAd}{C:List Cs}{s:RSt}{E:XK}{σ:St}
theorem Zo{k:Int}(R:RnAt t H x a C s)(so:yV s.sl)(h0:σ[0]?=aa (aa (.ref x)))(h1:σ[1]?=aa (aa (.ref p)))(e2:H p=aa (.tup xs))(ek:atI xs k=aa (.ref te))(e3:H te=aa (.tup e))(ok:TermOk e)(q:∀H1,Same H H1->fin t (rk s.sl e) Q E H1) :
  zO t.q00 "worth_of" (yi t) [] E (zb 0) (zc (tOp (yS K) (zb 1) (tC (.int k))) zi) σ H Q:=
 ⟨_,h0,x,_,_,rfl,R.ix,rfl,W1 h1 e2 ek ⟨x,te,e,a,C,s,rfl,R,so,e3,ok,q⟩⟩
theorem zaa(R:RnAt t H x a C s)(so:yV s.sl)(h0:σ[0]?=aa (aa (.ref x)))(h1:σ[1]?=aa (aa (.ref p)))(e2:H p=aa (.tup xs))(i1:atI xs 1=aa (.str sh))(i2:atI xs 2=aa (.ref te))(e3:H te=aa (.tup e))(ok:TermOk e)(q1:∀i q H',rk s.sl e=.ok i->Same H H'->H' q=aa (.tup [.str sh,.int i])->Q (.ref q) H')(q2:∀er H',rk s.sl e=.error er->Same H H'->zdO t er E H') :
  zO t.q00 "place_in" (yO t) [] E (zb 0) (zc (zb 1) zi) σ H Q:=
 ⟨_,h0,x,_,_,rfl,R.ix,rfl,_,h1,x,p,xs,sh,te,e,a,C,s,rfl,R,so,e2,i1,i2,e3,ok,q1,q2⟩
theorem Ko{vs:List V}(F:RnF K t)(h:qS t vs H Q E) :
  XS K t E (qqN Q) (L2.start ["self","due","worth","place"] vs) H:=by
 obtain⟨x,v,r,w,m,a,C,s,rfl,R,h1,h2,h3,h4,h5,q1,q2⟩:=h
 have l1:=h4.l1
 have l2:=h4.l2
 have l4:=h4.l4
 have so:=h4.so
 cases r with
 | take sh e sl' =>
  unfold RwAt at h1
  unfold qD at h3
  obtain⟨r,te,rfl,_,_,e2,e3⟩:=h1
  refine kC rfl e2 rfl (λ_=>?_) λz=>absurd rfl z
  refine⟨_,rfl,x,_,_,rfl,R.ix,rfl,zaa R so rfl rfl e2 rfl rfl e3 h3 (λi q H1 hk s1 hq=>?_) λer H1 hk s1=>q2 H1 er (by unfold doR;simp only[hk]) s1⟩
  have R1:=R.same s1
  refine⟨_,rfl,x,q,(sh,i),w,a,C,s,rfl,R1,hq,by have:=h4.l3;lia,λH2 K2 R2=>?_⟩
  have hs2:=R2.hs
  rw[zdU] at hs2
  exact qF rfl R2.ix F.cl F.n4 rfl (W1 rfl (K2 _ _ (R1.notup (s1 _ _ e2)) (s1 _ _ e2)) rfl ⟨_,_,rfl,DPut.k (k:=.inr sl') hs2 (bY (by lia:_<=900) (by lia)),q1 _ _ (by unfold doR;simp only[hk]) ((Kp.of_same s1).trans (K2.trans (wO (.inr (.inl rfl))))) (R2.putS _)⟩)
 | give sh e f =>
  unfold RwAt at h1
  unfold qD at h3
  obtain⟨r,te,tf,rfl,_,_,_,e2,e3,e4⟩:=h1
  refine kC rfl e2 rfl (λz=>absurd z (by lia)) λ_=>kC rfl e2 rfl (λ_=>?_) λz=>absurd rfl z
  refine zaa R so rfl rfl e2 rfl rfl e3 h3.1 (λi q H1 hk s1 hq=>?_) λer H1 hk s1=>q2 H1 er (by unfold doR;simp only[hk]) s1
  have R1:=R.same s1
  refine Zo R1 so rfl rfl (s1 _ _ e2) rfl (s1 _ _ e4) h3.2 λH3 s3=>?_
  cases hk2:rk s.sl f with
  | error er=>exact fin_err.mpr (q2 H3 er (by unfold doR;simp only[hk,hk2]) (s1.trans s3))
  | ok n =>
   have R3:=R1.same s3
   have ld:=wj s.gi
   refine fin_ok.mpr (qF rfl R3.ix F.cl F.n5 rfl ⟨_,rfl,_,_,rfl,DPut.t (k:=zy (sh,i)) R3.hg (s3 _ _ hq) (bY (by lia:_<=900) (by lia)),?_⟩)
   rw[show yC (dOf s.gi) (zy (sh,i)) (V.int n)=dOf (s.gi ++ [((sh,i),n)]) from (qC s.gi ((sh,i),n)).symm]
   exact q1 _ _ (by unfold doR;simp only[hk,hk2]) ((Kp.of_same (s1.trans s3)).trans (wO (.inr (.inr (.inl rfl))))) (R3.putG _)
 | lt sl' e =>
  unfold RwAt at h1
  unfold qD at h3
  obtain⟨r,te,rfl,_,_,e2,e3⟩:=h1
  refine kC rfl e2 rfl (λz=>absurd z (by lia)) λ_=>kC rfl e2 rfl (λz=>absurd z (by lia)) λ_=>kC rfl e2 rfl (λ_=>?_) λz=>absurd rfl z
  refine Zo R so rfl rfl e2 rfl e3 h3 λH1 s1=>?_
  cases hk:rk s.sl e with
  | error er=>exact fin_err.mpr (q2 H1 er (by unfold doR;simp only[hk]) s1)
  | ok n =>
   have R2:=R.same s1
   exact fin_ok.mpr (qF rfl R2.ix F.cl F.n4 rfl (W1 rfl (s1 _ _ e2) rfl ⟨_,_,rfl,DPut.k (k:=.inr sl') R2.hs (bY (by lia:_<=900) (by lia)),q1 _ _ (by unfold doR;simp only[hk]) ((Kp.of_same s1).trans (wO (.inr (.inl rfl)))) (R2.putS _)⟩))
 | say e =>
  unfold RwAt at h1
  unfold qD at h3
  obtain⟨r,te,rfl,_,_,e2,e3⟩:=h1
  refine kC rfl e2 rfl (λz=>absurd z (by lia)) λ_=>kC rfl e2 rfl (λz=>absurd z (by lia)) λ_=>kC rfl e2 rfl (λz=>absurd z (by lia)) λ_=>?_
  unfold ZS yb tBM
  refine qF rfl R.ix F.cl F.n7 rfl ⟨.inl ⟨rfl,_,SqL.of R.ha⟩,?_⟩
  refine Zo R so rfl rfl e2 rfl e3 h3 λH1 s1=>?_
  cases hk:rk s.sl e with
  | error er=>exact fin_err.mpr (q2 H1 er (by unfold doR;simp only[hk]) s1)
  | ok n =>
   have R1:=R.same s1
   refine fin_ok.mpr ⟨_,_,_,rfl,rfl,R1.ha,bY (by rw[bo];lia:_<=900) (by lia),?_⟩
   rw[show cM V.int s.sa ++ [V.int n]=cM V.int (s.sa ++ [n]) by simp]
   exact q1 _ _ (by unfold doR;simp only[hk]) ((Kp.of_same s1).trans (wO (.inr (.inr (.inr (.inr rfl)))))) (R1.putA _)
 | off e=>exact h2.elim
 | iff e b d=>exact h2.elim
theorem Vm{vs:List V}(F:RnF K t)(h:wR t vs H Q E) :
  ZU K t E (qqN Q) (L2.start ["self","due","worth"] vs) H:=by
 obtain⟨x,v,c,w,m,a,C,s,rfl,R,h1,h2,h3,h4,q1,q2⟩:=h
 have so:=h3.so
 have nx:∀ {v' H1 s1},RnAt t H1 x a C s1->(∀k:Nat,k=s1.n + 1->Q (.int (k:Nat)) H1)->zG (tOp (rI0 λi j=>.int (i + j)) (zN K (zb 0) "at") (tC (.int 1))) (qqN Q) (L2.start ["self","due","worth"] [.ref x,v',.int w]) H1:=λR1 q=>by
  unfold zG tOp
  exact qF rfl R1.ix F.cl F.n2 rfl ⟨_,_,rfl,rfl,q _ rfl⟩
 cases c with
 | go en =>
  obtain⟨p,rfl,e2⟩:=h1
  refine kC rfl e2 rfl (λ_=>?_) λz=>absurd rfl z
  exact W1 rfl e2 rfl (q1 H s en rfl (.of_same λ_ _ z=>z) R)
 | skip e to =>
  obtain⟨p,te,rfl,e2,e3⟩:=h1
  refine kC rfl e2 rfl (λz=>absurd z (by lia)) λ_=>kC rfl e2 rfl (λ_=>?_) λz=>absurd rfl z
  refine Zo R so rfl rfl e2 rfl e3 h2 λH1 s1=>?_
  cases hk:rk s.sl e with
  | error er=>exact fin_err.mpr (q2 H1 er (by unfold xm;simp only[hk]) s1)
  | ok n =>
   have R2:=R.same s1
   refine fin_ok.mpr ⟨rfl,_,rfl,zg1 (λhn=>?_) λhn=>?_⟩
   ·exact W1 rfl (s1 _ _ e2) rfl (q1 H1 s to (by unfold xm;simp only[hk,ao hn]) (.of_same s1) R2)
   ·exact nx R2 λk hk'=>q1 H1 s k (by unfold xm;simp only[hk,ak hn,hk']) (.of_same s1) R2
 | row r =>
  obtain⟨h1,hni⟩:=h1
  rcases zfe r hni with ⟨e,rfl⟩ | hdo
  ·unfold RwAt at h1
   unfold J5 qD at h2
   obtain⟨r,te,rfl,_,_,e2,e3⟩:=h1
   refine kC rfl e2 rfl (λz=>absurd z (by lia)) λ_=>kC rfl e2 rfl (λz=>absurd z (by lia)) λ_=>kC rfl e2 rfl (λ_=>?_) λz=>absurd rfl z
   refine Zo R so rfl rfl e2 rfl e3 h2 λH1 s1=>?_
   cases hk:rk s.sl e with
   | error er=>exact fin_err.mpr (q2 H1 er (by unfold xm;simp only[hk]) s1)
   | ok n =>
    have R2:=R.same s1
    refine fin_ok.mpr ⟨rfl,_,rfl,zg0 (λhn=>?_) λhn=>?_⟩
    ·have R3:=R2.putI { s with why:=aa (bc "told") } rfl rfl rfl rfl
     refine⟨_,rfl,_,_,_,_,rfl,R2.ix,F.cl,F.n3,(by show (7:Nat) < 1000;decide),?_⟩
     exact nx R3 λk hk'=>q1 _ { s with why:=aa (bc "told") } k (by unfold xm;simp only[hk,ak hn,hk']) ((Kp.of_same s1).trans (wO (.inl rfl))) R3
    ·exact nx R2 λk hk'=>q1 H1 s k (by unfold xm;simp only[hk,ao hn,hk']) (.of_same s1) R2
  ·obtain⟨p,zs,hd,rfl,e2,e3,n1,n2,n3⟩:=zff h1 hdo
   have el:=QE (w:=w) (s:=s) hdo
   refine kC rfl e2 e3 (λz=>absurd z n1) λ_=>kC rfl e2 e3 (λz=>absurd z n2) λ_=>kC rfl e2 e3 (λz=>absurd z n3) λ_=>?_
   refine⟨_,rfl,x,_,_,rfl,R.ix,rfl,_,rfl,_,rfl,x,_,r,w,m,a,C,s,rfl,R,h1,hdo,h2,h3,h4,λH1 s' e K1 R1=>?_,λH1 er e s1=>q2 H1 er (by rw[el,e]) s1⟩
   have en:=zg6 hdo e
   exact nx R1 λk hk'=>q1 H1 s' k (by rw[el,e,hk',en]) K1 R1
end
section
variable {x:ac}{a:RAd}{C:List Cs}{s:RSt}{E:XK}
theorem Kq{vs:List V}{_E:XK}{P:Str->Option ae}(T:Txt K P t)(h:js t vs H Q _E) :
  XR K t (qqN Q) (L2.start ["self","place"] vs) H:=by
 obtain⟨x,a,C,s,rfl,R,h2,h3,q1,q2⟩:=h
 have F:=rnF T
 refine⟨_,rfl,x,_,_,rfl,R.ix,rfl,x,a,C,s,rfl,R,λH1 s1=>⟨_,rfl,?_⟩⟩
 show if _ then _ else _
 have R1:=R.same s1
 by_cases ho:yp C s=af
 ·rw[ao ho]
  show if _ then _ else _
  rw[ao rfl]
  exact q1 H1 (by unfold jX;rw[ao ho]) s1
 rw[ak ho]
 obtain⟨xs,hx,pr⟩:=R1.hc
 have lx:=bF pr
 have lt:=YT ho
 have hc:C[s.n]?=aa C[s.n]:=bb lt
 have hv:xs[s.n]?=aa xs[s.n]:=bb (by lia)
 have cv:=yv pr hv hc
 have ok:=h2 _ (eN lt)
 have es:jX C s=vy C[s.n] s:=by unfold jX;rw[ak ho,hc];rfl
 rw[es] at q1 q2
 obtain⟨p,zs,hd,ev,hp,h0,ht,hnt⟩:=zgs cv
 unfold zB tOp
 refine qF rfl R1.ix F.cl F.n1 rfl (qF rfl R1.ix F.cl F.n2 rfl ⟨_,xs,_,_,rfl,rfl,SqL.of hx,wc hv,p,zs,0,_,ev,rfl,SqT.of hp,h0,rfl,_,rfl,?_⟩)
 show if _ then _ else _
 by_cases hh:hd=bc "take"
 case neg =>
  rw[ao (by rw[decide_eq_false (λz=>hh (V.str.inj z))];rfl)]
  exact q1 H1 (hnt hh s) s1
 rw[ak (by rw[hh];decide)]
 obtain⟨sh,e,sl,te,ec,a1,a2,ht⟩:=ht hh
 rw[ec] at q1 q2 ok
 unfold J5 qD at ok
 refine⟨_,rfl,x,_,_,rfl,R1.ix,rfl,?_⟩
 unfold zc tOp
 refine qF rfl R1.ix F.cl F.n1 rfl (qF rfl R1.ix F.cl F.n2 rfl ⟨_,xs,_,_,rfl,rfl,SqL.of hx,wc hv,?_⟩)
 refine⟨x,p,zs,sh,te,e,a,C,s,by rw[ev];rfl,R1,h3,hp,a1,a2,ht,ok,λi q H2 hk s2 hq=>?_,λer H2 hk s2=>?_⟩
 case refine_2 =>
  have q':=q1 H2 (by unfold vy;simp only[hk]) (s1.trans s2)
  cases er with
  | nought=>exact⟨t.q06,rfl,T.m_Nought_Great_Nought,q'⟩
  | great=>exact⟨t.q07,rfl,T.m_Great_Great_Nought,q'⟩
  | stuck=>trivial
 have R2:=R1.same s2
 have g1:DGet H2 a.gi (.ref q) ((zx s.gi (sh,i)).map V.int):=.inr ⟨dOf s.gi,zy (sh,i),q,.inl R2.hg,rfl,hq,(xA _ _).symm⟩
 have g2:DGet H2 a.no (.ref q) ((zx s.no (sh,i)).map V.int):=.inr ⟨dOf s.no,zy (sh,i),q,.inl R2.hn,rfl,hq,(xA _ _).symm⟩
 refine⟨_,rfl,?_⟩
 refine qF rfl R2.ix F.cl F.n5 rfl ⟨_,_,rfl,g1,_,rfl,?_⟩
 show if _ then _ else _
 cases hg:zx s.gi (sh,i) with
 | some j =>
  rw[ao (by rfl)]
  show if _ then _ else _
  rw[ao rfl]
  exact q1 H2 (by unfold vy;simp only[hk,hg];rfl) (s1.trans s2)
 | none =>
  rw[ak (by lia)]
  refine⟨_,rfl,?_⟩
  refine qF rfl R2.ix F.cl F.n6 rfl ⟨_,_,rfl,g2,_,rfl,?_⟩
  show if _ then _ else _
  cases hn:zx s.no (sh,i) with
  | some j =>
   rw[ao (by rfl)]
   exact q1 H2 (by unfold vy;simp only[hk,hg,hn];rfl) (s1.trans s2)
  | none =>
   rw[ak (by lia)]
   refine⟨_,rfl,?_⟩
   exact q2 (sh,i) q H2 (by unfold vy;simp only[hk,hg,hn];rfl) (s1.trans s2) hq
end
end
section
variable {P:au}{w:aw}{K:bx}{mg:Str->Option ae}{base:av}{t:Adr}
theorem xl(T:Txt K mg t):FnOk P w K mg base (CX1 P w) 1 t.a0 t.d0 ["word"] (ym):=by
 refine T.g0.f.okA YM λvs H Q E h=>⟨?_,λ_ _ _ _ hr=>⟨wC K t,(zd (zM (zu Xa (pv 0) (zS (kB (x:="take") (kB (x:="give") (kB (x:="let") (kB (x:="say") (kB (x:="off") (kB (x:="if") (kB (x:="else") (kB (x:="end") (kB (x:="as") ze)))))))))) (by with_unfolding_all rfl)) (zh (zt (zm wG (pv 0) (zE (x:="z")))))
   zA)
  (zd (zM (zu Xa (pv 0) (zS (za (zE (x:="plus")) (za (zE (x:="minus")) (za (zE (x:="times")) (za (zE (x:="over")) (za (zE (x:="rest")) (za (zE (x:="under")) (za (zE (x:="same")) ze)))))))) (by with_unfolding_all rfl)) (zh (zt (zm wG (pv 0) (zE (x:="z")))))
    zA)
  (zh (zt (pv 0))))),Yo h⟩⟩
 obtain⟨w,rfl,_⟩:=h;rfl
theorem jP(T:Txt K mg t):FnOk P w K mg base (CX1 P w) 1 t.a1 t.d1 ["cell","many"] (xb):=by
 refine T.g1.f.okA q0f λvs H Q E h=>⟨?_,λ_ _ _ _ hr=>⟨ZN K t,(zd (zw (i:=2) q0f.nd rfl (bZ rfl) (yu ze))
  (zd (zw (i:=3) q0f.nd rfl (bZ rfl) (zm zY (zm zV (pv 0) (zf (i:=1000003))) (zf (i:=17))))
  (zd (zw (i:=4) q0f.nd rfl (bZ rfl) (zm zY (zm zV (zm zX (pv 0) (zf (i:=1000003))) (zf (i:=999983))) (zf (i:=29))))
  (zd (xE cK rfl (vH rfl T.q0l (za (pv 1) ze)) (ye (i:=5) q0f.nd rfl (bZ rfl)) (zd (zw (i:=3) q0f.nd rfl (bZ rfl) (zm zV (zm zY (zm zY (zm wQ (pv 3) (pv 3)) (zm wQ (zf (i:=3)) (pv 4))) (pv 5)) (zf (i:=1000003))))
  (zd (zw (i:=4) q0f.nd rfl (bZ rfl) (zm zV (zm zY (zm zY (zm wQ (pv 4) (pv 3)) (zm wQ (zf (i:=7)) (pv 3))) (zf (i:=11))) (zf (i:=999983))))
  (zh (zP (we bS cw cx yF (pv 2) (za (zm zY (zm wQ (pv 3) (zf (i:=999983))) (pv 4)) ze)))))))
  (zh (zt (pv 2))))))),Vf h⟩⟩
 obtain⟨c,m,rfl,_⟩:=h;rfl
theorem Y3(T:Txt K mg t):FnOk P w K mg base (CX1 P w) 2 t.a2 t.d2 ["cell"] (vD):=by
 refine T.g2.f.okA q0i λvs H Q E h=>⟨?_,λ_ _ _ _ hr=>⟨kS K t,(zd (zw (i:=1) q0i.nd rfl (mX rfl) (zE (x:="abcdefghijklmnopqrstuvwxyz")))
  (zd (zw (i:=2) q0i.nd rfl (bZ rfl) (we nB PySem.F.slot_str_join PySem.F.type_str_join zeN (zE (x:="")) (za (JK rfl (osc:=zj jq) (N:=["cell","letters","word","one","at","letter"]) (xs:=["number"]) (ix:=[1]) (by lia) (xx (pcG (jP T) T.g1 hr zq (za (pv 0) (za (zm zY (zf (i:=1)) (zm zV (pv 0) (zf (i:=6)))) ze)))) (λ_ _ _ _=>(ye (i:=0) (show gP (["number","letters"]:List Str) from (by lia)) rfl (bZ rfl) (.inr rfl))) (λ_ _ _ _=>YC) (λ_ _ _ _=>(zI zas (pv 1) (zm zV (pv 0) (zf (i:=26))) (λ_ _=>rfl)))) ze)))
  (zd (zw (i:=3) q0i.nd rfl (bZ rfl) (pcG (xl T) T.g0 hr zq (za (pv 2) ze)))
  (zd (zw (i:=4) q0i.nd rfl (bZ rfl) (zm zV (zm zX (pv 0) (zf (i:=6))) (zF ya rfl T.q05 yD (za (pv 3) ze))))
  (zd (zw (i:=5) q0i.nd rfl (bZ rfl) (zI zas (pv 1) (zm zV (zm zY (zm zY (we nB PySem.F.slot_str_find PySem.F.type_str_find zeM (pv 1) (za (zI zas (pv 3) (pv 4) (λ_ _=>rfl)) ze)) (zf (i:=1))) (zm zV (zm zX (pv 0) (zf (i:=36))) (zf (i:=25)))) (zf (i:=26))) (λ_ _=>rfl)))
  (zd (zM (PW.pt (Wv (zu yA (zm zV (zm zX (pv 0) (zf (i:=900))) (zf (i:=3))) (zf (i:=0)) (zD _)) (Yu (zu qe (zF ya rfl T.q05 yD (za (pv 3) ze)) (zf (i:=6)) (zD _))))) (zh (zt (yu (za (pv 3) (za (pcG (xl T) T.g0 hr zq (za (zm wG (pv 3) (pv 5)) ze)) ze)))))
    zA)
  (zd (zM (PW.pt (Wv (zu yA (zm zV (zm zX (pv 0) (zf (i:=900))) (zf (i:=3))) (zf (i:=1)) (zD _)) (Yu (zu qe (zF ya rfl T.q05 yD (za (pv 3) ze)) (zf (i:=6)) (zD _))))) (zh (zt (yu (za (pcG (xl T) T.g0 hr zq (za (zm wG (pv 5) (pv 3)) ze)) (za (pv 3) ze)))))
    zA)
  (zh (zt (yu (za (pv 3) (za (pcG (xl T) T.g0 hr zq (za (zm wG (zm wG (x9 zcS (pv 3) Yx (xz (pv 4))) (pv 5)) (x9 zcS (pv 3) (xz (zm zY (pv 4) (zf (i:=1)))) Yx)) ze)) ze)))))))))))),VJ h⟩⟩
 obtain⟨c,rfl,_⟩:=h;rfl
theorem wE(T:Txt K mg t):FnOk P w K mg base (CX1 P w) 1 t.a3 t.d3 ["number"] (yZ):=by
 refine T.g3.f.okA W4 λvs H Q E h=>⟨?_,λ_ _ _ _ hr=>⟨v7 K t,(zd (zM (zu yA (zm zV (pv 0) (zf (i:=4))) (zf (i:=0)) (zD _)) (zh (zt (zm jC (zm zV (zm wQ (pv 0) (zm ZZ (zf (i:=1000000007)) (zf (i:=3)))) (zm zY (zm wQ (zf (i:=2)) (zm ZZ (zf (i:=10)) (zf (i:=30)))) (zf (i:=1)))) (zm ZZ (zf (i:=10)) (zf (i:=30))))))
   zA)
  (zh (zt (zm jC (zm zV (zm zX (pv 0) (zf (i:=4))) (zf (i:=6))) (zf (i:=2)))))),Wg h⟩⟩
 obtain⟨n,rfl,_⟩:=h;rfl
theorem VQ(T:Txt K mg t):FnOk P w K mg base (CX1 P w) 2 t.a4 t.d4 ["cell","shelves"] (jH):=by
 refine T.g4.f.okA q0m λvs H Q E h=>⟨?_,λ_ _ _ _ hr=>⟨ZO K t,(zd (zw (i:=2) q0m.nd rfl (bZ rfl) (pcG (jP T) T.g1 hr zq (za (pv 0) (za (zf (i:=10)) ze))))
  (zd (zw (i:=3) q0m.nd rfl (mX rfl) jS)
  (zd (xE cK rfl (vH rfl T.q0l (za (zm zV (pv 0) (zf (i:=6))) ze)) (ye (i:=4) q0m.nd rfl (bZ rfl)) (zd (zw (i:=5) q0m.nd rfl (bZ rfl) (pcG (wE T) T.g3 hr zq (za (zI zR (pv 2) (zm zY (pv 4) (zf (i:=5))) (λ_ _=>rfl)) ze)))
  (zh (zM (zu XE (pv 5) (zf (i:=0)) (zD _)) (zh (wP (yy hr) (pv 3) (zS (za (zI zR (pv 1) (zm zV (zI zR (pv 2) (pv 4) (λ_ _=>rfl)) (zf (i:=2))) (λ_ _=>rfl)) (za (zm zV (zm zX (zI zR (pv 2) (pv 4) (λ_ _=>rfl)) (zf (i:=2))) (zf (i:=3))) ze))) (pv 5) rfl))
    zA))))
  (zh (zt (JK rfl (osc:=zj vC) (N:=["cell","shelves","xs","found","k","worth"]) (xs:=["place"]) (ix:=[3]) (by lia) (xx (zF (YF rfl) rfl T.q0x Zu (za (pv 3) ze))) (λ_ _ _ _=>(ye (i:=0) (show gP (["place","found"]:List Str) from (by lia)) rfl (bZ rfl) (.inr rfl))) (λ_ _ _ _=>YC) (λ_ _ _ _=>(zS (za (pv 0) (za (wf (yy hr) (pv 1) (pv 0) (λ_ _=>rfl)) ze)))))))))),Vg h⟩⟩
 obtain⟨c,a,ws,rfl,_⟩:=h;rfl
theorem VR(T:Txt K mg t):FnOk P w K mg base (CX1 P w) 1 t.a5 t.d5 ["self","table"] (jI t):=by
 refine T.q1n.ok0 Vu (λvs H Q E h=>?_) (λcdv A outer s H vs Q E hr h=>?_)
 ·obtain⟨x,h,dx,rows,rfl,_⟩:=h;rfl
 exact⟨jL K t,(zd (yq (f:="ground") (pv 0) (yM (xM rfl (hu3 hr)) rfl T.q0w Wn (za (pv 1) ze)) rfl)
  (zd (yq (f:="folded") (pv 0) (zf (i:=0)) rfl)
  (zd (yq (f:="worths") (pv 0) qw rfl)
  (zh (yq (f:="ranks") (pv 0) jS rfl))))),Vd (mkF T) h⟩
theorem Kr(T:Txt K mg t):FnOk P w K mg base (CX1 P w) 1 t.a6 t.d6 ["self","makes"] (kR t):=by
 refine T.q1p.ok0 J2 (λvs H Q E h=>?_) (λcdv A outer s H vs Q E hr h=>?_)
 ·obtain⟨x,m,dx,rfl,_⟩:=h;rfl
 exact⟨kT K t,(zd (yq (f:="makes") (pv 0) (pv 1) rfl)
  (zd (yq (f:="laid") (pv 0) qw rfl)
  (zd (yq (f:="readers") (pv 0) jS rfl)
  (zh (yq (f:="doubted") (pv 0) qw rfl))))),VO (dkF T) h⟩
theorem Y4(T:Txt K mg t):FnOk P w K mg base (CX1 P w) 3 t.a7 t.d7 ["self","table","hands","way","first"] (wz t):=by
 refine T.q1r.ok0 J3 (λvs H Q E h=>?_) (λcdv A outer s H vs Q E hr h=>?_)
 ·obtain⟨x,l,w,dx,dw,f,g,rfl,_⟩:=h;rfl
 exact⟨kU K t,(zd (yq (f:="hands") (pv 0) (pv 2) rfl)
  (zd (yq (f:="way") (pv 0) (pv 3) rfl)
  (zd (yq (f:="first") (pv 0) (pv 4) rfl)
  (zd (yq (f:="codes") (pv 0) (yu ze) rfl)
  (zd (yq (f:="waiting") (pv 0) (yu ze) rfl)
  (zd (yq (f:="held") (pv 0) qw rfl)
  (zd (yq (f:="makes") (pv 0) (Zq T.mk_Makes (FnOk.mono (VR T) (by lia)) hr rfl T.g_Makes T.q1o .nil zq (za (pv 1) ze)) rfl)
  (zd (yq (f:="jobs") (pv 0) (Zq T.mk_Jobs (FnOk.mono (Kr T) (by lia)) hr rfl T.g_Jobs T.q1q .nil zq (za (zv (f:="makes") (pv 0) rfl) ze)) rfl)
  (zh (yq (f:="ended") (pv 0) (yu ze) rfl)))))))))),VP (dkF T) h⟩
theorem XY(T:Txt K mg t):FnOk P w K mg base (CX1 P w) 1 t.a8 t.d8 ["self","code"] (qR t):=by
 refine T.q1t.ok0 Qn (λvs H Q E h=>?_) (λcdv A outer s H vs Q E hr h=>?_)
 ·obtain⟨x,l,dx,xs,C,rfl,_⟩:=h;rfl
 obtain⟨x,l,dx,xs,C,rfl,h1,h2,h3,q⟩:=h
 exact⟨q8 K t,(zd (yq (f:="code") (pv 0) (yM wd rfl T.q0c wg (za (pv 1) ze)) rfl)
  (zd (yq (f:="at") (pv 0) (zf (i:=0)) rfl)
  (zd (yq (f:="why") (pv 0) xg rfl)
  (zd (yq (f:="slots") (pv 0) qw rfl)
  (zd (yq (f:="gifts") (pv 0) jS rfl)
  (zd (yq (f:="notes") (pv 0) jS rfl)
  (zh (yq (f:="sayings") (pv 0) (yu ze) rfl)))))))),VN (rnF T) h1 h2 h3 q⟩
theorem zab(T:Txt K mg t):FnOk P w K mg base (CX1 P w) 1 t.a9 t.d9 ["rows"] (jt):=by
 refine T.g9.f.okA q19 λvs H Q E h=>⟨?_,λ_ _ _ _ hr=>⟨ju K t,(zd (zw (i:=1) q19.nd rfl (mX rfl) (yM (xM rfl (hu3 hr)) rfl T.q0w Wn (za (pv 0) ze)))
  (zh (zt (JK rfl (osc:=zj kE) (N:=["rows","worths"]) (xs:=["place"]) (ix:=[1]) (by lia) (xx (zF (YF rfl) rfl T.q0x Zu (za (pv 1) ze))) (λ_ _ _ _=>(ye (i:=0) (show gP (["place","worths"]:List Str) from (by lia)) rfl (bZ rfl) (.inr rfl))) (λ_ _ _ _=>(zeF (zu XE (wf (yy hr) (pv 1) (pv 0) (λ_ _=>rfl)) (zf (i:=0)) (zD _)))) (λ_ _ _ _=>(zS (za (pv 0) (za (wf (yy hr) (pv 1) (pv 0) (λ_ _=>rfl)) ze)))))))),Ke h⟩⟩
 obtain⟨a,rows,rfl,_⟩:=h;rfl
theorem za6(T:Txt K mg t):FnOk P w K mg base (CX1 P w) 2 t.a10 t.d10 ["table","gifts"] (kP):=by
 refine T.g10.f.okA zaS λvs H Q E h=>⟨?_,λ_ _ _ _ hr=>⟨Yj K t,(zh (zt (pcG (zab T) T.g9 hr zq (za (zm vP (pv 0) (pv 1)) ze)))),QN h⟩⟩
 obtain⟨a,b,tab,gifts,rfl,_⟩:=h;rfl
theorem vf(T:Txt K mg t):FnOk P w K mg base (CX1 P w) 1 t.a11 t.d11 ["self"] (yQ t):=by
 refine T.g11.f.okA Qo λvs H Q E h=>⟨?_,λ_ _ _ _ hr=>⟨q9 K t,(zh (zt (zgK (Wk Wj (zv (f:="why") (pv 0) rfl) xg (zD _)) (Jw (Wk zfz (zv (f:="at") (pv 0) rfl) (zF ya rfl T.q05 yD (za (zv (f:="code") (pv 0) rfl) ze)) (zD _)))))),Kb (rnF T) h⟩⟩
 obtain⟨x,a,C,s,rfl,_⟩:=h;rfl
theorem za7(T:Txt K mg t):FnOk P w K mg base (CX1 P w) 1 t.a12 t.d12 ["word","first","second"] (kL t):=by
 refine T.g12.f.okB zaT λvs H Q E h=>⟨?_,λ_ _ _ _ hr=>⟨Yk K t E,(zd (zM (zu yA (pv 2) (zf (i:=0)) (zD _)) (zh (KW rfl T.q2n zbm rfl T.g_Nought (za (zbn (pv 0)) ze)))
   zA)
  (zh (zt (vN (zu yA (pv 0) (zE (x:="over")) (zD _)) (zm zc1 (pv 1) (pv 2)) (zm zeu (pv 1) (pv 2)))))),QA h⟩⟩
 obtain⟨w,a,b,rfl,_⟩:=h;rfl
theorem za8(T:Txt K mg t):FnOk P w K mg base (CX1 P w) 2 t.a13 t.d13 ["word","first","second"] (kM t):=by
 refine T.g13.f.okB zaU λvs H Q E h=>⟨?_,λ_ _ _ _ hr=>⟨Yl K t E,(zd (zM (zu yA (pv 0) (zE (x:="plus")) (zD _)) (zh (zt (zm zY (pv 1) (pv 2))))
   zA)
  (zd (zM (zu yA (pv 0) (zE (x:="minus")) (zD _)) (zh (zt (zm jC (pv 1) (pv 2))))
    zA)
  (zd (zM (zu yA (pv 0) (zE (x:="times")) (zD _)) (zh (zt (zm wQ (pv 1) (pv 2))))
    zA)
  (zd (zM (zu yA (pv 0) (zE (x:="under")) (zD _)) (zh (zt (vN (zu qe (pv 1) (pv 2) (zD _)) (zf (i:=1)) (zf (i:=0)))))
    zA)
  (zd (zM (zu yA (pv 0) (zE (x:="same")) (zD _)) (zh (zt (vN (zu yA (pv 1) (pv 2) (zD _)) (zf (i:=1)) (zf (i:=0)))))
    zA)
  (zh (zt (pcG (za7 T) T.g12 hr vR (za (pv 0) (za (pv 1) (za (pv 2) ze))))))))))),QB h⟩⟩
 obtain⟨w,a,b,rfl,_⟩:=h;rfl
theorem zac(T:Txt K mg t):FnOk P w K mg base (CX1 P w) 1 t.a14 t.d14 ["thing"] (qN):=by
 refine T.g14.f.okA Qp λvs H Q E h=>?_
 obtain⟨i,rfl,q⟩:=h
 exact⟨rfl,λ_ _ _ _ hr=>⟨Za K t,(zd (zM (PW.pt (Ww (qt (xn (zF yY rfl T.q0a z4 (za (pv 0) (za (xw rfl T.b_int zcR rfl) ze))))) (ZY (xn (zF yY rfl T.q0a z4 (za (pv 0) (za (xw rfl T.q1m zbl rfl) ze))))))) (zh (zt (Yt (b:=am))))
   zA)
  (zh (zt (zcD zfy zfy (zgL zf0 (zm ZZ (zf (i:=10)) (zf (i:=30)))) (pv 0) (zm ZZ (zf (i:=10)) (zf (i:=30))))))),J7 (kf K).i_b q⟩⟩
theorem zcu(T:Txt K mg t):FnOk P w K mg base (CX1 P w) 3 t.a15 t.d15 ["word","first","second"] (Zx t):=by
 refine T.g15.f.okB q1a λvs H Q E h=>⟨?_,λ_ _ _ _ hr=>⟨Xq K t E,(zd (zw (i:=3) q1a.nd rfl (bZ rfl) (pcG (za8 T) T.g13 hr vR (za (pv 0) (za (pv 1) (za (pv 2) ze)))))
  (zd (zM (qt (xn (pcG (zac T) T.g14 hr vR (za (pv 3) ze)))) (zh (KW rfl T.q2q zbm rfl T.g_Great (za (zbn (pv 0)) ze)))
    zA)
  (zh (zt (pv 3))))),zaX h⟩⟩
 obtain⟨w,a,b,rfl,_⟩:=h;rfl
theorem zad(T:Txt K mg t):FnOk P w K mg base (CX1 P w) 4 t.a16 t.d16 ["term","slots"] (qO t):=by
 refine T.g16.f.okB q0n λvs H Q E h=>?_
 obtain⟨kvs,tm,sl,ps,r,rfl,h1,h2,h3,h4,h5,h6,q⟩:=h
 exact⟨rfl,λ_ _ _ _ hr=>⟨Zb K t E,(zd (zw (i:=2) q0n.nd rfl (bZ rfl) (yu ze))
  (zd (xE zhj rfl (zfX (pv 0)) (ye (i:=3) q0n.nd rfl (bZ rfl)) (zh (zM (zu Xa (pv 3) (zes rfl T.g_JOINING rfl) (by with_unfolding_all rfl)) (zd (zw (i:=4) q0n.nd rfl (bZ rfl) (zat bS iR iS zav (pv 2)))
  (zd (zw (i:=5) q0n.nd rfl (bZ rfl) (zat bS iR iS zav (pv 2)))
  (zh (zP (we bS cw cx yF (pv 2) (za (pcG (zcu T) T.g15 hr vR (za (pv 3) (za (pv 5) (za (pv 4) ze)))) ze))))))
   (zh (zP (we bS cw cx yF (pv 2) (za (vN (xn (zF yY rfl T.q0a z4 (za (pv 3) (za (xw rfl T.q18 zay rfl) ze)))) (vQ (yy hr) (pv 1) (pv 3) (zf (i:=0)) ⟨rfl,rfl,rfl,rfl⟩) (pv 3)) ze)))))))
  (zh (zt (zat bS iR iS zav (pv 2)))))),J8 (kf K).i_s T.q1x h1 h2 h3 h4 h5 h6 q⟩⟩
theorem yP(T:Txt K mg t):FnOk P w K mg base (CX1 P w) 5 t.a17 t.d17 ["self","term"] (yi t):=by
 refine T.g17.f.okB X4 λvs H Q E h=>?_
 obtain⟨x,tm,e,a,C,s,rfl,h1,h2,h3,h4,q⟩:=h
 exact⟨rfl,λ_ _ _ _ hr=>⟨vm K t E,(zh (zt (pcG (zad T) T.g16 hr vR (za (pv 1) (za (zv (f:="slots") (pv 0) rfl) ze))))),Xw (rnF T) h1 h2 h3 h4 q⟩⟩
theorem vq(T:Txt K mg t):FnOk P w K mg base (CX1 P w) 6 t.a18 t.d18 ["self","due"] (yO t):=by
 refine T.g18.f.okB X5 λvs H Q E h=>⟨?_,λ_ _ _ _ hr=>⟨vn K t E,(zh (zt (zS (za (zI yc (pv 1) (zf (i:=1)) (λ_ _=>rfl)) (za (zU (pv 0) T.q04 T.g17.me (FnOk.mono (yP T) (by lia)) hr T.g17.b .nil vR (za (zI yc (pv 1) (zf (i:=2)) (λ_ _=>rfl)) ze)) ze))))),Xx (rnF T) h⟩⟩
 obtain⟨x,p,xs,sh,te,e,a,C,s,rfl,_⟩:=h;rfl
theorem XZ(T:Txt K mg t):FnOk P w K mg base (CX1 P w) 7 t.a19 t.d19 ["self"] (js t):=by
 refine T.g19.f.okA q1b λvs H Q E h=>⟨?_,λ_ _ _ _ hr=>⟨XR K t,(zd (zM (PW.pt (Ww (xn (yz (pv 0) T.q04 T.g11.me (FnOk.mono (vf T) (by lia)) hr T.g11.b .nil zq)) (ZY (zu XE (zI yc (zI zR (zv (f:="code") (pv 0) rfl) (zv (f:="at") (pv 0) rfl) (λ_ _=>rfl)) (zf (i:=0)) (λ_ _=>rfl)) (zE (x:="take")) (zD _))))) (zh (zt xg))
   zA)
  (zd (ze6 (And.intro rfl rfl) rfl (zeI (i:=1) q1b.nd rfl (bZ rfl) (Qe (pv 0) T.q04 T.g18.me (FnOk.mono (vq T) (by lia)) hr T.g18.b (za (zI zR (zv (f:="code") (pv 0) rfl) (zv (f:="at") (pv 0) rfl) (λ_ _=>rfl)) ze))) rfl T.g_Great rfl T.g_Nought (λ_=>(zh (zt xg))))
  (zd (zM (PW.pt (Ww (zu (Wo (yy hr)) (pv 1) (zv (f:="gifts") (pv 0) rfl) (by with_unfolding_all rfl)) (ZY (zu (Wo (yy hr)) (pv 1) (zv (f:="notes") (pv 0) rfl) (by with_unfolding_all rfl))))) (zh (zt xg))
    zA)
  (zh (zt (pv 1)))))),Kq T h⟩⟩
 obtain⟨x,a,C,s,rfl,_⟩:=h;rfl
theorem Ks(T:Txt K mg t):FnOk P w K mg base (CX1 P w) 1 t.a20 t.d20 ["self","place","worth"] (kN t):=by
 refine T.g20.f.okA J4 λvs H Q E h=>⟨?_,λ_ _ _ _ hr=>⟨kW K t,(zd (zM (zu (Wo (yy hr)) (pv 1) (zv (f:="gifts") (pv 0) rfl) (by with_unfolding_all rfl)) (zh (zt (wf (yy hr) (zv (f:="gifts") (pv 0) rfl) (pv 1) (λ_ _=>rfl))))
   zA)
  (zd (zM (zu (WS (yy hr)) (pv 1) (zv (f:="notes") (pv 0) rfl) (by with_unfolding_all rfl)) (zh (wP (yy hr) (zv (f:="notes") (pv 0) rfl) (pv 1) (pv 2) rfl))
    zA)
  (zh (zt (wf (yy hr) (zv (f:="notes") (pv 0) rfl) (pv 1) (λ_ _=>rfl)))))),VC (rnF T) h⟩⟩
 obtain⟨x,q,p,w,a,C,s,rfl,_⟩:=h;rfl
theorem zae(T:Txt K mg t):FnOk P w K mg base (CX1 P w) 7 t.a21 t.d21 ["self","due","worth"] (qS t):=by
 refine T.g21.f.okB q1c λvs H Q E h=>⟨?_,λ_ _ _ _ hr=>⟨XS K t E,(zh (zM (zu yA (zI yc (pv 1) (zf (i:=0)) (λ_ _=>rfl)) (zE (x:="take")) (zD _)) (zh (wP (yy hr) (zv (f:="slots") (pv 0) rfl) (zI yc (pv 1) (zf (i:=3)) (λ_ _=>rfl)) (zU (pv 0) T.q04 T.g20.me (FnOk.mono (Ks T) (by lia)) hr T.g20.b .nil vR (za (zU (pv 0) T.q04 T.g18.me (FnOk.mono (vq T) (by lia)) hr T.g18.b .nil vR (za (pv 1) ze)) (za (pv 2) ze))) rfl))
   (zh (zM (zu yA (zI yc (pv 1) (zf (i:=0)) (λ_ _=>rfl)) (zE (x:="give")) (zD _)) (zd (zw (i:=3) q1c.nd rfl (bZ rfl) (zU (pv 0) T.q04 T.g18.me (FnOk.mono (vq T) (by lia)) hr T.g18.b .nil vR (za (pv 1) ze)))
  (zh (wP (yy hr) (zv (f:="gifts") (pv 0) rfl) (pv 3) (zU (pv 0) T.q04 T.g17.me (FnOk.mono (yP T) (by lia)) hr T.g17.b .nil vR (za (zI yc (pv 1) (zf (i:=3)) (λ_ _=>rfl)) ze)) rfl)))
   (zh (zM (zu yA (zI yc (pv 1) (zf (i:=0)) (λ_ _=>rfl)) (zE (x:="let")) (zD _)) (zh (wP (yy hr) (zv (f:="slots") (pv 0) rfl) (zI yc (pv 1) (zf (i:=1)) (λ_ _=>rfl)) (zU (pv 0) T.q04 T.g17.me (FnOk.mono (yP T) (by lia)) hr T.g17.b .nil vR (za (zI yc (pv 1) (zf (i:=2)) (λ_ _=>rfl)) ze)) rfl))
   (zh (zP (we bS cw cx yF (zv (f:="sayings") (pv 0) rfl) (za (zU (pv 0) T.q04 T.g17.me (FnOk.mono (yP T) (by lia)) hr T.g17.b .nil vR (za (zI yc (pv 1) (zf (i:=1)) (λ_ _=>rfl)) ze)) ze)))))))))),Ko (rnF T) h⟩⟩
 obtain⟨x,v,r,w,m,a,C,s,rfl,_⟩:=h;rfl
theorem VS(T:Txt K mg t):FnOk P w K mg base (CX1 P w) 8 t.a22 t.d22 ["self","due","worth"] (wR t):=by
 refine T.g22.f.okB Vv λvs H Q E h=>⟨?_,λ_ _ _ _ hr=>⟨ZU K t E,(zd (zM (zu yA (zI yc (pv 1) (zf (i:=0)) (λ_ _=>rfl)) (zE (x:="go")) (zD _)) (zh (zt (zI yc (pv 1) (zf (i:=1)) (λ_ _=>rfl))))
   zA)
  (zd (zM (zu yA (zI yc (pv 1) (zf (i:=0)) (λ_ _=>rfl)) (zE (x:="skip")) (zD _)) (zh (zt (vN (zu yA (zU (pv 0) T.q04 T.g17.me (FnOk.mono (yP T) (by lia)) hr T.g17.b .nil vR (za (zI yc (pv 1) (zf (i:=1)) (λ_ _=>rfl)) ze)) (zf (i:=0)) (zD _)) (zI yc (pv 1) (zf (i:=2)) (λ_ _=>rfl)) (zm zY (zv (f:="at") (pv 0) rfl) (zf (i:=1))))))
    zA)
  (zd (zM (zu yA (zI yc (pv 1) (zf (i:=0)) (λ_ _=>rfl)) (zE (x:="off")) (zD _)) (zh (zM (zu XE (zU (pv 0) T.q04 T.g17.me (FnOk.mono (yP T) (by lia)) hr T.g17.b .nil vR (za (zI yc (pv 1) (zf (i:=1)) (λ_ _=>rfl)) ze)) (zf (i:=0)) (zD _)) (zh (yq (f:="why") (pv 0) (zE (x:="told")) rfl))
    zA))
    (zh (zP (zU (pv 0) T.q04 T.g21.me (FnOk.mono (zae T) (by lia)) hr T.g21.b .nil vR (za (pv 1) (za (pv 2) ze))))))
  (zh (zt (zm zY (zv (f:="at") (pv 0) rfl) (zf (i:=1)))))))),Vm (rnF T) h⟩⟩
 obtain⟨x,v,c,w,m,a,C,s,rfl,_⟩:=h;rfl
theorem jA(T:Txt K mg t):FnOk P w K mg base (CX1 P w) 9 t.a23 t.d23 ["self","worth"] (xX t):=by
 refine T.q1u.ok0 Qq (λvs H Q E h=>?_) (λcdv A outer s H vs Q E hr h=>?_)
 ·obtain⟨x,w,m,a,C,s,rfl,_⟩:=h;rfl
 exact⟨Zc K t,(zd (zM (xn (yz (pv 0) T.q04 T.g11.me (FnOk.mono (vf T) (by lia)) hr T.g11.b .nil zq)) (zh zet)
   zA)
  (zh (zdm (And.intro rfl rfl) rfl (ze5 (f:="at") (pv 0) (Qe (pv 0) T.q04 T.g22.me (FnOk.mono (VS T) (by lia)) hr T.g22.b (za (zI zR (zv (f:="code") (pv 0) rfl) (zv (f:="at") (pv 0) rfl) (λ_ _=>rfl)) (za (pv 1) ze))) rfl) rfl T.g_Great rfl T.g_Nought (λ_=>(zh (yq (f:="why") (pv 0) (zE (x:="great")) rfl))) (λ_=>(zh (yq (f:="why") (pv 0) (zE (x:="nought")) rfl)))))),Kc T h⟩
theorem Y5(T:Txt K mg t):FnOk P w K mg base (CX1 P w) 2 t.a24 t.d24 ["self"] (ww t):=by
 refine T.g24.f.okA q1d λvs H Q E h=>⟨?_,λ_ _ _ _ hr=>⟨kX K t,(zd (zM (qt (xn (yz (pv 0) T.q04 T.g11.me (FnOk.mono (vf T) (by lia)) hr T.g11.b .nil zq))) (zh (zt xg))
   zA)
  (zd (zw (i:=1) q1d.nd rfl (bZ rfl) (yM (X2 rfl) rfl T.q0c wg (za (Qf (zv (f:="notes") (pv 0) rfl)) ze)))
  (zd (zM (zu Wj (zv (f:="why") (pv 0) rfl) xg (zD _)) (zh (zt (zS (za (zS (za (zE (x:="off")) (za (zv (f:="why") (pv 0) rfl) ze))) (za (pv 1) (za (yu ze) ze))))))
    zA)
  (zh (zt (zS (za (zS (za (zE (x:="done")) (za (yM Vq rfl T.b_tuple WJ (za (zv (f:="sayings") (pv 0) rfl) ze)) ze))) (za (pv 1) (za (zF (YL rfl (hu3 hr)) rfl T.q0x Zu (za (Qf (zv (f:="gifts") (pv 0) rfl)) ze)) ze))))))))),VD (rnF T) h⟩⟩
 obtain⟨x,a,C,s,rfl,_⟩:=h;rfl
theorem Jt(T:Txt K mg t):FnOk P w K mg base (CX1 P w) 1 t.a25 t.d25 ["table","place"] (Zy):=by
 refine T.g25.f.okA zci λvs H Q E h=>⟨?_,λ_ _ _ _ hr=>⟨Xr K t,(zh (zt (vQ (yy hr) (yM (xM rfl (hu3 hr)) rfl T.q0w Wn (za (pv 0) ze)) (pv 1) (zf (i:=0)) ⟨rfl,rfl,rfl,rfl⟩))),za0 h⟩⟩
 obtain⟨l,q0,rows,p,rfl,_⟩:=h;rfl
theorem zaf(T:Txt K mg t):FnOk P w K mg base (CX1 P w) 10 t.a26 t.d26 ["codes","table","first"] (qX):=by
 refine T.g26.f.okA q0e λvs H Q E h=>⟨?_,λ_ _ _ _ hr=>⟨XT K t,(zd (zw (i:=3) q0e.nd rfl (bZ rfl) (yu ze))
  (zd (xE cK rfl (vH rfl T.q0l (za (zF ya rfl T.q05 yD (za (pv 0) ze)) ze)) (ye (i:=4) q0e.nd rfl (bZ rfl)) (zd (zw (i:=5) q0e.nd rfl (bZ rfl) (zm zY (pv 2) (pv 4)))
  (zd (zw (i:=6) q0e.nd rfl (bZ rfl) (Zq T.mk_Run (FnOk.mono (XY T) (by lia)) hr rfl T.g_Run T.q1k .nil zq (za (zI zR (pv 0) (pv 4) (λ_ _=>rfl)) ze)))
  (zd (zP (we bS cw cx yF (pv 3) (za (zS (za (zE (x:="take")) (za (zf (i:=0)) (za (pv 5) ze)))) ze)))
  (zd (xE cK rfl (vH rfl T.q0l (za (zF ya rfl T.q05 yD (za (zI zR (pv 0) (pv 4) (λ_ _=>rfl)) ze)) ze)) (ye (i:=7) q0e.nd rfl (bZ rfl)) (zd (zM (xn (yz (pv 6) T.q04 T.g11.me (FnOk.mono (vf T) (by lia)) hr T.g11.b .nil zq)) (zh zcx)
    zA)
  (zd (zw (i:=8) q0e.nd rfl (bZ rfl) (yz (pv 6) T.q04 T.g19.me (FnOk.mono (XZ T) (by lia)) hr T.g19.b .nil zq))
  (zh (zM (zu JC (pv 8) xg (zD _)) (zd (zP (we bS cw cx yF (pv 3) (za (zS (za (zE (x:="step")) (za (zf (i:=0)) (za (pv 5) ze)))) ze)))
  (zh (zP (Jl (pv 6) T.q04 T.me_Run_step (FnOk.mono (jA T) (by lia)) hr T.bd_Run_step zq))))
   (zd (zP (we bS cw cx yF (pv 3) (za (zS (za (zE (x:="read")) (za (zf (i:=0)) (za (pv 5) (za (pv 8) (za (pcG (Jt T) T.g25 hr zq (za (pv 1) (za (pv 8) ze))) ze)))))) ze)))
  (zh (zP (zU (pv 6) T.q04 T.me_Run_step (FnOk.mono (jA T) (by lia)) hr T.q1l .nil zq (za (pcG (Jt T) T.g25 hr zq (za (pv 1) (za (pv 8) ze))) ze))))))))))
  (zd (zw (i:=3) q0e.nd rfl (bZ rfl) (zm vP (pv 3) (yu (za (zS (za (zE (x:="lay")) (za (zf (i:=0)) (za (pv 5) ze)))) (za (zS (za (zE (x:="settle")) (za (zf (i:=0)) (za (pv 5) ze)))) ze)))))
  (zh (zw (i:=1) q0e.nd rfl (bZ rfl) (pcG (za6 T) T.g10 hr zq (za (pv 1) (za (zI yc (yz (pv 6) T.q04 T.g24.me (FnOk.mono (Y5 T) (by lia)) hr T.g24.b .nil zq) (zf (i:=2)) (λ_ _=>rfl)) ze)))))))))))
  (zh (zt (pv 3))))),Km h⟩⟩
 obtain⟨cl,tl,f,CC,tab,rfl,_⟩:=h;rfl
theorem xa(T:Txt K mg t):FnOk P w K mg base (CX1 P w) 1 t.a27 t.d27 ["script","k"] (yB K):=by
 refine T.g27.f.okA X6 λvs H Q E h=>⟨?_,λ_ _ _ _ hr=>⟨vo K t,(zd (zM (zu qe (pv 1) (zF ya rfl T.q05 yD (za (pv 0) ze)) (zD _)) (zh (zt (zI zR (pv 0) (pv 1) (λ_ _=>rfl))))
   zA)
  (zh (zt (zf (i:=0))))),Xv h⟩⟩
 obtain⟨a,ns,k,rfl,_⟩:=h;rfl
theorem Vn(T:Txt K mg t)(n:Nat)(IH:FnOk P w K mg base (CX1 P w) (2 + 2 * n) t.a29 t.d29 ["rows","first"] (xq n)):FnOk P w K mg base (CX1 P w) (2 + 2 * n + 1) t.a28 t.d28 ["row","at"] (qP n):=by
 refine T.g28.f.okA q0r (k:=2 + 2 * n) λvs H Q E h=>?_
 obtain⟨v,e,a,b,k,rfl,h1,h2,h3,h4,q⟩:=h
 exact⟨rfl,λ_ _ _ _ hr=>⟨Zf K t n,(zd (zw (i:=2) q0r.nd rfl (bZ rfl) (Yw (FnOk.mono IH (by lia)) hr rfl T.g29.m T.g29.f.kp T.g29.b .nil zq (za (zI yc (pv 0) (zf (i:=2)) (λ_ _=>rfl)) (za (zm zY (pv 1) (zf (i:=1))) ze))))
  (zd (zw (i:=3) q0r.nd rfl (bZ rfl) (zm zY (zm zY (pv 1) (zf (i:=1))) (zF ya rfl T.q05 yD (za (pv 2) ze))))
  (zd (zM (zu (K0 (zeO hr)) (zI yc (pv 0) (zf (i:=3)) (λ_ _=>rfl)) (yu ze) (zD _)) (zh (zt (zm vP (yu (za (zS (za (zE (x:="skip")) (za (zI yc (pv 0) (zf (i:=1)) (λ_ _=>rfl)) (za (pv 3) ze)))) ze)) (pv 2))))
    zA)
  (zd (zw (i:=4) q0r.nd rfl (bZ rfl) (Yw (FnOk.mono IH (by lia)) hr rfl T.g29.m T.g29.f.kp T.g29.b .nil zq (za (zI yc (pv 0) (zf (i:=3)) (λ_ _=>rfl)) (za (zm zY (pv 3) (zf (i:=1))) ze))))
  (zh (zt (zm vP (zm vP (zm vP (yu (za (zS (za (zE (x:="skip")) (za (zI yc (pv 0) (zf (i:=1)) (λ_ _=>rfl)) (za (zm zY (pv 3) (zf (i:=1))) ze)))) ze)) (pv 2)) (yu (za (zS (za (zE (x:="go")) (za (zm zY (zm zY (pv 3) (zf (i:=1))) (zF ya rfl T.q05 yD (za (pv 4) ze))) ze))) ze))) (pv 4)))))))),Wf h1 h2 h3 h4 q⟩⟩
theorem zag(T:Txt K mg t):∀n,FnOk P w K mg base (CX1 P w) (2 + 2 * n) t.a29 t.d29 ["rows","first"] (xq n):=by
 intro n
 induction n with
 | zero=>exact⟨λvs H Q E h=>(YS h).elim,λA outer s H args us vs Q E hr he hb hv h=>(YS h).elim⟩
 | succ n IH =>
 refine T.g29.f.okA q0y (k:=2 + 2 * n + 1) λvs H Q E h=>?_
 obtain⟨v,r,k,rfl,h1,h2,h3,q⟩:=h
 exact⟨rfl,λ_ _ _ _ hr=>⟨XU K t n,(zd (zw (i:=2) q0y.nd rfl (bZ rfl) (yu ze))
  (zd (xE cK rfl (xx (pv 0)) (ye (i:=3) q0y.nd rfl (bZ rfl)) (zh (zM (zu yA (zI yc (pv 3) (zf (i:=0)) (λ_ _=>rfl)) (zE (x:="if")) (zD _)) (zh (zP (we bS PySem.F.slot_list_extend PySem.F.type_list_extend zbW (pv 2) (za (Yw (FnOk.mono (Vn T n IH) (by lia)) hr rfl T.g28.m T.g28.f.kp T.g28.b .nil zq (za (pv 3) (za (zm zY (pv 1) (zF ya rfl T.q05 yD (za (pv 2) ze))) ze))) ze))))
    (zh (zP (we bS cw cx yF (pv 2) (za (pv 3) ze)))))))
  (zh (zt (pv 2))))),Ka h1 h2 h3 q⟩⟩
theorem za9(T:Txt K mg t):FnOk P w K mg base (CX1 P w) 15 t.a30 t.d30 ["rows"] (Yh):=by
 refine T.g30.f.okA zaV λvs H Q E h=>⟨?_,λ_ _ _ _ hr=>⟨Ym K t,(zh (zt (pcG (zag T 6) T.g29 hr zq (za (pv 0) (za (zf (i:=0)) ze))))),QD h⟩⟩
 obtain⟨v,r,rfl,_⟩:=h;rfl
theorem jg(T:Txt K mg t):FnOk P w K mg base (CX1 P w) 1 t.a31 t.d31 ["self","rank"] (yw t):=by
 refine T.g31.f.okA Ye λvs H Q E h=>⟨?_,λ_ _ _ _ hr=>⟨xQ K t,(zh (zM (zu qe (pv 1) (zv (f:="folded") (pv 0) rfl) (zD _)) (zh KA)
   zA)),ZE (mkF T) h⟩⟩
 obtain⟨m,dx,fs,low,rank,rfl,_⟩:=h;rfl
theorem xc(T:Txt K mg t):FnOk P w K mg base (CX1 P w) 1 t.a32 t.d32 ["ranks","rank"] (yh):=by
 refine T.g32.f.okA q0j λvs H Q E h=>⟨?_,λ_ _ _ _ hr=>⟨jM K t,(zd (zw (i:=2) q0j.nd rfl (bZ rfl) (zf (i:=0)))
  (zd (zw (i:=3) q0j.nd rfl (bZ rfl) (zF ya rfl T.q05 yD (za (pv 0) ze)))
  (zd (KB cK (zu qe (pv 2) (pv 3) (zD _)) (zd (zw (i:=4) q0j.nd rfl (bZ rfl) (zm zX (zm zY (pv 2) (pv 3)) (zf (i:=2))))
  (zh (zM (zu qe (zI zR (pv 0) (pv 4) (λ_ _=>rfl)) (pv 1) (zD _)) (zh (zw (i:=2) q0j.nd rfl (bZ rfl) (zm zY (pv 4) (zf (i:=1)))))
    (zh (zw (i:=3) q0j.nd rfl (bZ rfl) (pv 4)))))))
  (zh (zt (pv 2)))))),Va h⟩⟩
 obtain⟨a,rs,rank,rfl,_⟩:=h;rfl
theorem ZX(T:Txt K mg t):FnOk P w K mg base (CX1 P w) 2 t.a33 t.d33 ["self","place","rank"] (jJ t):=by
 refine T.g33.f.okA q0z λvs H Q E h=>?_
 obtain⟨m,p,rank,F,g,lays,q0,rfl,h1,h2,h3,q⟩:=h
 exact⟨rfl,λ_ _ _ _ hr=>⟨wS K t,(zd (zP (zU (pv 0) T.q0d T.g31.me (FnOk.mono (jg T) (by lia)) hr T.g31.b .nil zq (za (pv 2) ze)))
  (zd (zw (i:=3) q0z.nd rfl (bZ rfl) (vQ (yy hr) (zv (f:="ranks") (pv 0) rfl) (pv 1) (yu ze) ⟨rfl,rfl,rfl,rfl⟩))
  (zd (zw (i:=4) q0z.nd rfl (bZ rfl) (pcG (xc T) T.g32 hr zq (za (pv 3) (za (pv 2) ze))))
  (zd (zM (zu yA (pv 4) (zf (i:=0)) (zD _)) (zh (zt (vQ (yy hr) (zv (f:="ground") (pv 0) rfl) (pv 1) (zf (i:=0)) ⟨rfl,rfl,rfl,rfl⟩)))
    zA)
  (zh (zt (wf (yy hr) (wf (yy hr) (zv (f:="worths") (pv 0) rfl) (zI zR (pv 3) (zm jC (pv 4) (zf (i:=1))) (λ_ _=>rfl)) (λ_ _=>rfl)) (pv 1) (λ_ _=>rfl)))))))),Vc (mkF T) h1 h2 h3 q⟩⟩
theorem vt(T:Txt K mg t):FnOk P w K mg base (CX1 P w) 1 t.a34 t.d34 ["self"] (xN t):=by
 refine T.g34.f.okA X7 λvs H Q E h=>?_
 obtain⟨d,dx,a,f,en,rfl,h1,h2,q⟩:=h
 exact⟨rfl,λ_ _ _ _ hr=>⟨qh K t,(zh (zt (zm zY (zv (f:="first") (pv 0) rfl) (zF ya rfl T.q05 yD (za (zv (f:="ended") (pv 0) rfl) ze))))),XB (dkF T) h1 h2 q⟩⟩
theorem Zp(T:Txt K mg t):FnOk P w K mg base (CX1 P w) 3 t.a35 t.d35 ["self","rank"] (xu t):=by
 refine T.g35.f.okA q0s λvs H Q E h=>⟨?_,λ_ _ _ _ hr=>⟨vc K t,(zd (xE cK rfl (xx (zI yc (wf (yy hr) (zv (f:="laid") (pv 0) rfl) (pv 1) (λ_ _=>rfl)) (zf (i:=1)) (λ_ _=>rfl))) (Jy rfl (wU (ye (i:=2) q0s.nd rfl (bZ rfl)) (wU (ye (i:=3) q0s.nd rfl (bZ rfl)) Wi))) (zd (zw (i:=4) q0s.nd rfl (bZ rfl) (zU (zv (f:="makes") (pv 0) rfl) T.q0d T.g33.me (FnOk.mono (ZX T) (by lia)) hr T.g33.b .nil zq (za (pv 2) (za (pv 1) ze))))
  (zh (zM (zu XE (pv 4) (pv 3) (zD _)) (zh (zt (zS (za (pv 2) (za (pv 3) (za (pv 4) ze))))))
    zA))))
  (zh (zt xg))),qq (dkF T) h⟩⟩
 obtain⟨d,a,lb,f,rank,cs,ws,db,en,g,lays,CC,r,no,gi,rfl,_⟩:=h;rfl
theorem qc(T:Txt K mg t):FnOk P w K mg base (CX1 P w) 4 t.a36 t.d36 ["self"] (y7 t):=by
 refine T.g36.f.okA q0t λvs H Q E h=>⟨?_,λ_ _ _ _ hr=>⟨wD K t,(zd (zw (i:=1) q0t.nd rfl (bZ rfl) (zF (J1 rfl) rfl T.q0x Zu (za (zv (f:="doubted") (pv 0) rfl) ze)))
  (zd (xE cK rfl (xx (pv 1)) (ye (i:=2) q0t.nd rfl (bZ rfl)) (zd (zw (i:=3) q0t.nd rfl (bZ rfl) (zU (pv 0) T.q0h T.g35.me (FnOk.mono (Zp T) (by lia)) hr T.g35.b .nil zq (za (pv 2) ze)))
  (zd (zM (zu Wj (pv 3) xg (zD _)) (zh (zt (zm zbe (zS (za (pv 2) ze)) (pv 3))))
    zA)
  (zh (zP (WF (zv (f:="doubted") (pv 0) rfl) (pv 2) ⟨rfl,rfl,rfl,rfl⟩))))))
  (zh (zt xg)))),kh (dkF T) h⟩⟩
 obtain⟨d,a,lb,f,cs,ws,la,db,en,g,lays,P,CC,rfl,_⟩:=h;rfl
theorem Y6(T:Txt K mg t):FnOk P w K mg base (CX1 P w) 1 t.a37 t.d37 ["ranks_at","place","rank"] (vF):=by
 refine T.g37.f.okA q1e λvs H Q E h=>⟨?_,λ_ _ _ _ hr=>⟨kY K t,(zd (zw (i:=3) q1e.nd rfl (bZ rfl) (wf (yy hr) (pv 0) (pv 1) (λ_ _=>rfl)))
  (zd (zP (we bS mz mC Jk (pv 3) (za (pv 2) ze)))
  (zh (zM (zu (K0 (zeO hr)) (pv 3) (yu ze) (zD _)) (zh (zP (zdH (yy hr) (pv 0) (pv 1) ⟨rfl,rfl,rfl,rfl⟩)))
    zA)))),VF h⟩⟩
 obtain⟨rk,pl,rank,G,P,kk,q0,rfl,_⟩:=h;rfl
theorem ki(T:Txt K mg t):FnOk P w K mg base (CX1 P w) 2 t.a38 t.d38 ["self","rank"] (xC t):=by
 refine T.g38.f.okA q0u λvs H Q E h=>⟨?_,λ_ _ _ _ hr=>⟨j7 K t,(zd (zw (i:=2) q0u.nd rfl (bZ rfl) (WF (zv (f:="laid") (pv 0) rfl) (pv 1) ⟨rfl,rfl,rfl,rfl⟩))
  (zd (zP (KO (zv (f:="doubted") (pv 0) rfl) (pv 1) xg ⟨rfl,rfl,rfl,rfl⟩))
  (zd (xE cK rfl (xx (zI yc (pv 2) (zf (i:=1)) (λ_ _=>rfl))) (Jy rfl (wU (ye (i:=3) q0u.nd rfl (bZ rfl)) (wU (ye (i:=4) q0u.nd rfl (bZ rfl)) Wi))) (zh (zP (pcG (Y6 T) T.g37 hr zq (za (zv (f:="readers") (pv 0) rfl) (za (pv 3) (za (pv 1) ze)))))))
  (zh (zt (pv 2)))))),Y0 (dkF T) h⟩⟩
 obtain⟨d,a,lb,f,rank,cs,ws,en,g,lays,CC,r,no,gi,rfl,_⟩:=h;rfl
theorem VT(T:Txt K mg t):FnOk P w K mg base (CX1 P w) 1 t.a39 t.d39 ["self","ranks"] (ZM):=by
 refine T.g39.f.okA Vw λvs H Q E h=>?_
 obtain⟨x,l,w,ws,rfl,h1,q⟩:=h
 exact⟨rfl,λ_ _ _ _ hr=>⟨ZV K t,(zh (zt (zI zR (pv 1) (zf (i:=0)) (λ_ _=>rfl)))),Vk h1 q⟩⟩
theorem XC(T:Txt K mg t):FnOk P w K mg base (CX1 P w) 3 t.a40 t.d40 ["self","hand"] (wN t):=by
 refine T.g40.f.okA q1f λvs H Q E h=>⟨?_,λ_ _ _ _ hr=>⟨j8 K t,(zd (zw (i:=2) q1f.nd rfl (bZ rfl) (zU (zv (f:="way") (pv 0) rfl) T.q2m T.g39.me (FnOk.mono (VT T) (by lia)) hr T.g39.b .nil zq (za (yM wd rfl T.q0c wg (za (zv (f:="waiting") (pv 0) rfl) ze)) ze)))
  (zd (zP (we bS mz mC Jk (zv (f:="waiting") (pv 0) rfl) (za (pv 2) ze)))
  (zd (wP (yy hr) (zv (f:="held") (pv 0) rfl) (pv 1) (zS (za (pv 2) (za (Zq T.mk_Run (FnOk.mono (XY T) (by lia)) hr rfl T.g_Run T.q1k .nil zq (za (zI zR (zv (f:="codes") (pv 0) rfl) (zm jC (pv 2) (zv (f:="first") (pv 0) rfl)) (λ_ _=>rfl)) ze)) ze))) rfl)
  (zh (zt (zS (za (zE (x:="take")) (za (pv 1) (za (pv 2) ze))))))))),Y2 (dkF T) h⟩⟩
 obtain⟨d,a,lb,f,CC,k,tb,C,rfl,_⟩:=h;rfl
theorem Yq(T:Txt K mg t):FnOk P w K mg base (CX1 P w) 5 t.a41 t.d41 ["self","hand"] (yK t):=by
 refine T.g41.f.okA q12 λvs H Q E h=>⟨?_,λ_ _ _ _ hr=>⟨v9 K t,(zd (zw (i:=2) q12.nd rfl (bZ rfl) (yz (pv 0) T.q0b T.g34.me (FnOk.mono (vt T) (by lia)) hr T.g34.b .nil zq))
  (zd (zw (i:=3) q12.nd rfl (bZ rfl) (yz (zv (f:="jobs") (pv 0) rfl) T.q0h T.g36.me (FnOk.mono (qc T) (by lia)) hr T.g36.b .nil zq))
  (zd (zM (PW.pt (Wv (zu (Wo (yy hr)) (pv 2) (zv (f:="laid") (zv (f:="jobs") (pv 0) rfl) rfl) (by with_unfolding_all rfl)) (Yu (PW.pt (Ww (zu JC (pv 3) xg (zD _)) (ZY (zu XE (zI yc (pv 3) (zf (i:=0)) (λ_ _=>rfl)) (pv 2) (zD _)))))))) (zd (zP (we bS cw cx yF (zv (f:="ended") (pv 0) rfl) (za (zU (zv (f:="jobs") (pv 0) rfl) T.q0h T.g38.me (FnOk.mono (ki T) (by lia)) hr T.g38.b .nil zq (za (pv 2) ze)) ze)))
  (zh (zt (zS (za (zE (x:="settle")) (za (pv 1) (za (pv 2) ze)))))))
   zA)
  (zd (zM (zu Wj (pv 3) xg (zD _)) (zd (zP (zU (zv (f:="jobs") (pv 0) rfl) T.q0h T.g38.me (FnOk.mono (ki T) (by lia)) hr T.g38.b .nil zq (za (zI yc (pv 3) (zf (i:=0)) (λ_ _=>rfl)) ze)))
  (zd (zP (we bS mD mE Jj (zv (f:="waiting") (pv 0) rfl) (za (pcG (xc T) T.g32 hr zq (za (zv (f:="waiting") (pv 0) rfl) (za (zI yc (pv 3) (zf (i:=0)) (λ_ _=>rfl)) ze))) (za (zI yc (pv 3) (zf (i:=0)) (λ_ _=>rfl)) ze))))
  (zh (zt (zm zbe (zS (za (zE (x:="again")) (za (pv 1) ze))) (pv 3))))))
   zA)
  (zd (zM (zu (zdD (zeO hr)) (zv (f:="waiting") (pv 0) rfl) (yu ze) (zD _)) (zh (zt (zU (pv 0) T.q0b T.g40.me (FnOk.mono (XC T) (by lia)) hr T.g40.b .nil zq (za (pv 1) ze))))
    zA)
  (zh (zt (zS (za (zE (x:="rest")) (za (pv 1) ze)))))))))),ZH (dkF T) h⟩⟩
 obtain⟨d,a,lb,f,CC,TT,k,tb,rfl,_⟩:=h;rfl
theorem xS(T:Txt K mg t):FnOk P w K mg base (CX1 P w) 1 t.a42 t.d42 ["self","rank"] (yJ t):=by
 refine T.g42.f.okA Yf λvs H Q E h=>⟨?_,λ_ _ _ _ hr=>⟨xR K t,(zh (zt (yM (W0 rfl) rfl T.q0c wg (za (vQ (yy hr) (zv (f:="worths") (pv 0) rfl) (pv 1) jS ⟨rfl,rfl,rfl,rfl⟩) ze)))),ZF (mkF T) h⟩⟩
 obtain⟨m,rank,F,g,lays,low,rfl,_⟩:=h;rfl
theorem Yr(T:Txt K mg t):FnOk P w K mg base (CX1 P w) 2 t.a43 t.d43 ["self","rank"] (y6 t):=by
 refine T.g43.f.okA q13 λvs H Q E h=>⟨?_,λ_ _ _ _ hr=>⟨ja K t,(zd (zw (i:=2) q13.nd rfl (bZ rfl) (zU (pv 0) T.q0d T.g42.me (FnOk.mono (xS T) (by lia)) hr T.g42.b .nil zq (za (pv 1) ze)))
  (zd (zP (KO (zv (f:="worths") (pv 0) rfl) (pv 1) xg ⟨rfl,rfl,rfl,rfl⟩))
  (zh (xE cK rfl (xx (pv 2)) (ye (i:=3) q13.nd rfl (bZ rfl)) (zh (zP (pcG (Y6 T) T.g37 hr zq (za (zv (f:="ranks") (pv 0) rfl) (za (pv 3) (za (pv 1) ze)))))))))),ZG (mkF T) h⟩⟩
 obtain⟨m,rank,F,g,lays,low,rfl,_⟩:=h;rfl
theorem X0(T:Txt K mg t):FnOk P w K mg base (CX1 P w) 2 t.a44 t.d44 ["ranks_at","place","rank"] (vb):=by
 refine T.g44.f.okA q1g λvs H Q E h=>⟨?_,λ_ _ _ _ hr=>⟨Zh K t,(zd (zw (i:=3) q1g.nd rfl (bZ rfl) (zdI (yy hr) (pv 0) (pv 1) (yu ze) ⟨rfl,rfl,rfl,rfl⟩))
  (zh (zP (we bS mD mE Jj (pv 3) (za (pcG (xc T) T.g32 hr zq (za (pv 3) (za (pv 2) ze))) (za (pv 2) ze)))))),Kg h⟩⟩
 obtain⟨rk,pl,rank,G,P,kk,q0,rfl,_⟩:=h;rfl
theorem Kt(T:Txt K mg t):FnOk P w K mg base (CX1 P w) 3 t.a45 t.d45 ["self","rank","gifts"] (YQ t):=by
 refine T.g45.f.okA q14 λvs H Q E h=>?_
 obtain⟨m,rank,gv,F,g,lays,gs,rfl,h1,h2,h3,h4,h5,h6,h7,q⟩:=h
 exact⟨rfl,λ_ _ _ _ hr=>⟨vG K t,(zd (zP (zU (pv 0) T.q0d T.g31.me (FnOk.mono (jg T) (by lia)) hr T.g31.b .nil zq (za (pv 1) ze)))
  (zd (zP (zU (pv 0) T.q0d T.g43.me (FnOk.mono (Yr T) (by lia)) hr T.g43.b .nil zq (za (pv 1) ze)))
  (zd (zw (i:=3) q14.nd rfl (bZ rfl) (yM (xM rfl (hu3 hr)) rfl T.q0w Wn (za (pv 2) ze)))
  (zd (zge (xE cK rfl (zdi (pv 3)) (ye (i:=4) q14.nd rfl (bZ rfl)) (zh (zP (pcG (X0 T) T.g44 hr zq (za (zv (f:="ranks") (pv 0) rfl) (za (pv 4) (za (pv 1) ze))))))))
  (zh (wP (yy hr) (zv (f:="worths") (pv 0) rfl) (pv 1) (pv 3) rfl)))))),VG (mkF T) h1 h2 h3 h4 h5 h6 h7 q⟩⟩
theorem ZI(T:Txt K mg t):FnOk P w K mg base (CX1 P w) 2 t.a46 t.d46 ["self","place","rank"] (xG t):=by
 refine T.g46.f.okA q15 λvs H Q E h=>⟨?_,λ_ _ _ _ hr=>⟨xH K t,(zd (zw (i:=3) q15.nd rfl (bZ rfl) (vQ (yy hr) (zv (f:="ranks") (pv 0) rfl) (pv 1) (yu ze) ⟨rfl,rfl,rfl,rfl⟩))
  (zd (zw (i:=4) q15.nd rfl (bZ rfl) (pcG (xc T) T.g32 hr zq (za (pv 3) (za (zm zY (pv 2) (zf (i:=1))) ze))))
  (zh (zt (vN (zu yA (pv 4) (zF ya rfl T.q05 yD (za (pv 3) ze)) (zD _)) xg (zI zR (pv 3) (pv 4) (λ_ _=>rfl))))))),Zn (mkF T) h⟩⟩
 obtain⟨m,p,rank,F,g,lays,q0,rfl,_⟩:=h;rfl
theorem VU(T:Txt K mg t):FnOk P w K mg base (CX1 P w) 3 t.a47 t.d47 ["self","place","rank"] (jK t):=by
 refine T.g47.f.okA q0o λvs H Q E h=>⟨?_,λ_ _ _ _ hr=>⟨ZW K t,(zd (zw (i:=3) q0o.nd rfl (bZ rfl) (vQ (yy hr) (zv (f:="readers") (pv 0) rfl) (pv 1) (yu ze) ⟨rfl,rfl,rfl,rfl⟩))
  (zd (zw (i:=4) q0o.nd rfl (bZ rfl) (zU (zv (f:="makes") (pv 0) rfl) T.q0d T.g46.me (FnOk.mono (ZI T) (by lia)) hr T.g46.b .nil zq (za (pv 1) (za (pv 2) ze))))
  (zd (zw (i:=5) q0o.nd rfl (bZ rfl) (vN (zu JC (pv 4) xg (zD _)) (zF ya rfl T.q05 yD (za (pv 3) ze)) (pcG (xc T) T.g32 hr zq (za (pv 3) (za (zm zY (pv 4) (zf (i:=1))) ze)))))
  (zh (xE cK rfl (xx (x9 ko (pv 3) (xz (pcG (xc T) T.g32 hr zq (za (pv 3) (za (zm zY (pv 2) (zf (i:=1))) ze)))) (xz (pv 5)))) (ye (i:=6) q0o.nd rfl (bZ rfl)) (zh (wP (yy hr) (zv (f:="doubted") (pv 0) rfl) (pv 6) (Yt (b:=af)) rfl))))))),Vj (dkF T) h⟩⟩
 obtain⟨j,dj,m,la,re,db,p,rank,F,G,g,lays,q0,kk,rfl,_⟩:=h;rfl
theorem XD(T:Txt K mg t):FnOk P w K mg base (CX1 P w) 4 t.a48 t.d48 ["self","rank","paper"] (wM t):=by
 refine T.g48.f.okA q0p λvs H Q E h=>⟨?_,λ_ _ _ _ hr=>⟨j9 K t,(zd (zw (i:=3) q0p.nd rfl (bZ rfl) (zU (zv (f:="makes") (pv 0) rfl) T.q0d T.g42.me (FnOk.mono (xS T) (by lia)) hr T.g42.b .nil zq (za (pv 1) ze)))
  (zd (zP (zU (zv (f:="makes") (pv 0) rfl) T.q0d T.g45.me (FnOk.mono (Kt T) (by lia)) hr T.g45.b .nil zq (za (pv 1) (za (zI yc (pv 2) (zf (i:=2)) (λ_ _=>rfl)) ze))))
  (zd (xE cK rfl (xx (zm vP (pv 3) (zU (zv (f:="makes") (pv 0) rfl) T.q0d T.g42.me (FnOk.mono (xS T) (by lia)) hr T.g42.b .nil zq (za (pv 1) ze)))) (ye (i:=4) q0p.nd rfl (bZ rfl)) (zh (zP (zU (pv 0) T.q0h T.g47.me (FnOk.mono (VU T) (by lia)) hr T.g47.b .nil zq (za (pv 4) (za (pv 1) ze))))))
  (zd (wP (yy hr) (zv (f:="laid") (pv 0) rfl) (pv 1) (pv 2) rfl)
  (zd (wP (yy hr) (zv (f:="doubted") (pv 0) rfl) (pv 1) (Yt (b:=af)) rfl)
  (zh (xE cK rfl (xx (zI yc (pv 2) (zf (i:=1)) (λ_ _=>rfl))) (Jy rfl (wU (ye (i:=4) q0p.nd rfl (bZ rfl)) (wU (ye (i:=5) q0p.nd rfl (bZ rfl)) Wi))) (zh (zP (pcG (X0 T) T.g44 hr zq (za (zv (f:="readers") (pv 0) rfl) (za (pv 4) (za (pv 1) ze))))))))))))),Y1 (dkF T) h⟩⟩
 obtain⟨d,a,lb,f,rank,cs,ws,en,g,lays,CC,r,no,gi,rfl,_⟩:=h;rfl
theorem qd(T:Txt K mg t):FnOk P w K mg base (CX1 P w) 10 t.a49 t.d49 ["self","hand"] (wB t):=by
 refine T.g49.f.okA q0q λvs H Q E h=>⟨?_,λ_ _ _ _ hr=>⟨kZ K t,(zd (zM (PW.pt (Ww (zu qe (pv 1) (zf (i:=0)) (zD _)) (ZY (zu zfz (pv 1) (zv (f:="hands") (pv 0) rfl) (zD _))))) (zh KA)
   zA)
  (zd (zM (zu (WS (yy hr)) (pv 1) (zv (f:="held") (pv 0) rfl) (by with_unfolding_all rfl)) (zh (zt (zU (pv 0) T.q0b T.g41.me (FnOk.mono (Yq T) (by lia)) hr T.g41.b .nil zq (za (pv 1) ze))))
    zA)
  (zd (zw (i:=2) q0q.nd rfl (bZ rfl) (zI yc (wf (yy hr) (zv (f:="held") (pv 0) rfl) (pv 1) (λ_ _=>rfl)) (zf (i:=0)) (λ_ _=>rfl)))
  (zd (zw (i:=3) q0q.nd rfl (bZ rfl) (zI yc (wf (yy hr) (zv (f:="held") (pv 0) rfl) (pv 1) (λ_ _=>rfl)) (zf (i:=1)) (λ_ _=>rfl)))
  (zd (zM (xn (yz (pv 3) T.q04 T.g11.me (FnOk.mono (vf T) (by lia)) hr T.g11.b .nil zq)) (zd (zP (WF (zv (f:="held") (pv 0) rfl) (pv 1) ⟨rfl,rfl,rfl,rfl⟩))
  (zd (zP (zU (zv (f:="jobs") (pv 0) rfl) T.q0h T.g48.me (FnOk.mono (XD T) (by lia)) hr T.g48.b .nil zq (za (pv 2) (za (yz (pv 3) T.q04 T.g24.me (FnOk.mono (Y5 T) (by lia)) hr T.g24.b .nil zq) ze))))
  (zh (zt (zS (za (zE (x:="lay")) (za (pv 1) (za (pv 2) ze))))))))
   zA)
  (zd (zw (i:=4) q0q.nd rfl (bZ rfl) (yz (pv 3) T.q04 T.g19.me (FnOk.mono (XZ T) (by lia)) hr T.g19.b .nil zq))
  (zd (zM (zu JC (pv 4) xg (zD _)) (zd (zP (Jl (pv 3) T.q04 T.me_Run_step (FnOk.mono (jA T) (by lia)) hr T.bd_Run_step zq))
  (zh (zt (zS (za (zE (x:="step")) (za (pv 1) (za (pv 2) ze)))))))
   zA)
  (zd (zw (i:=5) q0q.nd rfl (bZ rfl) (zU (zv (f:="makes") (pv 0) rfl) T.q0d T.g33.me (FnOk.mono (ZX T) (by lia)) hr T.g33.b .nil zq (za (pv 4) (za (pv 2) ze))))
  (zd (zP (zU (pv 3) T.q04 T.me_Run_step (FnOk.mono (jA T) (by lia)) hr T.q1l .nil zq (za (pv 5) ze)))
  (zh (zt (zS (za (zE (x:="read")) (za (pv 1) (za (pv 2) (za (pv 4) (za (pv 5) ze))))))))))))))))),VM (dkF T) h⟩⟩
 obtain⟨d,a,lb,f,CC,TT,rfl,_⟩:=h;rfl
theorem jB(T:Txt K mg t):FnOk P w K mg base (CX1 P w) 1 t.a50 t.d50 ["self"] (wA t):=by
 refine T.g50.f.okA YN λvs H Q E h=>?_
 obtain⟨d,dx,a,f,cs,rfl,h1,h2,q⟩:=h
 exact⟨rfl,λ_ _ _ _ hr=>⟨jv K t,(zh (zt (zm zY (zv (f:="first") (pv 0) rfl) (zF ya rfl T.q05 yD (za (zv (f:="codes") (pv 0) rfl) ze))))),Yp (dkF T) h1 h2 q⟩⟩
theorem Vo(T:Txt K mg t):FnOk P w K mg base (CX1 P w) 11 t.a51 t.d51 ["self"] (v4 t):=by
 refine T.g51.f.okA q1h λvs H Q E h=>⟨?_,λ_ _ _ _ hr=>⟨Zi K t,(zd (zw (i:=1) q1h.nd rfl (bZ rfl) (yu ze))
  (zd (KB cK (zu qe (yz (pv 0) T.q0b T.g34.me (FnOk.mono (vt T) (by lia)) hr T.g34.b .nil zq) (yz (pv 0) T.q0b T.g50.me (FnOk.mono (jB T) (by lia)) hr T.g50.b .nil zq) (zD _)) (zh (zP (we bS cw cx yF (pv 1) (za (zU (pv 0) T.q0b T.g49.me (FnOk.mono (qd T) (by lia)) hr T.g49.b .nil zq (za (zm zV (zF ya rfl T.q05 yD (za (pv 1) ze)) (zv (f:="hands") (pv 0) rfl)) ze)) ze)))))
  (zh (zt (pv 1))))),Wh (dkF T) h⟩⟩
 obtain⟨d,a,lb,f,CC,TT,rfl,_⟩:=h;rfl
theorem wT(T:Txt K mg t):∀n,FnOk P w K mg base (CX1 P w) (1 + n) t.a52 t.d52 ["found","due"] (yR n):=by
 intro n
 induction n with
 | zero=>exact⟨λvs H Q E h=>(Zm h).elim,λA outer s H args us vs Q E hr he hb hv h=>(Zm h).elim⟩
 | succ n IH =>
 refine T.g52.f.okA q16 (k:=1 + n) λvs H Q E h=>?_
 obtain⟨v,u,rfl,h1,q⟩:=h
 exact⟨rfl,λ_ _ _ _ hr=>⟨jN K t n,(zd (zM (PW.pt (Ww (xn (zF yY rfl T.q0a z4 (za (pv 1) (za (xw rfl T.q0c wg rfl) ze)))) (ZY (xn (zF yY rfl T.q0a z4 (za (pv 1) (za (xw rfl T.b_tuple WJ rfl) ze))))))) (zd (zM (PW.pt (Wv (qt (xn (zF yY rfl T.q0a z4 (za (pv 0) (za (xw rfl T.q0c wg rfl) ze))))) (Yu (qt (xn (zF yY rfl T.q0a z4 (za (pv 0) (za (xw rfl T.b_tuple WJ rfl) ze)))))))) (zh (zt (Yt (b:=am))))
   zA)
  (zd (zM (PW.pt (Ww (zu XE (zF yY rfl T.q0a z4 (za (pv 0) (za (xw rfl T.q0c wg rfl) ze))) (zF yY rfl T.q0a z4 (za (pv 1) (za (xw rfl T.q0c wg rfl) ze))) (zD _)) (ZY (zu XE (zF ya rfl T.q05 yD (za (pv 0) ze)) (zF ya rfl T.q05 yD (za (pv 1) ze)) (zD _))))) (zh (zt (Yt (b:=am))))
    zA)
  (zd (xE cK rfl (ze3 rfl T.b_zip (za (pv 0) (za (pv 1) ze))) (Jy rfl (wU (ye (i:=2) q16.nd rfl (bZ rfl)) (wU (ye (i:=3) q16.nd rfl (bZ rfl)) Wi))) (zh (zM (qt (xn (Yw (FnOk.mono IH (by lia)) hr rfl T.g52.m T.g52.f.kp T.g52.b .nil zq (za (pv 2) (za (pv 3) ze))))) (zh (zt (Yt (b:=am))))
    zA)))
  (zh (zt (Yt (b:=af)))))))
   zA)
  (zd (zM (xn (zF yY rfl T.q0a z4 (za (pv 1) (za (xw rfl T.q18 zay rfl) ze)))) (zh (zt (Jx (zF yY rfl T.q0a z4 (za (pv 0) (za (xw rfl T.q18 zay rfl) ze))) (Jw (Wk yA (pv 0) (pv 1) (zD _))))))
    zA)
  (zh (zt (Jx (zF yY rfl T.q0a z4 (za (pv 0) (za (xw rfl T.b_int zcR rfl) ze))) (Jx (zfV (zF yY rfl T.q0a z4 (za (pv 0) (za (xw rfl T.q1m zbl rfl) ze)))) (Jw (Wk yA (pv 0) (pv 1) (zD _))))))))),Vh (kf K) h1 q⟩⟩
theorem Ku(T:Txt K mg t):FnOk P w K mg base (CX1 P w) 2 t.a53 t.d53 ["number","slots"] (kO):=by
 refine T.g53.f.okA q1i λvs H Q E h=>⟨?_,λ_ _ _ _ hr=>⟨k8 K t,(zd (zw (i:=2) q1i.nd rfl (bZ rfl) (zm zV (pv 0) (zf (i:=5))))
  (zd (zM (zu qe (pv 2) (zf (i:=2)) (zD _)) (zh (zt (zS (za (zm zV (zm zX (pv 0) (zf (i:=5))) (zf (i:=3))) ze))))
    zA)
  (zd (zM (zu yA (pv 2) (zf (i:=2)) (zD _)) (zh (zt (zS (za (zI zR (pv 1) (zm zV (zm zX (pv 0) (zf (i:=5))) (zf (i:=2))) (λ_ _=>rfl)) ze))))
    zA)
  (zd (zM (PW.pt (Wv (zu yA (pv 2) (zf (i:=3)) (zD _)) (Yu (zu yA (zm zV (zm zX (pv 0) (zf (i:=10))) (zf (i:=3))) (zf (i:=0)) (zD _))))) (zh (zt (zS (za (zf (i:=7)) (za (zI zR (pv 1) (zm zV (zm zX (pv 0) (zf (i:=30))) (zf (i:=2))) (λ_ _=>rfl)) (za (zE (x:="over")) ze))))))
    zA)
  (zd (zM (zu yA (pv 2) (zf (i:=3)) (zD _)) (zh (zt (zS (za (zI zR (pv 1) (zm zV (zm zX (pv 0) (zf (i:=5))) (zf (i:=2))) (λ_ _=>rfl)) (za (zf (i:=3)) (za (zE (x:="rest")) ze))))))
    zA)
  (zh (zt (zS (za (pcG (wE T) T.g3 hr zq (za (zm zX (pv 0) (zf (i:=5))) ze)) ze))))))))),VH h⟩⟩
 obtain⟨n,a,ws,rfl,_⟩:=h;rfl
theorem Y7(T:Txt K mg t):FnOk P w K mg base (CX1 P w) 2 t.a54 t.d54 ["number","slots"] (vE):=by
 refine T.g54.f.okA q17 λvs H Q E h=>⟨?_,λ_ _ _ _ hr=>⟨k9 K t,(zd (zw (i:=2) q17.nd rfl (bZ rfl) (yu (za (zE (x:="plus")) (za (zE (x:="minus")) (za (zE (x:="times")) (za (zE (x:="over")) (za (zE (x:="rest")) (za (zE (x:="under")) (za (zE (x:="same")) ze)))))))))
  (zd (zw (i:=3) q17.nd rfl (bZ rfl) (zm zV (pv 0) (zf (i:=9))))
  (zd (zM (zu yA (pv 3) (zf (i:=0)) (zD _)) (zh (zt (zS (za (pcG (wE T) T.g3 hr zq (za (zm zX (pv 0) (zf (i:=9))) ze)) ze))))
    zA)
  (zd (zM (zu yA (pv 3) (zf (i:=1)) (zD _)) (zh (zt (zS (za (zI zR (pv 1) (zm zV (zm zX (pv 0) (zf (i:=9))) (zf (i:=2))) (λ_ _=>rfl)) ze))))
    zA)
  (zd (zM (zu yA (zm zV (zm zX (pv 0) (zf (i:=9))) (zf (i:=2))) (zf (i:=0)) (zD _)) (zh (zt (zS (za (zI zR (pv 1) (zm zV (zm zX (pv 0) (zf (i:=18))) (zf (i:=2))) (λ_ _=>rfl)) (za (pcG (wE T) T.g3 hr zq (za (zm zX (pv 0) (zf (i:=36))) ze)) (za (zI zR (pv 2) (zm jC (pv 3) (zf (i:=2))) (λ_ _=>rfl)) ze))))))
    zA)
  (zh (zt (zS (za (zI zR (pv 1) (zm zV (zm zX (pv 0) (zf (i:=18))) (zf (i:=2))) (λ_ _=>rfl)) (za (zI zR (pv 1) (zm zV (zm zX (pv 0) (zf (i:=36))) (zf (i:=2))) (λ_ _=>rfl)) (za (zI zR (pv 2) (zm jC (pv 3) (zf (i:=2))) (λ_ _=>rfl)) ze))))))))))),VI h⟩⟩
 obtain⟨n,a,ws,rfl,_⟩:=h;rfl
theorem zah(T:Txt K mg t):FnOk P w K mg base (CX1 P w) 3 t.a55 t.d55 ["xs","shelves","slots"] (qU):=by
 refine T.g55.f.okA q0k λvs H Q E h=>⟨?_,λ_ _ _ _ hr=>⟨Zj K t,(zd (zw (i:=3) q0k.nd rfl (bZ rfl) (zm zV (zI zR (pv 0) (zf (i:=0)) (λ_ _=>rfl)) (zf (i:=10))))
  (zd (zw (i:=4) q0k.nd rfl (bZ rfl) (zI zR (pv 1) (zm zV (zm zX (zI zR (pv 0) (zf (i:=0)) (λ_ _=>rfl)) (zf (i:=10))) (zf (i:=2))) (λ_ _=>rfl)))
  (zd (zw (i:=5) q0k.nd rfl (bZ rfl) (zI zR (pv 2) (zm zV (zm zX (zI zR (pv 0) (zf (i:=0)) (λ_ _=>rfl)) (zf (i:=20))) (zf (i:=2))) (λ_ _=>rfl)))
  (zd (zw (i:=6) q0k.nd rfl (bZ rfl) (pcG (Ku T) T.g53 hr zq (za (zI zR (pv 0) (zf (i:=1)) (λ_ _=>rfl)) (za (pv 2) ze))))
  (zd (zw (i:=7) q0k.nd rfl (bZ rfl) (pcG (Y7 T) T.g54 hr zq (za (zI zR (pv 0) (zf (i:=2)) (λ_ _=>rfl)) (za (pv 2) ze))))
  (zd (zM (zu qe (pv 3) (zf (i:=4)) (zD _)) (zh (zt (zS (za (zE (x:="take")) (za (pv 4) (za (pv 6) (za (pv 5) ze)))))))
    zA)
  (zd (zM (zu qe (pv 3) (zf (i:=7)) (zD _)) (zh (zt (zS (za (zE (x:="give")) (za (pv 4) (za (pv 6) (za (pv 7) ze)))))))
    zA)
  (zd (zM (zu yA (pv 3) (zf (i:=7)) (zD _)) (zh (zt (zS (za (zE (x:="let")) (za (pv 5) (za (pv 7) ze))))))
    zA)
  (zd (zM (zu yA (pv 3) (zf (i:=8)) (zD _)) (zh (zt (zS (za (zE (x:="say")) (za (pv 7) ze)))))
    zA)
  (zh (zt (zS (za (zE (x:="off")) (za (zS (za (pv 5) (za (zm zY (zm zV (zI zR (pv 0) (zf (i:=1)) (λ_ _=>rfl)) (zf (i:=3))) (zf (i:=1))) (za (zE (x:="same")) ze)))) ze)))))))))))))),Kk h⟩⟩
 obtain⟨p,a,b,ds,us,ws,rfl,_⟩:=h;rfl
theorem Kv(T:Txt K mg t):FnOk P w K mg base (CX1 P w) 4 t.a56 t.d56 ["cell","shelves","slots"] (kQ):=by
 refine T.g56.f.okA q0g λvs H Q E h=>⟨?_,λ_ _ _ _ hr=>⟨YR K t,(zd (zw (i:=3) q0g.nd rfl (mX rfl) (pcG (jP T) T.g1 hr zq (za (pv 0) (za (zf (i:=22)) ze))))
  (zd (Z3 (j:=4) q0g.nd rfl rfl (bZ rfl) (osc:=zj jr) (N:=["cell","shelves","slots","xs","rows","at","to","row"]) (xs:=["k"]) (ix:=[3,1,2]) (by lia) (vH rfl T.q0l (za (zm zV (pv 0) (zf (i:=7))) ze)) (λ_ _ _ _=>(ye (i:=0) (show gP (["k","xs","shelves","slots"]:List Str) from (by lia)) rfl (bZ rfl) (.inr rfl))) (λ_ _ _ _=>YC) (λ_ _ _ _=>(pcG (zah T) T.g55 hr zq (za (x9 ko (pv 1) (xz (zm wQ (zf (i:=3)) (pv 0))) (xz (zm zY (zm wQ (zf (i:=3)) (pv 0)) (zf (i:=3))))) (za (pv 2) (za (pv 3) ze))))))
  (zd (zM (zu yA (zm zV (zm zX (pv 0) (zf (i:=7))) (zf (i:=3))) (zf (i:=0)) (zD _)) (zd (zw (i:=5) q0g.nd rfl (bZ rfl) (zm zV (zI zR (pv 3) (zf (i:=18)) (λ_ _=>rfl)) (zm zY (zF ya rfl T.q05 yD (za (pv 4) ze)) (zf (i:=1)))))
  (zd (zw (i:=6) q0g.nd rfl (bZ rfl) (zm zY (pv 5) (zm zV (zI zR (pv 3) (zf (i:=21)) (λ_ _=>rfl)) (zm jC (zm zY (zF ya rfl T.q05 yD (za (pv 4) ze)) (zf (i:=1))) (pv 5)))))
  (zd (zw (i:=7) q0g.nd rfl (bZ rfl) (zS (za (zE (x:="if")) (za (pcG (Y7 T) T.g54 hr zq (za (zI zR (pv 3) (zf (i:=19)) (λ_ _=>rfl)) (za (pv 2) ze))) (za (x9 ko (pv 4) (xz (pv 5)) (xz (pv 6))) (za (x9 ko (pv 4) Yx (xz (zm zV (zI zR (pv 3) (zf (i:=20)) (λ_ _=>rfl)) (zf (i:=3))))) ze))))))
  (zh (zw (i:=4) q0g.nd rfl (bZ rfl) (zm vP (zm vP (x9 ko (pv 4) Yx (xz (pv 5))) (yu (za (pv 7) ze))) (x9 ko (pv 4) (xz (pv 6)) Yx)))))))
   zA)
  (zh (zt (pv 4)))))),VL h⟩⟩
 obtain⟨c,a,b,us,ws,rfl,_⟩:=h;rfl
theorem zai(T:Txt K mg t):FnOk P w K mg base (CX1 P w) 2 t.a57 t.d57 ["self","code"] (qY t):=by
 refine T.g57.f.okA q1j λvs H Q E h=>⟨?_,λ_ _ _ _ hr=>⟨XV K t,(zd (zw (i:=2) q1j.nd rfl (bZ rfl) (yz (pv 0) T.q0b T.g50.me (FnOk.mono (jB T) (by lia)) hr T.g50.b .nil zq))
  (zd (zP (we bS cw cx yF (zv (f:="codes") (pv 0) rfl) (za (yM wd rfl T.q0c wg (za (pv 1) ze)) ze)))
  (zd (zP (we bS cw cx yF (zv (f:="waiting") (pv 0) rfl) (za (pv 2) ze)))
  (zh (zt (pv 2)))))),Kl (dkF T) h⟩⟩
 obtain⟨d,v,a,lb,f,cs,ws,g,CC,C,rfl,_⟩:=h;rfl
theorem ok_law(T:Txt K mg t):FnOk P w K mg base (CX1 P w) 16 t.a58 t.d58 ["script"] (sp_law K):=by
 refine T.q1v.ok0 q08 (λvs H Q E h=>?_) (λcdv A outer s H vs Q E hr h=>?_)
 ·obtain⟨a,ns,rfl,_⟩:=h;rfl
 exact⟨zdR K t,(zd (zw (i:=1) q08.nd rfl (mX rfl) (pcG (Y3 T) T.g2 hr zq (za (pcG (xa T) T.g27 hr zq (za (pv 0) (za (zf (i:=1)) ze))) ze)))
  (zd (zw (i:=2) q08.nd rfl (mX rfl) (pcG (Y3 T) T.g2 hr zq (za (pcG (xa T) T.g27 hr zq (za (pv 0) (za (zf (i:=2)) ze))) ze)))
  (zd (zw (i:=3) q08.nd rfl (bZ rfl) (pcG (VQ T) T.g4 hr zq (za (zm zX (pcG (xa T) T.g27 hr zq (za (pv 0) (za (zf (i:=1)) ze))) (zf (i:=7))) (za (pv 1) ze))))
  (zd (Z3 (j:=4) q08.nd rfl rfl (bZ rfl) (osc:=zj XQ) (N:=["script","shelves","slots","table","codes","first","desk","k","due","told"]) (xs:=["cell"]) (ix:=[1,2]) (by lia) (xx (x9 ko (pv 0) (xz (zf (i:=3))) (xz (zf (i:=8))))) (λ_ _ _ _=>(ye (i:=0) (show gP (["cell","shelves","slots"]:List Str) from (by lia)) rfl (bZ rfl) (.inr rfl))) (λ_ _ _ _=>YC) (λ_ _ _ _=>(pcG (za9 T) T.g30 hr zq (za (pcG (Kv T) T.g56 hr zq (za (pv 0) (za (pv 1) (za (pv 2) ze)))) ze))))
  (zd (zw (i:=5) q08.nd rfl (bZ rfl) (zf (i:=0)))
  (zd (zw (i:=6) q08.nd rfl (mX rfl) (zdM T.mk_Desk (FnOk.mono (Y4 T) (by lia)) hr rfl T.g_Desk T.bd_Desk_init zq (za (yM wd rfl T.q0c wg (za (pv 3) ze)) (za (zf (i:=1)) (za (Qm T.mo_Way rfl T.g_Way) ze)))))
  (zd (zM (zu yA (zm zV (pcG (xa T) T.g27 hr zq (za (pv 0) (za (zf (i:=0)) ze))) (zf (i:=2))) (zf (i:=1)) (zD _)) (zd (zw (i:=5) q08.nd rfl (bZ rfl) (zm zV (zm ze4 (zm zX (pcG (xa T) T.g27 hr zq (za (pv 0) (za (zf (i:=0)) ze))) (zf (i:=2))) (zm ZZ (zf (i:=1000000007)) (zf (i:=3)))) (zm jC (zm ZZ (zf (i:=10)) (zf (i:=29))) (zf (i:=300)))))
  (zh (zw (i:=6) q08.nd rfl (mX rfl) (Zq T.mk_Desk (FnOk.mono (Y4 T) (by lia)) hr rfl T.g_Desk T.q1s .nil zq (za (yM wd rfl T.q0c wg (za (pv 3) ze)) (za (zf (i:=1)) (za (Qm T.mo_Way rfl T.g_Way) (za (pv 5) ze))))))))
   zA)
  (zd (xE cK rfl (vH rfl T.q0l (za (zF ya rfl T.q05 yD (za (pv 4) ze)) ze)) (ye (i:=7) q08.nd rfl (bZ rfl)) (zh (zM (qt (xn (pcG (wT T 4) T.g52 hr zq (za (zU (pv 6) T.q0b T.g57.me (FnOk.mono (zai T) (by lia)) hr T.g57.b .nil zq (za (zI zR (pv 4) (pv 7) (λ_ _=>rfl)) ze)) (za (zm zY (pv 5) (pv 7)) ze))))) (zh (zt (Yt (b:=am))))
    zA)))
  (zd (zw (i:=8) q08.nd rfl (bZ rfl) (pcG (zaf T) T.g26 hr zq (za (pv 4) (za (pv 3) (za (pv 5) ze)))))
  (zd (Z3 (j:=9) q08.nd rfl rfl (bZ rfl) (osc:=zj XQ) (N:=["script","shelves","slots","table","codes","first","desk","k","due","told"]) (xs:=["cell"]) (ix:=[6]) (by lia) (xx (pv 0)) (λ_ _ _ _=>(ye (i:=0) (show gP (["cell","desk"]:List Str) from (by lia)) rfl (bZ rfl) (.inr rfl))) (λ_ _ _ _=>YC) (λ_ _ _ _=>(zU (pv 1) T.q0b T.g49.me (FnOk.mono (qd T) (by lia)) hr T.g49.b .nil zq (za (zf (i:=0)) ze))))
  (zd (zw (i:=8) q08.nd rfl (bZ rfl) (zm vP (pv 8) (zm zf2 (yu (za (zS (za (zE (x:="rest")) (za (zf (i:=0)) ze))) ze)) (zF (zbO rfl) rfl T.q1w zf6 (za (zf (i:=0)) (za (zm jC (zF ya rfl T.q05 yD (za (pv 9) ze)) (zF ya rfl T.q05 yD (za (pv 8) ze))) ze))))))
  (zd (zw (i:=9) q08.nd rfl (bZ rfl) (zm vP (pv 9) (yz (pv 6) T.q0b T.g51.me (FnOk.mono (Vo T) (by lia)) hr T.g51.b .nil zq)))
  (zd (zM (qt (xn (pcG (wT T 4) T.g52 hr zq (za (pv 9) (za (pv 8) ze))))) (zh (zt (Yt (b:=am))))
    zA)
  (zh (zt (Jx (pcG (wT T 4) T.g52 hr zq (za (yz (pv 6) T.q0b T.g34.me (FnOk.mono (vt T) (by lia)) hr T.g34.b .nil zq) (za (zm zY (pv 5) (zF ya rfl T.q05 yD (za (pv 4) ze))) ze))) (Jw (pcG (wT T 4) T.g52 hr zq (za (zU (pv 6) T.q0b T.g49.me (FnOk.mono (qd T) (by lia)) hr T.g49.b .nil zq (za (zf (i:=0)) ze)) (za (zS (za (zE (x:="rest")) (za (zf (i:=0)) ze))) ze)))))))))))))))))))),zfw h⟩
end
end K41
open PySem PySem.W PyProof.Rows
namespace PySem.W.Fast
def tw6362770211147258252:Unit:=()
def tw14133092900636383447:Unit:=()
def tw13333419260280350047:Unit:=()
def tw16159149070623635679:Unit:=()
def tw6843863679892011249:Unit:=()
def tw12396216012608885468:Unit:=()
def tw2358964503955080274:Unit:=()
def tw1395404111205342477:Unit:=()
def tw3603888002816425040:Unit:=()
def tw17131902784591902328:Unit:=()
def tw8961986805246769811:Unit:=()
def tw9888660290905755942:Unit:=()
def tw8494947389369316561:Unit:=()
def tw5466171275630551085:Unit:=()
def tw9686168364888010549:Unit:=()
def tw9324843359235977861:Unit:=()
def tw7358362220193463480:Unit:=()
def tw16953978187749713840:Unit:=()
def tw2814873217195824058:Unit:=()
def tw13080295659872713163:Unit:=()
def tw8160607127003859310:Unit:=()
def tw17406319125131078131:Unit:=()
def tw7763240122994858213:Unit:=()
def tw14495817216284990596:Unit:=()
def tw15733707583427957986:Unit:=()
def tw10802782212039623085:Unit:=()
def tw16479243127935295133:Unit:=()
def tw7597161615967558868:Unit:=()
def tw4596343430520236874:Unit:=()
def tw12921612653683089746:Unit:=()
def tw6257522768757580894:Unit:=()
def tw4728234996732911519:Unit:=()
def tw5752334981951144012:Unit:=()
def tw11136533586988878965:Unit:=()
def tw14435093375624933353:Unit:=()
def tw82513096097700891:Unit:=()
def tw2920804133987398462:Unit:=()
def tw7405354390785463706:Unit:=()
def tw92677772179104247:Unit:=()
def tw3819468426188695276:Unit:=()
def tw14778916462123479959:Unit:=()
def tw5092835196654279492:Unit:=()
def tw16224695165575643529:Unit:=()
def tw10467734344019824473:Unit:=()
def tw11315369070918137120:Unit:=()
def tw11697895335515805017:Unit:=()
def tw10472555061819475869:Unit:=()
def tw16993140888126178562:Unit:=()
def tw16732002463567043810:Unit:=()
def tw7206563783613694215:Unit:=()
def tw13769814912708168428:Unit:=()
def tw461087830520439189:Unit:=()
def tw11063006352333178917:Unit:=()
def tw15826761353831337021:Unit:=()
def tw2536932434372652656:Unit:=()
def tw13202114212217617566:Unit:=()
def tw16453518471058540534:Unit:=()
def tw9309784407649764540:Unit:=()
def tw6195898433357575320:Unit:=()
def tw10687606277957103732:Unit:=()
def tw3143147281674413899:Unit:=()
def tw9008732457643610681:Unit:=()
def tw11455338829151079152:Unit:=()
def tw6201288169648816558:Unit:=()
def tw15789693894379753603:Unit:=()
def tw6480583908600004571:Unit:=()
def tw12071537502903892942:Unit:=()
def tw9314935638568050683:Unit:=()
def tw5771247352199262447:Unit:=()
def tw16197357319266543424:Unit:=()
def tw7900060666761653984:Unit:=()
def tw12223904628185094625:Unit:=()
def tw10937261041042811315:Unit:=()
def tw16210360506366708095:Unit:=()
def tw15044138395227665271:Unit:=()
def tw6735395637148320690:Unit:=()
def tw11237899616199444508:Unit:=()
def tw7257349561791984406:Unit:=()
def tw17104460357611679649:Unit:=()
def tw18365694488378445992:Unit:=()
def tw4091508560545174486:Unit:=()
def tw9811760706354611954:Unit:=()
def tw9302796241629081012:Unit:=()
def tw16928803054210116046:Unit:=()
def tw8622540002672322554:Unit:=()
def tw14699327589737809791:Unit:=()
def tw189773081794126774:Unit:=()
def tw17085782798403293444:Unit:=()
def tw7399048083014063244:Unit:=()
def tw7067974167634451243:Unit:=()
def tw8587559137523710743:Unit:=()
def tw2286097530848661468:Unit:=()
def tw6815253153014968841:Unit:=()
def tw15587007188473454758:Unit:=()
def tw4490597122468702559:Unit:=()
def tw13743542815377547446:Unit:=()
def tw592623908498269861:Unit:=()
def tw3320743995619925616:Unit:=()
def tw10057572189203902119:Unit:=()
def tw3837504787398205459:Unit:=()
def tw5499761106372653122:Unit:=()
def tw5025346893340968258:Unit:=()
def tw217283108953546728:Unit:=()
def tw6204810122865984637:Unit:=()
def tw6381542249899595275:Unit:=()
def tw3915146167886896793:Unit:=()
def tw7336690305449309092:Unit:=()
def tw407975429425072980:Unit:=()
def tw3829750659896333654:Unit:=()
def tw611046246826939495:Unit:=()
def tw1679425200113970045:Unit:=()
def tw17974311233334227017:Unit:=()
def tw1345167112017264147:Unit:=()
def tw6394166902744504299:Unit:=()
def tw9199980434247343786:Unit:=()
def tw8244365029690957781:Unit:=()
def tw3904665936151882404:Unit:=()
def tw14149760070724570248:Unit:=()
def tw10892802904776755175:Unit:=()
def tw14280334824528594721:Unit:=()
def tw6816237070714682513:Unit:=()
def tw8796318679706380163:Unit:=()
def tw17649667076012197442:Unit:=()
def tw9606576792352712773:Unit:=()
def tw12308156420924450891:Unit:=()
def tw1051862949692383884:Unit:=()
def tw7406844574946257521:Unit:=()
def tw7235614365128580579:Unit:=()
def tw15466948781417988360:Unit:=()
def tw13962327659525415515:Unit:=()
def tw13113833471937624153:Unit:=()
def tw8685096633617510213:Unit:=()
def tw7613910756802985561:Unit:=()
def tw1775200975918033878:Unit:=()
def tw16991565230426504075:Unit:=()
def tw15020409821192616997:Unit:=()
def tw2007846121220938637:Unit:=()
def tw16878713673374739309:Unit:=()
def tw10849698410963070019:Unit:=()
def tw17378853063337487584:Unit:=()
def tw17192955766416746488:Unit:=()
def tw16304818000594373397:Unit:=()
def tw11377642900735525472:Unit:=()
def tw11455146358460402144:Unit:=()
def tw133029904092553536:Unit:=()
def tw7391330409581312869:Unit:=()
def tw1498559085625192469:Unit:=()
def tw8786117620593031355:Unit:=()
def tw11167817062039539181:Unit:=()
def tw7317969684676035638:Unit:=()
def tw9819358888877183397:Unit:=()
def tw15729350719298110422:Unit:=()
def tw3790654827079463005:Unit:=()
def tw11101946642419341773:Unit:=()
def tw1755223174160517845:Unit:=()
def tw17341474029014045731:Unit:=()
def tw12052882209545199919:Unit:=()
def tw11843220304368437747:Unit:=()
def tw13136055880074714554:Unit:=()
def tw8450035661133272717:Unit:=()
def tw10522781247299423946:Unit:=()
def tw7109903275191527583:Unit:=()
def tw5686495703543141761:Unit:=()
def tw18135057404196027148:Unit:=()
def tw9330197767829267697:Unit:=()
def tw9745448939265726138:Unit:=()
def tw1238353213984398522:Unit:=()
def tw11380195898900866020:Unit:=()
def tw11664018594797210539:Unit:=()
def tw14402481754803411485:Unit:=()
def tw8846491636691849541:Unit:=()
def tw16393192939247431040:Unit:=()
def tw9336224223565452121:Unit:=()
def tw6456242660615761981:Unit:=()
def tw5108110419113288341:Unit:=()
def tw5907648912379179244:Unit:=()
def tw18208638156500669590:Unit:=()
def tw12448083245589530443:Unit:=()
def tw1010248302247052786:Unit:=()
def tw15024438967888373932:Unit:=()
def tw78532666985439864:Unit:=()
def tw1089650994180656454:Unit:=()
def tw7794233718552637375:Unit:=()
def tw3196140261230552738:Unit:=()
def tw15563215528962967522:Unit:=()
def tw3978405770600098823:Unit:=()
def tw618740317473742659:Unit:=()
def tw8854941991622916382:Unit:=()
def tw6089977223490451280:Unit:=()
def tw15760888347231626846:Unit:=()
def tw16455156995057120540:Unit:=()
def tw17636540223142663898:Unit:=()
def tw3558033046689163402:Unit:=()
def tw1755307695972511108:Unit:=()
def tw13565405481199328460:Unit:=()
def tw13635778480624202107:Unit:=()
def tw217597849879762543:Unit:=()
def tw18266806032360994420:Unit:=()
def tw1737263937836538242:Unit:=()
def tw4523581335396684101:Unit:=()
def tw4974719168409100875:Unit:=()
def tw4198741186827283904:Unit:=()
def tw17526008799188116133:Unit:=()
def tw17514124443793260497:Unit:=()
def tw15869641385650617643:Unit:=()
def tw7819960584757600971:Unit:=()
def tw4533345726184636763:Unit:=()
def tw12662454753390682487:Unit:=()
def tw1758411857213290914:Unit:=()
def tw9179783510333134060:Unit:=()
def tw7248886427741478279:Unit:=()
def tw5395637639838289610:Unit:=()
def tw14186267424976654667:Unit:=()
def tw6953304796680801299:Unit:=()
def tw5750110827840700034:Unit:=()
def tw1955718166871260170:Unit:=()
def tw15197617006619972826:Unit:=()
def tw14631628310228167016:Unit:=()
def tw7358117225942719509:Unit:=()
def tw10287575257962079251:Unit:=()
def tw6704824523101205241:Unit:=()
def tw3054431298466152564:Unit:=()
def tw5375835771359785613:Unit:=()
def tw5538840614560304278:Unit:=()
def tw3322324806025702024:Unit:=()
def tw13767291005542954668:Unit:=()
def tw6594318824123726363:Unit:=()
def tw7396461441573051161:Unit:=()
def tw5457291398138763319:Unit:=()
def tw14580555752596766274:Unit:=()
def tw14700150343894431702:Unit:=()
def tw6454234125466853441:Unit:=()
def tw15451746230209030403:Unit:=()
def tw8960815778229516525:Unit:=()
def tw17879583252619324942:Unit:=()
def tw16010166593776142563:Unit:=()
def tw5022033020473989226:Unit:=()
def tw8646236665200830881:Unit:=()
def tw2732850698795776675:Unit:=()
def tw14971589233047385552:Unit:=()
def tw5039181666021675131:Unit:=()
def tw5070779024548630175:Unit:=()
def tw11348041085495826220:Unit:=()
def tw17377775544879588849:Unit:=()
def tw14430838381620720767:Unit:=()
def tw18155731719285038087:Unit:=()
def tw6438886528566006135:Unit:=()
def tw15681873706602462198:Unit:=()
def tw8259081459612414504:Unit:=()
def tw17006181785681233337:Unit:=()
def tw5590476664624919136:Unit:=()
def tw16726177839461632618:Unit:=()
def tw3085067333112144483:Unit:=()
def tw15701039304825201924:Unit:=()
def tw13987923033209525742:Unit:=()
def tw16331131149809893417:Unit:=()
def tw6946392474030793527:Unit:=()
def tw7258098555066114018:Unit:=()
def tw12798683278492900847:Unit:=()
def tw13573426981405272255:Unit:=()
def tw1409337895501440325:Unit:=()
def tw9495283543233039690:Unit:=()
def tw6601714477113862285:Unit:=()
def tw4926552950257630248:Unit:=()
def tw12734342758127265063:Unit:=()
def tw1463785255513030406:Unit:=()
def tw238255271312180353:Unit:=()
def tw2308993281891133596:Unit:=()
def tw15853147212270847278:Unit:=()
def tw11184091671554526632:Unit:=()
def tw13233792508379732317:Unit:=()
def tw1072405127584093647:Unit:=()
def tw18242651283538495749:Unit:=()
def tw15854373109229180366:Unit:=()
def tw11049923322668005162:Unit:=()
def tw15459513078264537079:Unit:=()
def tw4331722582757706732:Unit:=()
def tw6721389529893193321:Unit:=()
def tw8420145644358279987:Unit:=()
def tw5205560707653607689:Unit:=()
def tw3341290381214656732:Unit:=()
def tw8674308200058289947:Unit:=()
def tw11598875235273411906:Unit:=()
def tw8334095214742273539:Unit:=()
def tw11783758034840957722:Unit:=()
def tw6431821693713866737:Unit:=()
def tw16420120465791726536:Unit:=()
def tw15457409740643910557:Unit:=()
def tw6381808268093552844:Unit:=()
def tw15205643707929567856:Unit:=()
def tw8967306860922042967:Unit:=()
def tw1892460357882528823:Unit:=()
def tw12513347863004541946:Unit:=()
def tw18193395072198041464:Unit:=()
def tw11451655668367823774:Unit:=()
def tw16428123238620807274:Unit:=()
def tw9896516576973049117:Unit:=()
def tw5267668870153843953:Unit:=()
def tw8563016398080276736:Unit:=()
def tw14979514299433757555:Unit:=()
def tw13817641118708157696:Unit:=()
def tw12836213820412690545:Unit:=()
def tw3397224103984734794:Unit:=()
def tw5821880297303553146:Unit:=()
def tw16899994742869765105:Unit:=()
def tw5187323724591847200:Unit:=()
def tw3326594166347604060:Unit:=()
def tw9084415800565537734:Unit:=()
def tw12254179764093580757:Unit:=()
def tw18156436011080374169:Unit:=()
def tw18215527231671267237:Unit:=()
def tw17653419409050015514:Unit:=()
def tw11822190142643822277:Unit:=()
def tw8431704425672374708:Unit:=()
def tw16647819264143408649:Unit:=()
def tw16669248348604631909:Unit:=()
def tw9239035197102726068:Unit:=()
def tw2249233104915925647:Unit:=()
def tw8782275300216384582:Unit:=()
def tw9476998459377689711:Unit:=()
def tw15516828641305863389:Unit:=()
def tw7374095180797277015:Unit:=()
def tw433601344660560272:Unit:=()
def tw7282053090075913865:Unit:=()
def tw7553820184656618754:Unit:=()
def tw18443505626272423090:Unit:=()
def tw5641202410550988858:Unit:=()
def tw4513058247313158046:Unit:=()
def tw7058063334300522015:Unit:=()
def tw378805450621845755:Unit:=()
def tw17803278325828220330:Unit:=()
def tw6165174928986177051:Unit:=()
def tw3011099401191820268:Unit:=()
def tw14274489017156715508:Unit:=()
def tw737702355152978734:Unit:=()
def tw4070811913474210894:Unit:=()
def tw5514320909702048961:Unit:=()
def tw6874577032502226151:Unit:=()
def tw15908438254145746377:Unit:=()
def tw8297283856996040295:Unit:=()
def tw16279088882192287084:Unit:=()
def tw6666230949219731353:Unit:=()
def tw5653620448356654680:Unit:=()
def tw17942438137058142539:Unit:=()
def tw16977466158472406806:Unit:=()
def tw3839984751429159226:Unit:=()
def tw6894641905765435586:Unit:=()
def tw1222601575879865355:Unit:=()
def tw413483631570476414:Unit:=()
def tw8514990506813763477:Unit:=()
def tw944599610288508182:Unit:=()
def tw13377927118625375574:Unit:=()
def tw14600496413580289680:Unit:=()
def tw2837443190940111759:Unit:=()
def tw10925550984378512354:Unit:=()
def tw7338044182057049282:Unit:=()
def tw9452053559702362360:Unit:=()
def tw9935664464017332441:Unit:=()
def tw17980444741521433061:Unit:=()
def tw14891290454025429969:Unit:=()
def tw18272905955454634176:Unit:=()
def tw6230913469125500524:Unit:=()
def tw11794057714308809154:Unit:=()
def tw5357083619920425911:Unit:=()
def tw10983684480745871644:Unit:=()
def tw15289016047417214684:Unit:=()
def tw5634790760811389119:Unit:=()
def tw16808635651952922483:Unit:=()
def tw15630683513070363203:Unit:=()
def tw7737414751813579010:Unit:=()
def tw17888283623190909515:Unit:=()
def tw8817549857219573463:Unit:=()
def tw7614493027973048781:Unit:=()
def tw2258869096026694441:Unit:=()
def tw18175051518968777899:Unit:=()
def tw9190413464762840463:Unit:=()
def tw11764200386609829316:Unit:=()
def tw6158405325104396279:Unit:=()
def tw6059339373998267157:Unit:=()
def tw1018499225495099678:Unit:=()
def tw4352988653397215314:Unit:=()
def tw9214587457058245629:Unit:=()
def tw9448194147534199518:Unit:=()
def tw15803981321986348090:Unit:=()
def tw6346739215752107972:Unit:=()
def tw17237349289852775851:Unit:=()
def tw9995183468459785862:Unit:=()
def tw4056056045496049698:Unit:=()
def tw1100571388319479771:Unit:=()
def tw9612179355024708956:Unit:=()
def tw7940679878789339459:Unit:=()
def tw2335158420700055130:Unit:=()
def tw2481812681264386473:Unit:=()
def tw17469996276101407454:Unit:=()
def tw15562360594767787932:Unit:=()
def tw7726068269202857475:Unit:=()
def tw4319732066504122809:Unit:=()
def tw8101553451792931251:Unit:=()
def tw7095772246897527650:Unit:=()
def tw15357404169740889782:Unit:=()
def tw15432288866267986502:Unit:=()
def tw16210876814765461308:Unit:=()
def tw7910046168869446784:Unit:=()
def tw16533933762292698727:Unit:=()
def tw9457477498540984164:Unit:=()
def tw8645738362017030729:Unit:=()
def tw15489628291473040928:Unit:=()
def tw16663484523101566295:Unit:=()
def tw15360468086387470674:Unit:=()
def tw8712781930254250301:Unit:=()
def tw3444580750781894394:Unit:=()
def tw4550269676565655061:Unit:=()
def tw16859305924245404316:Unit:=()
def tw2237714367357284074:Unit:=()
def tw11635602108580529826:Unit:=()
def tw4543040560184429710:Unit:=()
def tw10510594912606581654:Unit:=()
def tw1499655371135214494:Unit:=()
def tw16058958032649250087:Unit:=()
def tw4676924457731022529:Unit:=()
def tw16199535754592079346:Unit:=()
def tw6428204197735375163:Unit:=()
def tw829210174469347823:Unit:=()
def tw13174249508205662793:Unit:=()
def tw13777596540916037793:Unit:=()
def tw7312709160821575473:Unit:=()
def tw9430090521901504513:Unit:=()
def tw14788412869298766391:Unit:=()
def tw2381575670978156539:Unit:=()
def tw10169988440683052393:Unit:=()
def tw15141600998302354135:Unit:=()
def tw17602112154874685312:Unit:=()
def tw16794260405983750635:Unit:=()
def tw6275266646183743295:Unit:=()
def tw9366150188977912223:Unit:=()
def tw12381928095059023450:Unit:=()
def tw14712376741858269666:Unit:=()
def tw6273402318775156152:Unit:=()
def tw14842627044221357583:Unit:=()
def tw17807973878410177445:Unit:=()
def tw16359049826497657495:Unit:=()
def tw8668719100158515347:Unit:=()
def tw309480822623828514:Unit:=()
def tw10755529868814800081:Unit:=()
def tw18278977601649150241:Unit:=()
def tw15280572642237330152:Unit:=()
def tw1230025474251958604:Unit:=()
def tw9169322924247233423:Unit:=()
def tw14717896980317171603:Unit:=()
def tw4994701959603283655:Unit:=()
def tw6684175556074819654:Unit:=()
def tw16103799555327520939:Unit:=()
def tw13186604904187650548:Unit:=()
def tw3197353081017790929:Unit:=()
def tw17848203710693681515:Unit:=()
def tw282131447789486791:Unit:=()
def tw12862268029275498974:Unit:=()
def tw14662309150121183922:Unit:=()
def tw5033307823432218131:Unit:=()
def tw15230457084204843110:Unit:=()
def tw145057456984009289:Unit:=()
def tw14669668760355994076:Unit:=()
def tw14599367301476955580:Unit:=()
def tw16248673736991970516:Unit:=()
def tw8103583063615331841:Unit:=()
def tw18421754592698977632:Unit:=()
def tw5917780809355967062:Unit:=()
def tw9121200082048063486:Unit:=()
def tw15791945514521831106:Unit:=()
def tw6332897248612736573:Unit:=()
def tw13264432943874360954:Unit:=()
def tw8973398849859655059:Unit:=()
def tw6341373563673892879:Unit:=()
def tw15016138384970997156:Unit:=()
def tw3610639381707556815:Unit:=()
def tw12159684556380743543:Unit:=()
def tw10018852764808105555:Unit:=()
def tw3409010659499885815:Unit:=()
def tw4893013034188720029:Unit:=()
def tw382359375137519122:Unit:=()
def tw17948611031995272282:Unit:=()
def tw17562218214316659253:Unit:=()
def tw7933953783643472001:Unit:=()
def tw7125514813567479333:Unit:=()
def tw7646419428904093703:Unit:=()
def tw2492935048823277601:Unit:=()
def tw2997896382038863214:Unit:=()
def tw17998029692958862514:Unit:=()
def tw11475962193822085341:Unit:=()
def tw8934607306691027471:Unit:=()
def tw8479957610815505957:Unit:=()
def tw18039541600391259735:Unit:=()
def tw8213858905443998125:Unit:=()
def tw4327558936358980007:Unit:=()
def tw777421954958514676:Unit:=()
def tw5417278043352005660:Unit:=()
def tw11296962017502286049:Unit:=()
def tw2149782456324762723:Unit:=()
def tw1959896428812507697:Unit:=()
def tw15875807098755777756:Unit:=()
def tw2495218744943409511:Unit:=()
def tw13912774495703476974:Unit:=()
def tw11408733572587985429:Unit:=()
def tw14662265837834919608:Unit:=()
def tw61736434664823224:Unit:=()
def tw16524277695449313902:Unit:=()
def tw8751692330413677709:Unit:=()
def tw4640760013339255202:Unit:=()
def tw10213309661616362076:Unit:=()
def tw3604591480145296724:Unit:=()
def tw17532291122764911960:Unit:=()
def tw11637175865753499739:Unit:=()
def tw14225104160986335651:Unit:=()
def tw13769078620071046716:Unit:=()
def tw15457802636550927173:Unit:=()
def tw18246540931442975136:Unit:=()
def tw17813210303031394365:Unit:=()
def tw14547764195299677636:Unit:=()
def tw13003573654042930301:Unit:=()
def tw6180657220754676469:Unit:=()
def tw6166144487733097147:Unit:=()
def tw11925758728624794196:Unit:=()
def tw6438463019917108276:Unit:=()
def tw958650280880550628:Unit:=()
def tw5950063210884759658:Unit:=()
def tw15035507856951725662:Unit:=()
def tw1187452206399276879:Unit:=()
def tw7574753454547967436:Unit:=()
def tw13588511929066468545:Unit:=()
def tw15558418043824445147:Unit:=()
def tw14712386463397694446:Unit:=()
def tw15811463249705632043:Unit:=()
def tw584273130314549218:Unit:=()
def tw4165628480440605398:Unit:=()
def tw16916072888384310671:Unit:=()
def tw5152392128545352692:Unit:=()
def tw7777366554695964132:Unit:=()
def tw3240057201528472503:Unit:=()
def tw1097401238009534806:Unit:=()
def tw4766911639773762831:Unit:=()
def tw16622300467068021706:Unit:=()
def tw3059692259488965559:Unit:=()
def tw2112457980664115143:Unit:=()
def tw17257085084650053562:Unit:=()
def tw10779194045015671444:Unit:=()
def tw16667101009241754898:Unit:=()
def tw15135830779576264387:Unit:=()
def tw7273642457862183498:Unit:=()
def tw17268608014004637930:Unit:=()
def tw4601952138519853151:Unit:=()
def tw4321580180257752520:Unit:=()
def tw5485221537405620798:Unit:=()
def tw11160854349734997969:Unit:=()
def tw6697751921612475357:Unit:=()
def tw15005537976797362391:Unit:=()
def tw6918265950199041226:Unit:=()
def tw4182159458032843997:Unit:=()
def tw5867028659477887014:Unit:=()
def tw17394626197911693203:Unit:=()
def tw6425263401743843361:Unit:=()
def tw14920048331596482043:Unit:=()
def tw2145133703605653218:Unit:=()
def tw11671740357937198439:Unit:=()
def tw4113259403430432528:Unit:=()
def tw2741822661470766685:Unit:=()
def tw2397578414459513644:Unit:=()
def tw11954550111059220503:Unit:=()
def tw6830532730920054876:Unit:=()
def tw7278707263390552048:Unit:=()
def tw15148907341998933591:Unit:=()
def tw12841090990767095350:Unit:=()
def tw18423212090138955802:Unit:=()
def tw12983378224433567960:Unit:=()
def tw17918579754074385365:Unit:=()
end PySem.W.Fast
set_option maxRecDepth 100000 in
set_option maxHeartbeats 0 in
theorem PySem.Challenge.cw_forerun_k41_one_hand_alone_holds : PySem.Challenge.rw_forerun_k41_one_hand_alone.Holds := by
 w_on; o_law; k_head; (case hw => w_witness2)
 k_fill
 refine L2.walk_ofXB (l := PySem.Challenge.rw_forerun_k41_one_hand_alone) (n := 63) (k := 16) (x := "script") (sp := K41.sp_law) rfl (by decide) rfl ⟨rfl, by decide, by decide⟩ (fun w h Y => PySem.W.kIn_of Y) ?F ?S
 case F =>
  intro w mg fa h KX G hmg
  have T : ∃ t, K41.Txt (L2.KOf KX) mg t := by
   dsimp only [L2.KOf]
   refine' K41.txt_mk KX G ?h0 ?h1 ?h2 ?h3 ?h4 ?qa5 ?qi5 ?ql5 ?qc5 ?qk5 ?qa6 ?qi6 ?ql6 ?qc6 ?qk6 ?qa7 ?qi7 ?ql7 ?qc7 ?qk7 ?qd7 ?qa8 ?qi8 ?ql8 ?qc8 ?qk8 ?h9 ?h10 ?h11 ?h12 ?h13 ?h14 ?h15 ?h16 ?h17 ?h18 ?h19 ?h20 ?h21 ?h22 ?qa23 ?qi23 ?ql23 ?qc23 ?qk23 ?qd23 ?h24 ?h25 ?h26 ?h27 ?h28 ?h29 ?h30 ?h31 ?h32 ?h33 ?h34 ?h35 ?h36 ?h37 ?h38 ?h39 ?h40 ?h41 ?h42 ?h43 ?h44 ?h45 ?h46 ?h47 ?h48 ?h49 ?h50 ?h51 ?h52 ?h53 ?h54 ?h55 ?h56 ?h57 ?qa58 ?ql58 ?qc58 ?qk58 ?qz0 ?qz1 ?qz2 ?qz3 ?qz4 ?qz5 ?qz6 ?qz7 ?qz8 ?qz9 ?qz10 ?qz11 ?qg0 ?qh0 ?qv0 ?qv1 ?qv2 ?qv3 ?qv4 ?qv5 ?qv6 ?pg0 ?pd0 ?po0 ?pe0 ?pm0_ ?pk0 ?pn0_0 ?pn0_1 ?pn0_2 ?pn0_3 ?pn0_4 ?pn0_5 ?pn0_6 ?pn0_7 ?pn0_8 ?pg2 ?pd2 ?po2 ?pe2 ?pm2_ ?pk2 ?pn2_0 ?pn2_1 ?pn2_2 ?pn2_3 ?pg3 ?pd3 ?po3 ?pe3 ?pm3_ ?pk3 ?pn3_0 ?pn3_1 ?pn3_2 ?pn3_3 ?pg5 ?pd5 ?po5 ?pe5 ?pm5_ ?pk5 ?pn5_0 ?pn5_1 ?pn5_2 ?pn5_3 ?pn5_4 ?pn5_5 ?pn5_6 ?pi6 ?pg6 ?pd6 ?po6 ?pe6 ?pm6_ ?pk6 ?rx0 ?ry0 ?re0_0 ?re0_1 ?rm0_0 ?rx1 ?ry1 ?re1_0 ?re1_1 ?rm1_0
   (case qv0 | qv1 | qv2 | qv3 | qv4 | qv5 | qv6 => k_is)
   (case h0 | h1 | h2 | h3 | h4 => exact ⟨_, by k_is, _, _, _, _, _, _, _, _, _, by k_is, by k_is, by k_is⟩)
   (case qa5 | qi5 | ql5 | qc5 | qk5 | qa6 | qi6 | ql6 | qc6 | qk6 | qa7 | qi7 | ql7 | qc7 | qk7 | qd7 | qa8 | qi8 | ql8 | qc8 | qk8 => k_is)
   (case h9 | h10 => exact ⟨_, by k_is, _, _, _, _, _, _, _, _, _, by k_is, by k_is, by k_is⟩)
   (case h11 => exact ⟨_, by k_is, by k_is, _, _, _, _, _, _, _, _, _, by k_is, by k_is, by k_is⟩)
   (case h12 | h13 | h14 | h15 | h16 => exact ⟨_, by k_is, _, _, _, _, _, _, _, _, _, by k_is, by k_is, by k_is⟩)
   (case h17 | h18 | h19 | h20 | h21 | h22 => exact ⟨_, by k_is, by k_is, _, _, _, _, _, _, _, _, _, by k_is, by k_is, by k_is⟩)
   (case qa23 | qi23 | ql23 | qc23 | qk23 | qd23 => k_is)
   (case h24 => exact ⟨_, by k_is, by k_is, _, _, _, _, _, _, _, _, _, by k_is, by k_is, by k_is⟩)
   (case h25 | h26 | h27 | h28 | h29 | h30 => exact ⟨_, by k_is, _, _, _, _, _, _, _, _, _, by k_is, by k_is, by k_is⟩)
   (case h31 => exact ⟨_, by k_is, by k_is, _, _, _, _, _, _, _, _, _, by k_is, by k_is, by k_is⟩)
   (case h32 => exact ⟨_, by k_is, _, _, _, _, _, _, _, _, _, by k_is, by k_is, by k_is⟩)
   (case h33 | h34 | h35 | h36 => exact ⟨_, by k_is, by k_is, _, _, _, _, _, _, _, _, _, by k_is, by k_is, by k_is⟩)
   (case h37 => exact ⟨_, by k_is, _, _, _, _, _, _, _, _, _, by k_is, by k_is, by k_is⟩)
   (case h38 | h39 | h40 | h41 | h42 | h43 => exact ⟨_, by k_is, by k_is, _, _, _, _, _, _, _, _, _, by k_is, by k_is, by k_is⟩)
   (case h44 => exact ⟨_, by k_is, _, _, _, _, _, _, _, _, _, by k_is, by k_is, by k_is⟩)
   (case h45 | h46 | h47 | h48 | h49 | h50 | h51 => exact ⟨_, by k_is, by k_is, _, _, _, _, _, _, _, _, _, by k_is, by k_is, by k_is⟩)
   (case h52 | h53 | h54 | h55 | h56 => exact ⟨_, by k_is, _, _, _, _, _, _, _, _, _, by k_is, by k_is, by k_is⟩)
   (case h57 => exact ⟨_, by k_is, by k_is, _, _, _, _, _, _, _, _, _, by k_is, by k_is, by k_is⟩)
   (case qa58 | ql58 | qc58 | qk58 | qz0 | qz1 | qz2 | qz3 | qz4 | qz5 | qz6 | qz7 | qz8 | qz9 | qz10 | qz11 | qg0 | qh0 | pg0 | pd0 | po0 | pe0 | pm0_ | pk0 | pn0_0 | pn0_1 | pn0_2 | pn0_3 | pn0_4 | pn0_5 | pn0_6 | pn0_7 | pn0_8 | pg2 | pd2 | po2 | pe2 | pm2_ | pk2 | pn2_0 | pn2_1 | pn2_2 | pn2_3 | pg3 | pd3 | po3 | pe3 | pm3_ | pk3 | pn3_0 | pn3_1 | pn3_2 | pn3_3 | pg5 | pd5 | po5 | pe5 | pm5_ | pk5 | pn5_0 | pn5_1 | pn5_2 | pn5_3 | pn5_4 | pn5_5 | pn5_6 | pi6 | pg6 | pd6 | po6 | pe6 | pm6_ | pk6 => k_is)
   (case rx0 => k_exc)
   (case ry0 => exact ⟨_, by k_is, by k_is, by k_is, by k_is, by k_is, by k_is, by k_is, by k_is⟩)
   (case re0_0 | re0_1 | rm0_0 => kernel_rfl)
   (case rx1 => k_exc)
   (case ry1 => exact ⟨_, by k_is, by k_is, by k_is, by k_is, by k_is, by k_is, by k_is, by k_is⟩)
   (case re1_0 | re1_1 | rm1_0 => kernel_rfl)
  obtain ⟨t, T⟩ := T
  have e0 := hmg.symm.trans T.m_law
  cases e0
  exact ⟨_, T.w_law, fun base _ _ => K41.ok_law T⟩
 case S => exact fun K H a ns hl hb _ hS => ⟨a, ns, rfl, hS, hl, hb, fun _ => rfl⟩
