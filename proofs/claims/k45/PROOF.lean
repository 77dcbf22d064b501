import PyProof.Rows.All
import Wide.All
import OpenK.AllK
import PySem.Challenge.RW_forerun_k45_takes_and_layings
open Array renaming length_toList→b8,getElem?_eq_getElem→ck,getElem?_toList→cL,perm_iff_toList_perm→gj,getElem?_eq_none→gX,toList_inj→mF
open Array.Perm renaming mem_iff→oi,trans→oY,refl→pC
open Bool renaming false_ne_true→bJ,and_eq_true→b5,false_eq_true→cx,not_eq_true'→dF,or_eq_false_iff→iM,eq_iff_iff→iU,eq_false_iff→lT
open Classical renaming byContradiction→fh
open False renaming elim→cY
open ForInStep renaming yield→fT
open Iff renaming rfl→pM
open Int renaming emod_lt_of_pos→cy,emod_nonneg→cN,toNat_natCast→eK,toNat_of_nonneg→i9,zero_add→nu,natCast_nonneg→ot,ne_of_lt→oU
open Int.ofNat renaming inj→pL
open List renaming getElem?_eq_getElem→bb,length_map→bd,getElem?_eq_some_iff→bf,getElem?_cons_zero→bj,mem_cons_of_mem→bn,map_cons→bo,getElem?_map→bp,mem_cons_self→bq,mem_singleton→br,mem_map_of_mem→bu,length_append→bw,mem_append→bx,getElem?_cons_succ→bz,getD_eq_getElem?_getD→bB,mem_cons→bD,mem_map→bE,size_toArray→bF,mem_append_right→bI,map_append→bM,length_cons→bR,append_nil→bV,mem_of_getElem?→bW,replicate→bY,nodup_cons→bZ,lookup_cons→b7,getElem?_eq_none→ca,length→cg,take_of_length_le→cj,mem_append_left→cz,sum_cons→cA,set_cons_zero→cC,cons_append→cE,append_assoc→cG,mem_filter→cH,length_drop→cK,set_cons_succ→cO,getElem?_of_mem→cP,map→cQ,length_take→cR,nodup_nil→cU,lookup→cW,nil_append→cX,mem_of_mem_drop→cZ,range→da,map_map→df,filter_cons→dh,mem_of_mem_take→dt,map_congr_left→dA,filter_sublist→dD,nodup_append→dH,take_add_one→dU,ext_getElem?→dW,getElem?_append_left→dX,getElem_mem→eD,foldl_cons→eO,sum_append_nat→eQ,take_length→eR,length_singleton→eV,take_append_drop→eW,pairwise_iff_getElem→e9,length_range→fu,all_cons→fB,filter_cons_of_neg→fE,filter_cons_of_pos→fG,eq_nil_of_length_eq_zero→fJ,mem_filterMap→fN,getElem?_take→fO,length_replicate→fR,find?_cons→fS,pairwise_map→gb,Nodup→gc,getElem?_inj→gg,getElem?_append_right→gh,pairwise_append→gq,drop_zero→gC,drop_eq_getElem_cons→gD,getElem_inj→gE,getElem?_range→gH,eraseIdx_cons_succ→gN,drop_eq_nil_of_le→gW,eraseIdxIfInBounds_toArray→ie,any_eq_true→iH,all_eq_true→iI,perm_cons_erase→iN,any_cons→iP,map_take→iR,filterMap_cons→iS,range_succ→lf,map_nil→lB,getElem?_replicate→l9,map_drop→mE,getElem?_set_self→mH,drop_of_length_le→mQ,of_mem_zip→mW,length_nil→mX,length_filter_le→mY,perm_append_comm→ny,getElem?_set_ne→nD,mem_erase_of_ne→nH,reverse_append→nS,filter_eq_self→nU,getElem?_drop→ou,erase_sublist→oy,take_sublist→oB,reverse_cons→oF,drop_sublist→oI,flatten_cons→oJ,getElem?_set→oK,toArray→oQ,reverse_nil→oW,nodup_range→oX,mem_reverse→oZ,not_mem_nil→pb,perm_middle→ph,all_append→pD,sum_append→pE
open List.Nodup renaming sublist→gQ
open List.Pairwise renaming nil→fo,imp→lU
open List.Perm renaming trans→dN
open List.Sublist renaming map→iL
open List.cons renaming injEq→bT
open Nat renaming le_refl→bi,le_trans→bK,zero_le→bP,lt_of_le_of_lt→bU,lt_of_lt_of_le→b9,le_succ_of_le→cf,reduceAdd→cp,ne_of_lt→cq,reduceSub→cB,min_eq_left→dv,succ_le_succ→eA,lt_irrefl→eS,ne_of_gt→eT,min_eq_right→gG,lt_or_ge→iz,lt_succ_self→iG,eq_zero_or_pos→lH,le_add_right→mG,le_of_lt→mT,le_of_eq→mV,sub_zero→mZ,add_le_add_left→nP,add_assoc→oq,lt_trans→oP,zero_add→oS,le_succ→pA
open Ne renaming symm→eL
open Option renaming map_eq_some_iff→b6,isSome_iff_exists→fm,map_some→iW,isSome_map→lN,isNone_some→oo,getD_none→oV
open Option.some renaming injEq→bC,inj→bQ
open Or renaming inl→gU,inr→oh
open Prod renaming ext→pJ
open Prod.mk renaming inj→nT
open PyProof renaming noPylong_of_log2→lQ
open PyProof.Rows renaming callWith_type1→iT,reads_newData→mx,subscriptTail_builtinR→mK,entry_proto_collect'→nG,lt_int→nN,listUpdate_at→oj
open PySem renaming wpAny_bind→ba,wpAny_pure→bh,sizeLine_eq→bS,wpAny_newObj_type→dn,wpAny_call_entry→dy,wpAny_mono→dE,wpAny_dictEntries→dG,tupleKind_room_in1→dL,wpAny_truthy_bool→dQ,wpAny_holding→dY,wpAny_typeNameOfWhole_itemiter→eo,wpAny_typeNameOfWhole_keyiter→eB,wpAny_callSpecial?_slot→eE,wpAny_execs_nil→eM,mem_of_lookup→eN,codeAny_builtin→eP,wpAny_Call_Name_kw→eU,wpAny_notOrdered_dict→eX,wpAny_setField_rec→eZ,wpAny_typeNameOf_itemiter→fc,wpAny_passesOwn→fj,wpAny_typeNameOf_keyiter→fq,codeAny_mono→fQ,wpAny_dictEpoch→fV,wpAny_loadPart'→fW,wpAny_Call_method→fY,plainId_quiet→fZ,wpAny_isOneOf_itemiter→gY,plainObj_wpAny_Assign_Attribute→ia,call_meets→ic,call_meetsIn→ir,codeAny_handlers_test→iB,wpAny_execs_cons→iF,wpAny_handleBy_cons→iZ,wpAny_field→i0,wpAny_updateSeq→i7,wpAny_fieldsOf→lJ,call→lO,wpAny_comprehension_free→lP,wpAny_Call_method0_late→mf,wpAny_attempt→mz,wpAny_pyNext_list_item→mI,codeAny_handlers_suite→mM,wpAny_pyNext_list_end→mU,wpAny_isOneOf_keyiter→m6,size_of_entries→nh,wpAny_load→nA,typeIs_str→nB,wpAny_loadName_local→nE,wpAny_pyIter_keyiter→nF,wpAny_updateDictKeys→nJ,wpAny_setField→nM,evalArgs_none→nO,wpAny_newList→om,wpAny_call→oA,wpAny_rule→oG,Within→oM,wpAny_typeOf→oR
open PySem.Around renaming under_plainId→dq,under→oN
open PySem.Builtin.Dict renaming showsAll→fU,keyAndDefault→lj,updateFrom→mC,takeOut→nI
open PySem.Builtin.Dict_items renaming ownsTuple→dI,ownedTupleFields→gI,ownedTupleIsFree→gJ,pairFromOwner→gR
open PySem.Builtin.Int renaming intBits→dz,intTooBig→m8
open PySem.Builtin.List renaming listExtendWith→de,listTooLong→gK,listSameRef→lV,listItems→mP
open PySem.Builtin.Str renaming occurrences→gO,strSliceIndices→iX,glued→lS,tooLong→nQ
open PySem.Calls renaming spliced_cons→cS,callWith_builtin→c8,evalArgs_plain→dO,spliced_nil→eJ,Name_function_global→lh,call_function_entry→lI,Constant_str→nY
open PySem.Code renaming isFrame→oO
open PySem.F renaming plainAttrs_list→bN,slot_list_append→cu,type_list_append→cw,plainAttrs_dict→dM,plain_extend_loop→dZ,slot_dict_pop→ef,slot_dict_itemiterator_next→eC,slot_dict_keyiterator_next→eG,plain_list_iadd→fC,entry_dict_pop→gT,args_dict_itemiterator_next_1→ig,slot_dict_get→iu,type_dict_pop→iy,args_dict_keyiterator_next_1→iA,entry_dict_itemiterator_next→iC,slot_list_pop→iD,type_list_pop→iE,entry_dict_keyiterator_next→iK,slot_dict_setdefault→iQ,plain_proto_collect→iY,entry_extend_loop→lK,args_tuple_add_2→lM,slot_list_remove→lW,type_list_remove→lX,slot_list_insert→lY,type_list_insert→lZ,entry_tuple_add→ma,args_dict_pop_2→mh,args_dict_pop_3→mj,args_dict_get_3→mo,slot_dict_items→mD,slot_tuple_add→mJ,entry_dict_get→mL,slot_dict_items_iter→mO,plainAttrs_str→mR,slot_tuple_lt→m7
open PySem.Heap renaming get?_push_of_some→bg,get?_push_size→bH,lt_size→bO,SameBut→cV,get?_update_other→dP,get?_update_self→eY,size_push→ii
open PySem.Heap.SameBut renaming update→dC
open PySem.NameKind renaming free→c9,cell→mq
open PySem.Obj renaming mapSeq→du,data_mapDictKeys→gp,isFreed_of_dict→nV,data_mapFields→on
open PySem.Paired renaming length→bL
open PySem.PassesOwn renaming never→cF
open PySem.PyData renaming strOk→cM,depthAll→gP,depth→m4,canLay0→nK,canLayAll0→oE
open PySem.SeqAt renaming noMixAll→ik,shaped→m3,noMix→nR
open PySem.SeqAt.EqAt renaming int_int→lE,str_str→lF,int_str→nW,str_int→nX
open PySem.Shared renaming TypeIs→pK
open PySem.Spec renaming sameAll→lG,same→pB
open PySem.Str renaming ofString→bc,empty→fI,length→ib,length_append→lR
open PySem.Txt renaming slice→gB
open PySem.Value renaming ref→bG,none→cI,int→fi,str→gM,bool→gZ,type→lL,float→pj
open PySem.W renaming Frag→bt,findIn→bX,keepIn→dJ,emptyDict→dR,mg_none_of→eI,hasDictIn→fz,kitOne→fA,instObj→fH,hideAll_none→fK,plainGet→fM,plainOver→fP,nsIn→gm,hideAll→gu,makesIn→gy,kia_one→gA,codeIn→gF,fnOf→gS,exmOne→iq,funFrames_hide→iJ,hideAll_get→iO,methodCall_KW→iV,mg_of→i8,of_hideAll→lq,callWith_K→lA,kas_place→m5,plainGet_of→nZ,isFn→n0,callWith_K0→n9,OpenLaw→og,excIn→oC,exmAny→pi,methodObj→pq,specialIn→pz,lookIn→pF,Looks→pG,mroIn→pH,WalkO→pI
open PySem.W.KatTups renaming cons→pN
open PySem.W.Looks renaming ld→oH
open Sum renaming inl→gL,inr→oz
open Sum.inl renaming inj→l8
open True renaming intro→eu
open Bool renaming true→af,false→ak
open Option renaming some→aa,none→ai
open PySem renaming Addr→ac,Value→ae,Shared→ah,Program→aq,World→au,Heap→av,Around→aw,Stmt→ax,Expr→ay,Scope→az,Result→aA,sizeLine→Bb,FuncData→Bc,mainGlobals→Bd,starEach→Be,wpAny→Bf,model→Bg,bootBuiltins→Bh,compareOp→Bi
set_option Elab.async false
set_option linter.all false
set_option maxRecDepth 100000
theorem Bj{p:Prop}[Decidable p](h:p):decide p=true:=decide_eq_true h
theorem Bk{p:Prop}[Decidable p](h:¬p):decide p=false:=decide_eq_false h
local macro_rules|`(tactic|lia)=>`(tactic|first|decide +kernel|(intro _ z;cases z;done)|(intro z;cases z;done))
theorem aj{c:Prop}{h:Decidable c}(n:¬c){α:Sort u}{t e:α}:ite c t e=e:=if_neg n
theorem am{c:Prop}{h:Decidable c}(n:c){α:Sort u}{t e:α}:ite c t e=t:=if_pos n
theorem ao{α:Sort u}{p:α->Prop}{a:α}:(∃x,a=x/\p x)↔p a:=exists_eq_left'
theorem ap{α:Sort u}{p:α->Prop}{b:Prop}:(∃x,b/\p x)↔b/\∃x,p x:=exists_and_left
namespace L2
open PySem PySem.Spec PyProof.Rows
abbrev Key:=Sum Int Str
def WH:Key->ae->Bool
 |.inl k,v=>Value.isInt k v
 |.inr x,v=>Value.isStrOf x v
def zhO(w:au):Key->Int
 |.inl k=>hashInt k
 |.inr x=>hashStr w x
theorem yC:∀ {k:Key} {v:ae},WH k v=af->(∃i t,k=gL i/\v=fi i t)\/(∃x t,k=oz x/\v=gM x t)
 |.inl i,v,h=>by
  obtain⟨t,e⟩:=Value.isInt_shape (k:=i) (v:=v) h
  exact .inl ⟨i,t,rfl,e⟩
 |.inr x,v,h=>by
  obtain⟨t,e⟩:=Value.isStrOf_shape (x:=x) (v:=v) h
  exact .inr ⟨x,t,rfl,e⟩
theorem zcd(i:Int)(t:Tok):WH (.inl i) (.int i t)=af:=by simp[WH,Value.isInt]
theorem zce(x:Str)(t:Tok):WH (.inr x) (.str x t)=af:=by simp[WH,Value.isStrOf]
theorem zgr(a b:Int):decide ((gL a:Key)=gL b)=(a==b):=by
 by_cases e:a=b
 ·subst e;simp
 ·have h:¬ (gL a:Key)=gL b:=λq=>e (l8 q)
  rw[Bk h]
  exact(beq_eq_false_iff_ne.mpr e).symm
theorem zgs(a b:Str):decide ((oz a:Key)=oz b)=decide (a=b):=by
 by_cases e:a=b
 ·subst e;simp
 ·have h:¬ (oz a:Key)=oz b:=λq=>e (Sum.inr.inj q)
  rw[Bk h,Bk e]
theorem zgt(a:Int)(b:Str):decide ((gL a:Key)=oz b)=ak:=Bk (λq=>nomatch q)
theorem zgu(a:Str)(b:Int):decide ((oz a:Key)=gL b)=ak:=Bk (λq=>nomatch q)
def yk(prog:aq)(w:au):PySem.KeyKind prog w Key where
 is:=WH
 hash:=zhO w
 inj:=λv a b ha hb=>by
  rcases yC ha with ⟨i,t,rfl,rfl⟩|⟨x,t,rfl,rfl⟩
  ·rcases yC hb with ⟨j,u,rfl,e⟩|⟨y,u,rfl,e⟩
   ·injection e with e1 _;rw[e1]
   ·exact nomatch e
  ·rcases yC hb with ⟨j,u,rfl,e⟩|⟨y,u,rfl,e⟩
   ·exact nomatch e
   ·injection e with e1 _;rw[e1]
 byValue:=λk v h=>by
  rcases yC h with ⟨i,t,rfl,rfl⟩|⟨x,t,rfl,rfl⟩ <;> rfl
 pyHash:=λhv h=>by
  rcases yC hv with ⟨i,t,rfl,rfl⟩|⟨x,t,rfl,rfl⟩
  ·exact wpAny_pyHash_int h
  ·exact wpAny_pyHash_str h
 eqBool:=λhu hv h=>by
  rcases yC hu with ⟨i,t,rfl,rfl⟩|⟨x,t,rfl,rfl⟩
  ·rcases yC hv with ⟨j,u,rfl,rfl⟩|⟨y,u,rfl,rfl⟩
   ·rw[zgr] at h;exact wpAny_eqBool_int h
   ·rw[zgt] at h;exact nW i t y u _ _ _ _ h
  ·rcases yC hv with ⟨j,u,rfl,rfl⟩|⟨y,u,rfl,rfl⟩
   ·rw[zgu] at h;exact nX x t j u _ _ _ _ h
   ·rw[zgs] at h;exact wpAny_eqBool_str h
 «strs»:=λk x t v h=>by
  rcases yC h with ⟨i,u,rfl,e⟩|⟨y,u,rfl,e⟩
  ·exact nomatch e
  ·injection e with e1 _
   subst e1
   cases v <;> rfl
theorem Qb(prog:aq)(w:au)(i:Int)(t:Tok):(yk prog w).is (.inl i) (.int i t)=af:=zcd i t
theorem Qc(prog:aq)(w:au)(x:Str)(t:Tok):(yk prog w).is (.inr x) (.str x t)=af:=zce x t
inductive V where
 |non|bl (b:Bool)|int (i:Int)|str (x:Str)|byt (b:Array UInt8)|flt (b:UInt64)|ref (a:ac)|ty (n:String)
 deriving DecidableEq
def RelV:V->ae->Prop
 |.non,u=>u=cI
 |.bl b,u=>u=gZ b
 |.int i,u=>∃t,u=fi i t
 |.str x,u=>∃t,u=gM x t
 |.byt b,u=>∃t,u=Value.bytes b t
 |.flt b,u=>∃t,u=pj b t
 |.ref a,u=>u=bG a
 |.ty n,u=>u=lL n
abbrev Vals:List V->List ae->Prop:=Paired RelV
theorem Vals.length(r:Vals xs us):xs.length=us.length:=bL r
theorem Vals.get:∀ {xs:List V} {us:List ae} {i:Nat} {x:V},Vals xs us->xs[i]?=aa x->∃u,us[i]?=aa u/\RelV x u
 |_,_,_,_,.nil,e=>by simp at e
 |_,_,0,_,.cons r _,e=>by simp at e;subst e;exact⟨_,rfl,r⟩
 |_,_,i+1,x,.cons _ t,e=>by
  obtain⟨u,h1,h2⟩:=Vals.get (i:=i) (x:=x) t (by simpa using e)
  exact⟨u,by simpa using h1,h2⟩
theorem Vals.append:∀ {xs ys:List V} {us ws:List ae},Vals xs us->Vals ys ws->Vals (xs++ys) (us++ws)
 |_,_,_,_,.nil,s=>s
 |_,_,_,_,.cons r t,s=>.cons r (Vals.append t s)
theorem Vals.take:∀ {xs:List V} {us:List ae} (n:Nat),Vals xs us->Vals (xs.take n) (us.take n)
 |_,_,0,_=>.nil
 |_,_,_+1,.nil=>.nil
 |_,_,n+1,.cons r t=>.cons r (Vals.take n t)
theorem Vals.drop:∀ {xs:List V} {us:List ae} (n:Nat),Vals xs us->Vals (xs.drop n) (us.drop n)
 |_,_,0,r=>r
 |_,_,_+1,.nil=>.nil
 |_,_,n+1,.cons _ t=>Vals.drop n t
def RelO:Option V->Option ae->Prop
 |some v,aa u=>RelV v u
 |none,ai=>True
 |_,_=>False
def KV{κ:Type}:List (κ×V)->List (κ×ae)->Prop:=Paired λ(p:κ×V) (q:κ×ae)=>p.1=q.1/\RelV p.2 q.2
def kV:Key->V
 |.inl i=>.int i
 |.inr x=>.str x
inductive HO where
  |lst (xs:List V)
  |tup (xs:List V)
  |dK (kvs:List (Key×V))|dT (kvs:List (List Key×V))
  |set (S:Int->Bool) (n:Nat)
  |ins (C dx:ac) (fs:List (Str×V))
  |own (x:ac)
  |xd (fs:List (Str×V))
  |met (f x:ac)
  |rng (lo hi:Int)
  |frz (o:Obj) (u:HO)
  |tbl (ps:Array ae)
  |ext (φ:av->Prop)
abbrev Hp:=ac->Option HO
def upd(H:Hp)(a:ac)(o:HO):Hp:=λb=>if b=a then aa o else H b
theorem zh{H:Hp} :upd H a o a=aa o:=by unfold upd;rw[am rfl]
theorem zi{H:Hp}(h:b≠a):upd H a o b=H b:=by unfold upd;rw[aj h]
theorem Yz{H:Hp} :upd (upd H a o) a u=upd H a u:=by
 funext b;unfold upd;split <;> rfl
theorem zG{H:Hp}(h:H a=aa o)(h':H b=aa u)(d:o≠u):a≠b:=by
 intro e;subst e;rw[h] at h';exact d (bQ h')
theorem zx{H:Hp}(h:H a=aa o)(h':H b=ai):a≠b:=by
 intro e;subst e;rw[h] at h';cases h'
section
variable (P:aq)(w:au)
def ObjOk(H:Hp)(h:av)(a:ac):HO->Prop
 |.lst xs=>xs.length<=Bb/\∃(its:List ae) (n:Nat),Vals xs its/\h.get? a=aa { cls:=.type "list",data:=.seq its.toArray n }
 |.tup xs=>xs.length<=Bb/\∃its:List ae,Vals xs its/\IsTup h a its.toArray
 |.dK kvs=>kvs.length<=Bb/\(a==sysModules)=ak/\∃vs,KV kvs vs/\h.DictOf (yk P w) a vs
 |.dT kvs=>kvs.length<=Bb/\(a==sysModules)=ak/\∃xs:List (List Key×ac×ae),
   Paired (λ(p:List Key×V) (q:List Key×ac×ae)=>p.1=q.1/\H q.2.1=aa (.tup (p.1.map kV))/\RelV p.2 q.2.2) kvs xs /\
   ∃o es ep,h.get? a=aa o/\o.ExactDict/\o.data=.dict es ep/\es.toList=xs.map (entryOfKey (tupleKind (yk P w)))/\(xs.map (·.1)).Nodup
 |.set S n=>h.SetOf (intKind P w) a S n
 |.ins C dx fs=>H dx=aa (.own a)/\fs.length<=1000/\dx≠a/\h.get? a=aa (fH C dx) /\
   ∃mA,h.Ns1 dx mA/\(∀f,RelO (fs.lookup f) (mA f))/\oM mA (fs.map (·.1))
 |.own _=>∃o,h.get? a=aa o
 |.xd fs=>∃mA,h.Ns1 a mA/\∀f,RelO (fs.lookup f) (mA f)
 |.rng lo hi=>∃t u v,h.get? a=aa { cls:=.type "range",data:=.fields #[.int lo t,.int hi u,.int 1 v] }
 |.frz o u=>h.get? a=aa o/\ObjOk H h a u
 |.tbl ps=>h.get? a=aa { cls:=.none,data:=.fields ps }
 |.met f x=>h.get? a=aa (pq (.ref f) (.ref x))
 |.ext φ=>φ h/\(∃o,h.get? a=aa o)/\∀h1 h2:av,φ h1->(∀o,h1.get? a=aa o->h2.get? a=aa o)->φ h2
def HOk(H:Hp)(h:av):Prop:=∀a o,H a=aa o->ObjOk P w H h a o
end
section
variable {P:aq}{w:au}{H H':Hp}{h h':av}{a:ac}{o:HO}
theorem ObjOk.lt(x:ObjOk P w H h a o):a<h.objs.size:=by
 cases o with
 |lst xs=>obtain⟨_,_,_,_,e⟩:=x;exact bO e
 |tup xs=>obtain⟨_,_,_,p⟩:=x;exact p.lt
 |dK kvs=>obtain⟨_,_,_,_,o,_,_,e,_⟩:=x;exact bO e
 |dT kvs=>obtain⟨_,_,_,_,o,_,_,e,_⟩:=x;exact bO e
 |set S n=>obtain⟨o,_,_,_,e,_⟩:=x;exact bO e
 |ins C dx fs=>obtain⟨_,_,_,e,_⟩:=x;exact bO e
 |own y=>obtain⟨_,e⟩:=x;exact bO e
 |xd fs=>obtain⟨_,⟨_,_,_,e,_⟩,_⟩:=x;exact bO e
 |rng lo hi=>obtain⟨_,_,_,e⟩:=x;exact bO e
 |frz ob u=>obtain⟨e,_⟩:=x;exact bO e
 |tbl ps=>exact bO (show h.get? a=aa _ from x)
 |met f y=>exact bO (show h.get? a=aa _ from x)
 |ext φ=>obtain⟨_,⟨_,e⟩,_⟩:=x;exact bO e
theorem Paired.mapP{α β:Type}{F G:α->β->Prop}:∀ {l₁:List α} {l₂:List β},Paired F l₁ l₂->(∀a b,F a b->G a b)->Paired G l₁ l₂
 |_,_,.nil,_=>.nil
 |_,_,.cons r t,f=>.cons (f _ _ r) (Paired.mapP t f)
theorem ObjOk.stay(x:ObjOk P w H h a o)(k:∀b u,(b=a\/H b=aa (.own a))->h.get? b=aa u->h'.get? b=aa u)
  (ho:∀b,H b=aa (.own a)->H' b=aa (.own a)) (ht:∀b xs,H b=aa (.tup xs)->H' b=aa (.tup xs)):ObjOk P w H' h' a o:=by
 induction o with
 |lst xs=>obtain⟨z,its,n,r,e⟩:=x;exact⟨z,its,n,r,k _ _ (.inl rfl) e⟩
 |tup xs=>obtain⟨z,its,r,ob,e,c⟩:=x;exact⟨z,its,r,ob,k _ _ (.inl rfl) e,c⟩
 |dK kvs=>obtain⟨z,y,vs,r,ob,es,ep,e,c⟩:=x;exact⟨z,y,vs,r,ob,es,ep,k _ _ (.inl rfl) e,c⟩
 |dT kvs =>
  obtain⟨z,y,xs,r,ob,es,ep,e,c⟩:=x
  exact⟨z,y,xs,Paired.mapP r λp q z=>⟨z.1,ht _ _ z.2.1,z.2.2⟩,ob,es,ep,k _ _ (.inl rfl) e,c⟩
 |set S n=>obtain⟨ob,es,ep,t,e,c⟩:=x;exact⟨ob,es,ep,t,k _ _ (.inl rfl) e,c⟩
 |ins C dx fs =>
  obtain⟨d,z,ne,e,mA,⟨od,es,ep,e2,c⟩,r⟩:=x
  exact⟨ho _ d,z,ne,k _ _ (.inl rfl) e,mA,⟨od,es,ep,k _ _ (.inr d) e2,c⟩,r⟩
 |own y=>obtain⟨ob,e⟩:=x;exact⟨ob,k _ _ (.inl rfl) e⟩
 |xd fs=>obtain⟨mA,⟨od,es,ep,e,c⟩,r⟩:=x;exact⟨mA,⟨od,es,ep,k _ _ (.inl rfl) e,c⟩,r⟩
 |rng lo hi=>obtain⟨t,u,v,e⟩:=x;exact⟨t,u,v,k _ _ (.inl rfl) e⟩
 |frz ob u ih=>obtain⟨e,q⟩:=x;exact⟨k _ _ (.inl rfl) e,ih q⟩
 |tbl ps =>
  have e:h.get? a=aa { cls:=.none,data:=.fields ps }:=x
  show h'.get? a=aa { cls:=.none,data:=.fields ps }
  exact k a _ (.inl rfl) e
 |met f y =>
  have e:h.get? a=aa (pq (.ref f) (.ref y)):=x
  show h'.get? a=aa (pq (.ref f) (.ref y))
  exact k a _ (.inl rfl) e
 |ext φ=>obtain⟨p,⟨o,e⟩,st⟩:=x;exact⟨st _ _ p λo q=>k _ _ (.inl rfl) q,⟨o,k _ _ (.inl rfl) e⟩,st⟩
theorem HOk.lt(x:HOk P w H h)(e:H a=aa o):a<h.objs.size:=(x a o e).lt
theorem HOk.fresh(x:HOk P w H h)(e:h.objs.size<=a):H a=ai:=by
 cases q:H a with
 |none=>rfl
 |some u=>exact absurd (b9 (x.lt q) e) (eS _)
theorem HOk.kept(x:HOk P w H h)(k:∀b u,h.get? b=aa u->h'.get? b=aa u):HOk P w H h':=λa o e =>
 (x a o e).stay (λb u _ q=>k b u q) (λ_ q=>q) λ_ _ q=>q
theorem HOk.laid(x:HOk P w H h)(k:∀b u,h.get? b=aa u->h'.get? b=aa u)(hp:h.objs.size<=a)(new:ObjOk P w (upd H a o) h' a o):HOk P w (upd H a o) h':=λb u e=>by
 have hn:=x.fresh hp
 by_cases hb:b=a
 ·subst hb;rw[zh] at e;cases e;exact new
 ·rw[zi hb] at e
  exact(x b u e).stay (λc v _ q=>k c v q) (λc q=>by rw[zi (zx q hn)];exact q) λc xs q=>by rw[zi (zx q hn)];exact q
end
def Rd(H:Hp)(a:ac)(u:HO):Prop:=H a=aa u\/∃o,H a=aa (.frz o u)
theorem Rd.ok{H:Hp}(r:Rd H a u)(x:HOk P w H h):ObjOk P w H h a u:=by
 rcases r with r|⟨o,r⟩
 ·exact x a u r
 ·obtain⟨_,q⟩:=x a _ r
  exact q
def Mut:Option HO->Prop
 |some (.lst _)=>True
 |some (.dK _)=>True
 |some (.dT _)=>True
 |some (.set _ _)=>True
 |some (.ins _ _ _)=>True
 |some (.ext _)=>True
 |_=>False
section
variable {P:aq}{w:au}{H:Hp}{h h':av}{x e:ac}{o':HO}
theorem HOk.write(ok:HOk P w H h)(mu:Mut (H x))(he:e=x\/H e=aa (.own x))(k:∀b u,b≠e->h.get? b=aa u->h'.get? b=aa u)(heo:∃u,h'.get? e=aa u)
  (new:ObjOk P w (upd H x o') h' x o'):HOk P w (upd H x o') h':=λb u q=>by
 have nown:∀c y,H c=aa (.own y)->c≠x:=λc y r z=>by subst z;rw[r] at mu;exact mu
 have ntup:∀c xs,H c=aa (.tup xs)->c≠x:=λc xs r z=>by subst z;rw[r] at mu;exact mu
 by_cases hb:b=x
 ·subst hb;rw[zh] at q;cases q;exact new
 ·rw[zi hb] at q
  by_cases hbe:b=e
  ·have q':H b=aa (.own x):=by
    rcases he with z|z
    ·exact absurd (hbe.trans z) hb
    ·rw[hbe];exact z
   rw[q] at q';cases q'
   obtain⟨v,hv⟩:=heo
   exact⟨v,by rw[hbe];exact hv⟩
  ·refine(ok b u q).stay (λc v hc r=>k c v ?_ r) (λc r=>by rw[zi (nown c b r)];exact r) λc xs r=>by rw[zi (ntup c xs r)];exact r
   rcases hc with rfl|hc
   ·exact hbe
   ·rintro rfl
    rcases he with z|z
    ·exact nown c b hc z
    ·rw[hc] at z;cases z;exact hb rfl
end
structure Un(fs ex:List ac)(H H':Hp)(h h':av):Prop where
 keep:∀b o,h.get? b=aa o->H b=ai->b ∉ fs->b ∉ ex->h'.get? b=aa o
 slot:∀b o,h.get? b=aa o->H b=ai->b∈fs->b ∉ ex->∃sl,h'.get? b=aa { o with slots:=sl }
 free:∀b o,h.get? b=aa o->H b=ai->b ∉ ex->H' b=ai
 there:∀b o,h.get? b=aa o->b ∉ ex->∃o',h'.get? b=aa o'
 tups:∀b xs,H b=aa (.tup xs)->H' b=aa (.tup xs)
 frzs:∀b o u,H b=aa (.frz o u)->H' b=aa (.frz o u)
 tbls:∀b ps,H b=aa (.tbl ps)->∃more,H' b=aa (.tbl (ps++more))
section
variable {fs fs' ex ex':List ac}{H H1 H2:Hp}{h h1 h2 h':av}{a x e:ac}{o:HO}
theorem Un.any(u:Un fs ex H H1 h h1)(q:h.get? b=aa ob)(n:H b=ai)(hx:b ∉ ex):∃sl,h1.get? b=aa { ob with slots:=sl }:=by
 by_cases hb:b∈fs
 ·exact u.slot b ob q n hb hx
 ·exact⟨ob.slots,u.keep b ob q n hb hx⟩
theorem Un.kept(k:∀b u,h.get? b=aa u->h'.get? b=aa u):Un fs ex H H h h' :=
 ⟨λb ob q _ _ _=>k b ob q,λb ob q _ _ _=>⟨ob.slots,k b ob q⟩,λ_ _ _ n _=>n,λb ob q _=>⟨ob,k b ob q⟩,λ_ _ q=>q,λ_ _ _ q=>q,λ_ ps q=>⟨#[],by rw[q];simp⟩⟩
theorem Un.refl:Un fs ex H H h h:=Un.kept λ_ _ q=>q
theorem Un.laid(k:∀b u,h.get? b=aa u->h'.get? b=aa u)(hp:h.objs.size<=a)(hn:H a=ai):Un fs ex H (upd H a o) h h' where
 keep:=λb u q _ _ _=>k b u q
 slot:=λb u q _ _ _=>⟨u.slots,k b u q⟩
 free:=λb u q n _=>by rw[zi (cq (b9 (bO q) hp))];exact n
 there:=λb u q _=>⟨u,k b u q⟩
 tups:=λb xs q=>by rw[zi (zx q hn)];exact q
 frzs:=λb u xs q=>by rw[zi (zx q hn)];exact q
 tbls:=λb ps q=>⟨#[],by rw[zi (zx q hn),q];simp⟩
theorem Un.write(mu:Mut (H x))(he:e=x\/H e=aa (.own x))(k:∀b u,b≠e->h.get? b=aa u->h'.get? b=aa u)(heo:∃u,h'.get? e=aa u):Un fs ex H (upd H x o) h h':=by
 have hx:∀b,H b=ai->b≠x:=λb n z=>by subst z;rw[n] at mu;exact mu
 have hb:∀b,H b=ai->b≠e:=λb n z=>by
  subst z
  rcases he with r|r
  ·exact hx b n r
  ·rw[n] at r;cases r
 have hm:∀b u,H b=aa u->¬ Mut (aa u)->b≠x:=λb u q nm z=>by subst z;rw[q] at mu;exact nm mu
 refine⟨λb u q n _ _=>k b u (hb b n) q,λb u q n _ _=>⟨u.slots,k b u (hb b n) q⟩,λb u q n _=>by rw[zi (hx b n)];exact n,λb u q _=>?_,
  λb xs q=>by rw[zi (hm b _ q λz=>z)];exact q,λb u xs q=>by rw[zi (hm b _ q λz=>z)];exact q,λb ps q=>⟨#[],by rw[zi (hm b _ q λz=>z),q];simp⟩⟩
 by_cases hbe:b=e
 ·subst hbe;exact heo
 ·exact⟨u,k b u hbe q⟩
end
def trk(h:av)(H:Hp):List ac:=(da h.objs.size).filter λa=>(H a).isSome
def JT(h:av)(H:Hp):av:=gu h (trk h H)
theorem zcf(h:av)(H:Hp):(JT h H).objs.size=h.objs.size:=W.hideAll_size _ _
theorem zc1{H:Hp}(e:h.get? b=aa o)(n:H b=ai):(JT h H).get? b=aa o:=
 iO _ e λhm=>by
  have q:(H b).isSome=af:=(cH.mp hm).2
  rw[n] at q;simp at q
theorem ze4{H:Hp}(e:(JT h H).get? b=aa o):h.get? b=aa o/\H b=ai:=by
 have e':h.get? b=aa o:=lq (trk h H) e
 refine⟨e',?_⟩
 cases q:H b with
 |none=>rfl
 |some x =>
  have hm:b∈trk h H:=cH.mpr ⟨List.mem_range.mpr (bO e'),by simp[q]⟩
  have z:(JT h H).get? b=ai:=fK (trk h H) hm
  rw[z] at e;cases e
def ze5(g h:av)(L:ac):List (ac×Obj):=(da h.objs.size).filterMap λa=>if a=L\/(g.get? a).isSome=af then ai else (h.get? a).map λo=>(a,o)
def rest(g h:av)(L d:ac):List (ac×Obj):=(ze5 g h L).filter λp=>decide (p.1≠d)
structure Mod(K:bt)(mg:Str->Option ae)(base:av):Prop where
 kin:K.In base
 glob:base.Ns Bd mg
 blt:∃mb,base.Ns builtinsNs mb/\∀x:Str,x≠"__name__"->mb x=Bh x
 nolimit:base.NoLimit
set_option genSizeOf false in
set_option genInjectivity false in
structure Cx where
 prog:aq
 w:au
 K:bt
 mg:Str->Option ae
 base:av
 A:aw
 N:List Str
 s₀:ah
 H₀:Hp
 env:Env
 outer:List Env
 stack:List Env
 ex:List ac
 fn:Str->Bool
 calm:Bool
 pn:List (ac×Obj)
 xe:ae->ah->Prop
def frs(l:List Env):List ac:=l.filterMap (·.frame)
abbrev Cx.fs(X:Cx):List ac:=frs X.outer
def Vis(sc:az)(x:Str):Prop:=sc.names.lookup x=aa .local\/sc.names.lookup x=aa .cell\/sc.names.lookup x=aa .free
def Loc(sc:az)(x:Str):Prop:=sc.names.lookup x=aa .local\/sc.names.lookup x=aa .cell
def zhP(env:Env)(h:av)(m:Str->Option ae)(x:Str)(u:ae):Prop :=
 (env.kindOf x=aa .local/\m x=aa u)\/((env.kindOf x=aa .cell\/env.kindOf x=aa .free)/\∃c,env.cells.lookup x=aa c/\h.IsCell c (aa u))
structure Cx.Ok(X:Cx):Prop where
 mod:Mod X.K X.mg X.base
 kind:X.env.scope.kind=.function
 glob:X.env.globals=Bd
 blt:X.env.builtins=builtinsNs
 above:X.s₀.heap.objs.size<=X.env.locals
 inj:∀x y c,X.env.cells.lookup x=aa c->X.env.cells.lookup y=aa c->x=y
 has:∀x,(X.env.kindOf x=aa .cell\/X.env.kindOf x=aa .free)->∃c,X.env.cells.lookup x=aa c
 cab:∀x c,X.fn x=af->X.env.cells.lookup x=aa c->X.s₀.heap.objs.size<=c
 hd:X.calm=af->X.A.handled=ai
 frames:X.A.frames=aa X.stack
 stk:X.stack=X.outer\/(X.stack=X.env::X.outer/\X.env.frame=aa X.env.locals)
 exf:∀b∈X.ex,b≠X.env.locals/\∀x c,X.env.cells.lookup x=aa c->c≠b
 bs:∀b o,X.base.get? b=aa o->X.s₀.heap.get? b=aa o/\X.H₀ b=ai
 bsz:X.base.objs.size<=X.s₀.heap.objs.size
 noex:∀b o,X.base.get? b=aa o->b ∉ X.ex
 exfs:∀b∈X.ex,b ∉ X.fs
 funs:X.s₀.heap.FunFrames X.base X.outer
 frf:∀b∈X.fs,X.H₀ b=ai
structure Inv(X:Cx)(pins:List (ac×Obj))(σ:List (Option V))(H:Hp)(s:ah):Prop where
 ok:X.Ok
 os:s.os=X.s₀.os
 bare:AllBare s.gens
 base:Un X.fs X.ex X.H₀ H X.s₀.heap s.heap
 loc:∃m,s.heap.Ns X.env.locals m/\∀(i:Nat) (x:Str) (v:V),X.N[i]?=aa x->σ[i]?=aa (aa v)->Vis X.env.scope x->∃u,RelV v u/\zhP X.env s.heap m x u
 cell:∀x c,X.env.cells.lookup x=aa c->∃v,s.heap.IsCell c v
 free:H X.env.locals=ai
 freeC:∀x c,X.env.cells.lookup x=aa c->H c=ai
 pin:∀p∈X.pn++pins,s.heap.get? p.1=aa p.2/\H p.1=ai/\p.1≠X.env.locals/\p.1 ∉ X.fs/\∀v,p.2.data≠.cell v
 hok:HOk X.prog X.w H s.heap
 len:σ.length=X.N.length
section
variable {X:Cx}{pins:List (ac×Obj)}{σ:List (Option V)}{H H':Hp}{s:ah}{h':av}
theorem Cx.Ok.nofr(ok:X.Ok)(e:X.base.get? b=aa o):b ∉ X.fs:=λhb=>by
 have:=(ok.funs.mem hb).1
 rw[e] at this;cases this
theorem Inv.bs(I:Inv X pins σ H s):∀b o,X.base.get? b=aa o->s.heap.get? b=aa o/\H b=ai:=λb o e =>
 ⟨I.base.keep b o (I.ok.bs b o e).1 (I.ok.bs b o e).2 (I.ok.nofr e) (I.ok.noex b o e),I.base.free b o (I.ok.bs b o e).1 (I.ok.bs b o e).2 (I.ok.noex b o e)⟩
theorem Inv.bk(I:Inv X pins σ H s):∀b o,X.base.get? b=aa o->s.heap.get? b=aa o:=λb o e=>(I.bs b o e).1
theorem Inv.mod(I:Inv X pins σ H s):Mod X.K X.mg X.base:=I.ok.mod
theorem Inv.kIn(I:Inv X pins σ H s):X.K.In s.heap:=I.ok.mod.kin.keeps I.bk
theorem Inv.lt(I:Inv X pins σ H s):X.env.locals<s.heap.objs.size:=let ⟨_,hn,_⟩:=I.loc;hn.lt
theorem Inv.sz(I:Inv X pins σ H s):X.s₀.heap.objs.size<=s.heap.objs.size:=bK I.ok.above (mT I.lt)
theorem Inv.nofs(I:Inv X pins σ H s){a:ac}(h:s.heap.objs.size<=a):a ∉ X.fs:=λhb=>by
 obtain⟨_,o,ho,_⟩:=I.ok.funs.mem hb
 exact absurd (b9 (bO ho) (bK I.sz h)) (eS _)
theorem Inv.cne(I:Inv X pins σ H s):∀x c,X.env.cells.lookup x=aa c->c≠X.env.locals:=λx c e z=>by
 obtain⟨v,o,ho,hd⟩:=I.cell x c e
 obtain⟨m,⟨o',es,ep,ho',hd',_⟩,_⟩:=I.loc
 rw[z,ho'] at ho;cases ho;rw[hd'] at hd;cases hd
theorem Inv.funs(I:Inv X pins σ H s):s.heap.FunFrames X.base X.outer:=by
 have all:∀(l:List Env),(∀b∈frs l,b∈X.fs)->X.s₀.heap.FunFrames X.base l->s.heap.FunFrames X.base l:=by
  intro l
  induction l with
  |nil=>intro _ _;trivial
  |cons env r ih =>
   intro hs hl
   obtain⟨hk,⟨L,o,hf,hn,ho,hd⟩,hr⟩:=hl
   have hL:L∈X.fs:=hs L (by unfold frs;rw[iS,hf];exact bq)
   obtain⟨sl,e⟩:=I.base.slot L o ho (I.ok.frf L hL) hL λz=>I.ok.exfs L z hL
   exact⟨hk,⟨L,_,hf,hn,e,hd⟩,ih (λb hb=>hs b (by unfold frs;rw[iS,hf];exact bn _ hb)) hr⟩
 exact all X.outer (λ_ hb=>hb) I.ok.funs
theorem Inv.stack(I:Inv X pins σ H s):s.heap.FunFrames X.base X.stack:=by
 rcases I.ok.stk with e|⟨e,hf⟩
 ·rw[e];exact I.funs
 ·rw[e]
  obtain⟨m,hn,_⟩:=I.loc
  refine .cons (by rw[I.ok.kind];decide) hf hn ?_ I.funs
  exact Heap.get?_none_of_le (bK I.ok.bsz I.ok.above)
theorem Inv.stkSub(I:Inv X pins σ H s):∀b∈frs X.stack,b∈X.env.locals::X.fs:=λb hb=>by
 rcases I.ok.stk with e|⟨e,hf⟩
 ·rw[e] at hb;exact bn _ hb
 ·rw[e] at hb
  unfold frs at hb
  rw[iS,hf] at hb
  exact hb
theorem Inv.stkFree(I:Inv X pins σ H s):∀b∈frs X.stack,H b=ai:=λb hb=>by
 rcases bD.mp (I.stkSub b hb) with e|hb
 ·rw[e];exact I.free
 ·obtain⟨_,o,ho,_⟩:=I.ok.funs.mem hb
  exact I.base.free b o ho (I.ok.frf b hb) λz=>I.ok.exfs b z hb
theorem Inv.step{t':Nat}{d':Drawn}{ch:List ac}(I:Inv X pins σ H s)
  (hch:∀b∈ch,(b∈X.ex\/X.s₀.heap.objs.size<=b)/\b≠X.env.locals/\(∀x c,X.env.cells.lookup x=aa c->c≠b)/\∀p∈X.pn++pins,p.1≠b)
  (keep:∀b o,b≠X.env.locals->b ∉ X.fs->b ∉ ch->s.heap.get? b=aa o->H b=ai->h'.get? b=aa o)
  (slot:∀b o,b≠X.env.locals->b∈X.fs->b ∉ ch->s.heap.get? b=aa o->H b=ai->∃sl,h'.get? b=aa { o with slots:=sl }) (free:∀b o,b ∉ ch->s.heap.get? b=aa o->H b=ai->H' b=ai)
  (there:∀b o,b ∉ ch->s.heap.get? b=aa o->∃o',h'.get? b=aa o')
  (tups:∀b xs,H b=aa (.tup xs)->H' b=aa (.tup xs)) (frzs:∀b o u,H b=aa (.frz o u)->H' b=aa (.frz o u)) (tbls:∀b ps,H b=aa (.tbl ps)->∃more,H' b=aa (.tbl (ps++more)))
  (ns:∀m,s.heap.Ns X.env.locals m->h'.Ns X.env.locals m) (hok:HOk X.prog X.w H' h') (hg:AllBare g') :
  Inv X pins σ H' { s with heap:=h',gens:=g',drawn:=d',toks:=t' }:=by
 have neL:∀b o,X.s₀.heap.get? b=aa o->b≠X.env.locals:=λb o e=>cq (b9 (bO e) I.ok.above)
 have neC:∀b o,X.s₀.heap.get? b=aa o->b ∉ X.ex->b ∉ ch:=λb o e hx hb=>by
  rcases(hch b hb).1 with z|z
  ·exact hx z
  ·exact absurd (b9 (bO e) z) (eS _)
 have cellK:∀x c,X.env.cells.lookup x=aa c->∀v,s.heap.IsCell c v->h'.IsCell c v:=λx c e v ⟨o,ho,hd⟩=>by
  have nch:c ∉ ch:=λz=>(hch c z).2.2.1 x c e rfl
  by_cases hc:c∈X.fs
  ·obtain⟨sl,q⟩:=slot c o (I.cne x c e) hc nch ho (I.freeC x c e)
   exact⟨_,q,hd⟩
  ·exact⟨o,keep c o (I.cne x c e) hc nch ho (I.freeC x c e),hd⟩
 refine⟨I.ok,I.os,hg,⟨λb o e n hb hx=>?_,λb o e n hb hx=>?_,λb o e n hx=>?_,λb o e hx=>?_,λb xs e=>tups b xs (I.base.tups b xs e),λb o xs e=>frzs b o xs (I.base.frzs b o xs e),λb ps e=>?_⟩,?_,λx c e=>?_,?_,λx c e=>?_,λp hp=>?_,hok,I.len⟩
 ·exact keep b o (neL b o e) hb (neC b o e hx) (I.base.keep b o e n hb hx) (I.base.free b o e n hx)
 ·obtain⟨sl,e1⟩:=I.base.slot b o e n hb hx
  obtain⟨sl',e2⟩:=slot b _ (neL b o e) hb (neC b o e hx) e1 (I.base.free b o e n hx)
  exact⟨sl',e2⟩
 ·obtain⟨o',e1⟩:=I.base.there b o e hx
  exact free b o' (neC b o e hx) e1 (I.base.free b o e n hx)
 ·obtain⟨o',e1⟩:=I.base.there b o e hx
  exact there b o' (neC b o e hx) e1
 ·obtain⟨m1,e1⟩:=I.base.tbls b ps e
  obtain⟨m2,e2⟩:=tbls b _ e1
  exact⟨m1++m2,by rw[e2,Array.append_assoc]⟩
 ·obtain⟨m,hn,hl⟩:=I.loc
  refine⟨m,ns m hn,λi x v e1 e2 e3=>?_⟩
  obtain⟨u,r,l⟩:=hl i x v e1 e2 e3
  refine⟨u,r,?_⟩
  rcases l with l|⟨k,c,e,z⟩
  ·exact .inl l
  ·exact .inr ⟨k,c,e,cellK x c e _ z⟩
 ·obtain⟨v,z⟩:=I.cell x c e
  exact⟨v,cellK x c e v z⟩
 ·obtain⟨m,⟨o,_,_,ho,_⟩,_⟩:=I.loc
  exact free _ o (λz=>(hch _ z).2.1 rfl) ho I.free
 ·obtain⟨v,o,ho,hd⟩:=I.cell x c e
  exact free c o (λz=>(hch c z).2.2.1 x c e rfl) ho (I.freeC x c e)
 ·obtain⟨e,n,ne,nf,d⟩:=I.pin p hp
  have nch:p.1 ∉ ch:=λz=>(hch p.1 z).2.2.2 p hp rfl
  exact⟨keep p.1 p.2 ne nf nch e n,free p.1 p.2 nch e n,ne,nf,d⟩
theorem Inv.un(I:Inv X pins σ H s)(u:Un X.fs [] H H' s.heap h')(hok:HOk X.prog X.w H' h'):Inv X pins σ H' { s with heap:=h',toks:=t' }:=by
 obtain⟨m,⟨o,es,ep,ho,r⟩,_⟩:=id I.loc
 obtain⟨sl,hL⟩:=u.any ho I.free (by simp)
 exact I.step (g':=s.gens) (d':=s.drawn) (ch:=[]) (by lia) (λb o _ hb _ e n=>u.keep b o e n hb (by simp)) (λb o _ hb _ e n=>u.slot b o e n hb (by simp)) (λb o _ e n=>u.free b o e n (by simp)) (λb o _ e=>u.there b o e (by simp)) u.tups u.frzs u.tbls (λm' hm=>by
  obtain⟨o',es',ep',ho',r'⟩:=hm
  rw[ho] at ho';cases ho'
  exact⟨_,es',ep',hL,r'⟩) hok I.bare
theorem Inv.call(I:Inv X pins σ H s)(u:Un (frs X.stack) ch H H' s.heap h')(hok:HOk X.prog X.w H' h')(hg:AllBare g')
  (hch:∀b∈ch,(b∈X.ex\/X.s₀.heap.objs.size<=b)/\b≠X.env.locals/\(∀x c,X.env.cells.lookup x=aa c->c≠b)/\∀p∈X.pn++pins,p.1≠b) :
  Inv X pins σ H' { s with heap:=h',gens:=g',drawn:=d',toks:=t' }:=by
 obtain⟨m,⟨o,es,ep,ho,r⟩,_⟩:=id I.loc
 obtain⟨sl,hL⟩:=u.any ho I.free λz=>(hch _ z).2.1 rfl
 exact I.step (ch:=ch) hch (λb o hL hb hc e n=>u.keep b o e n (λz=>(bD.mp (I.stkSub b z)).elim hL hb) hc) (λb o _ _ hc e n=>u.any e n hc) (λb o hc e n=>u.free b o e n hc) (λb o hc e=>u.there b o e hc) u.tups u.frzs u.tbls (λm' hm=>by
  obtain⟨o',es',ep',ho',r'⟩:=hm
  rw[ho] at ho';cases ho'
  exact⟨_,es',ep',hL,r'⟩) hok hg
theorem Inv.turned(I:Inv X pins σ H s)(k:∀b o,b≠it->s.heap.get? b=aa o->h'.get? b=aa o)(hn:H it=ai)(hL:it≠X.env.locals)
  (h1:it∈X.ex\/X.s₀.heap.objs.size<=it) (h2:∀x c,X.env.cells.lookup x=aa c->c≠it) (h3:∀p∈X.pn++pins,p.1≠it):Inv X pins σ H { s with heap:=h',toks:=t' }:=by
 have nit:∀b u,H b=aa u->b≠it:=λb u e z=>by rw[z,hn] at e;cases e
 refine I.step (g':=s.gens) (d':=s.drawn) (ch:=[it]) (λb hb=>?_) (λb o _ _ hc e _=>k b o (λz=>hc (by simp[z])) e) (λb o _ _ hc e _=>⟨o.slots,k b o (λz=>hc (by simp[z])) e⟩) (λ_ _ _ _ n=>n)
  (λb o hc e=>⟨o,k b o (λz=>hc (by simp[z])) e⟩) (λ_ _ e=>e) (λ_ _ _ e=>e) (λb ps e=>⟨#[],by rw[e];simp⟩) (λm hm=>?_) (λb u e=>?_) I.bare
 ·have e:b=it:=by simpa using hb
  subst e
  exact⟨h1,hL,h2,h3⟩
 ·obtain⟨o,es,ep,ho,r⟩:=hm
  exact⟨o,es,ep,k _ o (eL hL) ho,r⟩
 ·refine(I.hok b u e).stay (λc v hc q=>k c v ?_ q) (λ_ q=>q) λ_ _ q=>q
  rcases hc with z|z
  ·rw[z];exact nit b u e
  ·exact nit c _ z
theorem Inv.tok(I:Inv X pins σ H s)(t:Nat):Inv X pins σ H { s with toks:=t }:=I.un (h':=s.heap) (t':=t) Un.refl I.hok
theorem Inv.kept(I:Inv X pins σ H s)(k:∀b u,s.heap.get? b=aa u->h'.get? b=aa u):Inv X pins σ H { s with heap:=h',toks:=t' }:=I.un (Un.kept k) (I.hok.kept k)
theorem Inv.laid{a:ac}{o:HO}(I:Inv X pins σ H s)(k:∀b u,s.heap.get? b=aa u->h'.get? b=aa u)(hp:s.heap.objs.size<=a)(new:ObjOk X.prog X.w (upd H a o) h' a o) :
  Inv X pins σ (upd H a o) { s with heap:=h',toks:=t' }:=I.un (Un.laid k hp (I.hok.fresh hp)) (I.hok.laid k hp new)
theorem Inv.write(I:Inv X pins σ H s)(mu:Mut (H x))(he:e=x\/H e=aa (.own x))(k:∀b u,b≠e->s.heap.get? b=aa u->h'.get? b=aa u)(heo:∃u,h'.get? e=aa u)
  (new:ObjOk X.prog X.w (upd H x o) h' x o):Inv X pins σ (upd H x o) { s with heap:=h',toks:=t' }:=I.un (Un.write mu he k heo) (I.hok.write mu he k heo new)
theorem Inv.pins_of(I:Inv X pins σ H s)(h:∀p∈pins',s.heap.get? p.1=aa p.2/\H p.1=ai/\p.1≠X.env.locals/\p.1 ∉ X.fs/\∀v,p.2.data≠.cell v):Inv X pins' σ H s:=
 ⟨I.ok,I.os,I.bare,I.base,I.loc,I.cell,I.free,I.freeC,λp hp=>(bx.mp hp).elim (λz=>I.pin p (cz _ z)) (h p),I.hok,I.len⟩
theorem Qd{N:List Str}(hN:N.Nodup){i j:Nat}(a:N[i]?=aa x)(b:N[j]?=aa x):i=j:=by
 obtain⟨h1,e1⟩:=bf.mp a
 obtain⟨h2,e2⟩:=bf.mp b
 exact(gE hN).mp (e1.trans e2.symm)
theorem Jc{E:ae->ah->Prop}{Q:Unit->ah->Prop}(I:Inv X pins σ H s)(hN:X.N.Nodup)(hi:X.N[i]?=aa x)(hx:Loc X.env.scope x)(r:RelV v u)
  (h:∀s',Inv X pins (σ.set i (aa v)) H s'->(∃a,cV a s.heap s'.heap/\(a=X.env.locals\/X.env.cells.lookup x=aa a))->Q () s') (hf:X.fn x=af\/X.env.scope.names.lookup x=aa .local:=by first|exact .inl rfl|exact .inr rfl|assumption):Bf M A (storeName X.env x u) Q E s:=by
 obtain⟨m,hn,hl⟩:=id I.loc
 have hcls:(X.env.scope.kind==.class || (X.env.scope.kind==.module&&X.env.locals != X.env.globals))=ak:=by rw[I.ok.kind];rfl
 have hiσ:i<σ.length:=by rw[I.len];exact(bf.mp hi).1
 have cne:=I.cne
 have tracked:∀ {a:ac} {h':av},(∃o,s.heap.get? a=aa o/\H a=ai)->cV a s.heap h'->HOk X.prog X.w H h':=λ{a h'} ha hs b ob e=>by
  obtain⟨_,_,hfree⟩:=ha
  refine(I.hok b ob e).stay (λc w' hc q=>(hs.2 c ?_).trans q) (λ_ q=>q) λ_ _ q=>q
  rintro rfl
  rcases hc with rfl|hc
  ·rw[hfree] at e;cases e
  ·rw[hfree] at hc;cases hc
 rcases hx with hk|hk
 ·refine wpAny_storeName_local hk hn (λh' hn' hs=>?_) hcls
  obtain⟨oL,_,_,hoL,_⟩:=id hn
  refine h _ ⟨I.ok,I.os,I.bare,⟨λb o e n hb hx=>?_,λb o e n hb hx=>?_,I.base.free,λb o e hx=>?_,I.base.tups,I.base.frzs,I.base.tbls⟩,⟨_,hn',λj y v' e1 e2 e3=>?_⟩,λy c e=>?_,I.free,I.freeC,λp hp=>?_,tracked ⟨oL,hoL,I.free⟩ hs,by simpa using I.len⟩ ⟨_,hs,.inl rfl⟩
  ·exact(hs.2 b (cq (b9 (bO e) I.ok.above))).trans (I.base.keep b o e n hb hx)
  ·obtain⟨sl,e1⟩:=I.base.slot b o e n hb hx
   exact⟨sl,(hs.2 b (cq (b9 (bO e) I.ok.above))).trans e1⟩
  ·obtain⟨o',e1⟩:=I.base.there b o e hx
   exact⟨o',(hs.2 b (cq (b9 (bO e) I.ok.above))).trans e1⟩
  ·by_cases hj:j=i
   ·subst hj
    rw[hi] at e1;cases e1
    rw[mH hiσ] at e2
    cases e2
    exact⟨u,r,.inl ⟨hk,by simp⟩⟩
   ·rw[nD (eL hj)] at e2
    obtain⟨u',r',q⟩:=hl j y v' e1 e2 e3
    refine⟨u',r',?_⟩
    rcases q with ⟨k,e⟩|⟨k,c,e,z⟩
    ·refine .inl ⟨k,?_⟩
     have:y≠x:=λe=>hj (Qd hN e1 (e ▸ hi))
     simp[this,e]
    ·exact .inr ⟨k,c,e,z.sameBut hs (cne y c e)⟩
  ·obtain⟨w',z⟩:=I.cell y c e
   exact⟨w',z.sameBut hs (cne y c e)⟩
  ·obtain⟨e,n,ne,nf,d⟩:=I.pin p hp
   exact⟨(hs.2 p.1 ne).trans e,n,ne,nf,d⟩
 ·have hfn:X.fn x=af:=by
   rcases hf with z|z
   ·exact z
   ·rw[z] at hk;cases hk
  obtain⟨c,hc⟩:=I.ok.has x (.inl hk)
  obtain⟨w',z⟩:=I.cell x c hc
  refine wpAny_storeName_cell I.ok.kind hk hc z (λh' hc' hs=>?_)
  obtain⟨oc,hoc,hocd⟩:=id z
  refine h { s with heap:=h' } ⟨I.ok,I.os,I.bare,⟨λb o e n hb hx=>?_,λb o e n hb hx=>?_,I.base.free,λb o e hx=>?_,I.base.tups,I.base.frzs,I.base.tbls⟩,⟨m,hn.sameBut hs (eL (cne x c hc)),λj y v' e1 e2 e3=>?_⟩,λy c' e=>?_,I.free,I.freeC,λp hp=>?_,tracked ⟨oc,hoc,I.freeC x c hc⟩ hs,by simpa using I.len⟩ ⟨c,hs,.inr hc⟩
  ·exact(hs.2 b (cq (b9 (bO e) (I.ok.cab x c hfn hc)))).trans (I.base.keep b o e n hb hx)
  ·obtain⟨sl,e1⟩:=I.base.slot b o e n hb hx
   exact⟨sl,(hs.2 b (cq (b9 (bO e) (I.ok.cab x c hfn hc)))).trans e1⟩
  ·obtain⟨o',e1⟩:=I.base.there b o e hx
   exact⟨o',(hs.2 b (cq (b9 (bO e) (I.ok.cab x c hfn hc)))).trans e1⟩
  ·by_cases hj:j=i
   ·subst hj
    rw[hi] at e1;cases e1
    rw[mH hiσ] at e2
    cases e2
    exact⟨u,r,.inr ⟨.inl hk,c,hc,hc'⟩⟩
   ·rw[nD (eL hj)] at e2
    obtain⟨u',r',q⟩:=hl j y v' e1 e2 e3
    refine⟨u',r',?_⟩
    rcases q with q|⟨k,c',e,z'⟩
    ·exact .inl q
    ·refine .inr ⟨k,c',e,z'.sameBut hs ?_⟩
     rintro rfl
     exact hj (Qd hN e1 (I.ok.inj _ _ _ e hc ▸ hi))
  ·by_cases hcc:c'=c
   ·subst hcc;exact⟨_,hc'⟩
   ·obtain⟨w2,z2⟩:=I.cell y c' e
    exact⟨w2,z2.sameBut hs hcc⟩
  ·obtain⟨e,n,ne,nf,d⟩:=I.pin p hp
   refine⟨(hs.2 p.1 ?_).trans e,n,ne,nf,d⟩
   intro q
   rw[q,hoc] at e
   have q':oc=p.2:=bQ e
   exact d w' (by rw[<-q'];exact hocd)
theorem YA{E:ae->ah->Prop}{Q:Unit->ah->Prop}(I:Inv X pins σ H s)(hN:X.N.Nodup)(hi:X.N[i]?=aa x)(hx:Loc X.env.scope x)(r:RelV v u)
  (h:∀s',Inv X pins (σ.set i (aa v)) H s'->Q () s') (hf:X.fn x=af\/X.env.scope.names.lookup x=aa .local:=by first|exact .inl rfl|exact .inr rfl|assumption):Bf M A (storeName X.env x u) Q E s:=
 Jc I hN hi hx r (λs' I' _=>h s' I') hf
theorem Inv.call'(I:Inv X pins σ H s)(ho:s'.os=s.os)(u:Un (frs X.stack) ch H H' s.heap s'.heap)(hok:HOk X.prog X.w H' s'.heap)(hg:AllBare s'.gens)
  (hch:∀b∈ch,(b∈X.ex\/X.s₀.heap.objs.size<=b)/\b≠X.env.locals/\(∀x c,X.env.cells.lookup x=aa c->c≠b)/\∀p∈X.pn++pins,p.1≠b):Inv X pins σ H' s':=by
 obtain⟨h',g',d',t',o'⟩:=s'
 have e:o'=s.os:=ho
 subst e
 exact I.call (g':=g') (t':=t') (d':=d') u hok hg hch
end
abbrev XK:=ae->Option ac->Hp->Prop
abbrev St:=List (Option V)
abbrev VK:=V->Hp->Prop
abbrev TE:=St->Hp->VK->Prop
abbrev TT:=St->Hp->(Bool->Hp->Prop)->Prop
abbrev TA:=St->Hp->(List V->Hp->Prop)->Prop
set_option genSizeOf false in
set_option genInjectivity false in
structure YB where
 nx:St->Hp->Prop
 rt:VK
 bk:St->Hp->Prop:=λ_ _=>False
 ct:St->Hp->Prop:=λ_ _=>False
abbrev TS:=YB->St->Hp->Prop
def EP(X:Cx)(pins:List (ac×Obj))(σ:St)(Q:VK)(u:ae)(s':ah):Prop:=∃v H',Inv X pins σ H' s'/\RelV v u/\Q v H'
def TP(X:Cx)(pins:List (ac×Obj))(σ:St)(Q:Bool->Hp->Prop)(b:Bool)(s':ah):Prop:=∃H',Inv X pins σ H' s'/\Q b H'
def AP(X:Cx)(pins:List (ac×Obj))(σ:St)(Q:List V->Hp->Prop)(us:List ae)(s':ah):Prop:=∃vs H',Inv X pins σ H' s'/\Vals vs us/\Q vs H'
def SP(X:Cx)(pins:List (ac×Obj))(D:YB)(f:Flow)(s':ah):Prop :=
 match f with
 |.next=>∃σ' H',Inv X pins σ' H' s'/\D.nx σ' H'
 |.brk=>∃σ' H',Inv X pins σ' H' s'/\D.bk σ' H'
 |.cont=>∃σ' H',Inv X pins σ' H' s'/\D.ct σ' H'
 |.ret u=>∃v σ' H',Inv X pins σ' H' s'/\RelV v u/\D.rt v H'
def PE(X:Cx)(e:ay)(t:TE):Prop :=
 ∀(pins:List (ac×Obj)) (s:ah) (σ:St) (H:Hp) (Q:VK),Inv X pins σ H s->t σ H Q->Bf (Bg X.prog X.w) X.A (eval e X.env) (EP X pins σ Q) X.xe s
def PT(X:Cx)(e:ay)(t:TT):Prop :=
 ∀(pins:List (ac×Obj)) (s:ah) (σ:St) (H:Hp) (Q:Bool->Hp->Prop),Inv X pins σ H s->t σ H Q->Bf (Bg X.prog X.w) X.A (isTrue e X.env (eval e X.env)) (TP X pins σ Q) X.xe s
def PW(X:Cx)(e:ay)(t:TT):Prop :=
 ∀(whole:Sem ae) (pins:List (ac×Obj)) (s:ah) (σ:St) (H:Hp) (Q:Bool->Hp->Prop),Inv X pins σ H s->t σ H Q->Bf (Bg X.prog X.w) X.A (isTrue e X.env whole) (TP X pins σ Q) X.xe s
theorem PW.pt(h:PW X e t):PT X e t:=h _
def PA(X:Cx)(es:List ay)(t:TA):Prop :=
 ∀(pos:Pos) (pins:List (ac×Obj)) (s:ah) (σ:St) (H:Hp) (Q:List V->Hp->Prop),Inv X pins σ H s->t σ H Q->Bf (Bg X.prog X.w) X.A (spliced (backTo pos (Be es X.env))) (AP X pins σ Q) X.xe s
def PS(X:Cx)(st:ax)(t:TS):Prop :=
 ∀(pins:List (ac×Obj)) (s:ah) (σ:St) (H:Hp) (D:YB),Inv X pins σ H s->t D σ H->Bf (Bg X.prog X.w) X.A (exec st X.env) (SP X pins D) X.xe s
def PSs(X:Cx)(st:List ax)(t:TS):Prop :=
 ∀(pins:List (ac×Obj)) (s:ah) (σ:St) (H:Hp) (D:YB),Inv X pins σ H s->t D σ H->Bf (Bg X.prog X.w) X.A (execs st X.env) (SP X pins D) X.xe s
theorem thn{α:Type}{t:Sem α}{Q Q':α->ah->Prop}{E:ae->ah->Prop}(h:Bf M A t Q E s)(hQ:∀a s,Q a s->Q' a s):Bf M A t Q' E s:=dE h hQ λ_ _ x=>x
section
variable {X:Cx}
def zb(i:Nat):TE:=λσ H Q=>∃v,σ[i]?=aa (aa v)/\Q v H
def tC(v:V):TE:=λ_ H Q=>Q v H
theorem zgv{x:Str}{pos:Pos}(hN:X.N[i]?=aa x)(hv:Vis X.env.scope x)(hd:(x==("__debug__":Str))=ak:=by lia)(hcd:(x==("__classdict__":Str))=ak:=by lia):PE X (.Name x pos) (zb i):=by
 intro pins s σ H Q I h
 obtain⟨v,e,h⟩:=h
 obtain⟨m,hn,hl⟩:=I.loc
 obtain⟨u,r,l⟩:=hl i x v hN e hv
 have fin:EP X pins σ Q u s:=⟨v,H,I,r,h⟩
 rcases l with ⟨hk,hm⟩|⟨hk,c,hc,hcell⟩
 ·exact wpAny_Name (nE I.ok.kind hk hn hm fin) hd
 ·rcases hk with hk|hk
  ·exact wpAny_Name (wpAny_loadName_cell I.ok.kind hk hc hcell fin) hd
  ·exact wpAny_Name (wpAny_loadName_free I.ok.kind hk hc hcell fin hcd) hd
theorem ze{i j pos}:PE X (.Constant (.int i) j pos) (tC (.int i)):=λ_ _ _ H _ I h=>wpAny_Constant_int ⟨.int i,H,I.tok _,⟨_,rfl⟩,h⟩
theorem YC{b j pos}:PE X (.Constant (.bool b) j pos) (tC (.bl b)):=λ_ _ _ H _ I h=>Constant_bool ⟨.bl b,H,I,rfl,h⟩
theorem xl{j pos}:PE X (.Constant .none j pos) (tC .non):=λ_ _ _ H _ I h=>Constant_none ⟨.non,H,I,rfl,h⟩
theorem zE{x j pos}:PE X (.Constant (.str x) j pos) (tC (.str x)):=λ_ _ _ H _ I h=>nY ⟨.str x,H,I.tok _,⟨_,rfl⟩,h⟩
def Gl(X:Cx)(x:Str):Prop:=X.env.kindOf x=aa .globalImplicit
theorem wQ{E:ae->ah->Prop}{s:ah}{σ:St}{H:Hp}{x:Str}{u:ae}{pos:Pos}{Q:ae->ah->Prop}(I:Inv X pins σ H s)(hg:Gl X x)(hm:X.mg x=aa u)(h:Q u s)
  (hd:(x==("__debug__":Str))=ak:=by lia):Bf (Bg X.prog X.w) X.A (eval (.Name x pos) X.env) Q E s:=
 lh I.ok.kind hg (Calls.loadGlobal_global (by rw[I.ok.glob];exact I.mod.glob.keeps I.bk) hm h) hd
theorem JU{E:ae->ah->Prop}{s:ah}{σ:St}{H:Hp}{x:Str}{u:ae}{pos:Pos}{Q:ae->ah->Prop}(I:Inv X pins σ H s)(hg:Gl X x)(hm:X.mg x=ai)(hv:Bh x=aa u)(h:Q u s)
  (hn:x≠"__name__":=by lia) (hd:(x==("__debug__":Str))=ak:=by lia):Bf (Bg X.prog X.w) X.A (eval (.Name x pos) X.env) Q E s:=by
 obtain⟨mb,h1,h2⟩:=I.mod.blt
 exact lh I.ok.kind hg (Calls.loadGlobal_builtin (by rw[I.ok.glob];exact I.mod.glob.keeps I.bk) hm (by rw[I.ok.blt];exact h1.keeps I.bk) ((h2 x hn).trans hv) h) hd
theorem ze6(hg:Gl X x)(hm:X.mg x=aa u)(r:RelV v u)(hd:(x==("__debug__":Str))=ak:=by lia):PE X (.Name x pos) (tC v):=
 λ_ _ _ H _ I h=>wQ I hg hm ⟨v,H,I,r,h⟩ hd
theorem kE{x:Str}{pos:Pos}(hg:Gl X x)(hm:X.mg x=ai)(hv:Bh x=aa u)(r:RelV v u)(hn:x≠"__name__":=by lia)(hd:(x==("__debug__":Str))=ak:=by lia):PE X (.Name x pos) (tC v):=
 λ_ _ _ H _ I h=>JU I hg hm hv ⟨v,H,I,r,h⟩ hn hd
variable {a b:ay}{ta tb:TE}{pos:Pos}
def tB(t:TE):TT:=λσ H Q=>t σ H λx H1=>∃c,x=.bl c/\Q c H1
theorem vL{e:ay}{t:TE}(h:PE X e t)(he:∀whole,isTrue e X.env whole=(do let v <-whole;standAt e.pos;holding [v] (truthy v)):=by intro _;rfl):PT X e (tB t):=by
 intro pins s σ H Q I hw
 refine isTrue_plain (thn (h pins s σ H _ I hw) λv s1 ⟨x,H1,I1,r1,q1⟩=>?_) (he _)
 obtain⟨d,rfl,q⟩:=q1
 cases r1
 exact dQ ⟨H1,I1,q⟩
variable {tA tB':TT}{rest:List ay}
def Qe(t u:TT):TT:=λσ H Q=>t σ H λc H1=>if c=af then u σ H1 Q else Q ak H1
def tOr(t u:TT):TT:=λσ H Q=>t σ H λc H1=>if c=af then Q af H1 else u σ H1 Q
def Xg(t:TT):TT:=λσ H Q=>t σ H λc H1=>Q (!c) H1
theorem YD(ha:PT X a tA):PW X (.BoolOp .And [a] pos) tA:=by
 intro wh pins s σ H Q I h
 refine isTrue_and (thn (ha pins s σ H Q I h) λc s1 e=>?_)
 cases c with
 |true=>exact isTrue_and_nil e
 |false=>exact e
theorem vM(ha:PT X a tA):PW X (.BoolOp .Or [a] pos) tA:=by
 intro wh pins s σ H Q I h
 refine isTrue_or (thn (ha pins s σ H Q I h) λc s1 e=>?_)
 cases c with
 |false=>exact isTrue_or_nil e
 |true=>exact e
theorem WI(ha:PT X a tA)(hb:PW X (.BoolOp .And (b::rest) pos) tB'):PW X (.BoolOp .And (a::b::rest) pos) (Qe tA tB'):=by
 intro wh pins s σ H Q I h
 refine isTrue_and (thn (ha pins s σ H _ I h) λc s1 ⟨H1,I1,q1⟩=>?_)
 cases c with
 |true=>exact hb wh pins s1 σ H1 Q I1 q1
 |false=>exact⟨H1,I1,q1⟩
theorem vN(ha:PT X a tA)(hb:PW X (.BoolOp .Or (b::rest) pos) tB'):PW X (.BoolOp .Or (a::b::rest) pos) (tOr tA tB'):=by
 intro wh pins s σ H Q I h
 refine isTrue_or (thn (ha pins s σ H _ I h) λc s1 ⟨H1,I1,q1⟩=>?_)
 cases c with
 |true=>exact⟨H1,I1,q1⟩
 |false=>exact hb wh pins s1 σ H1 Q I1 q1
theorem Z3(ha:PT X a tA):PT X (.UnaryOp .Not a pos) (Xg tA):=by
 intro pins s σ H Q I h
 exact isTrue_not (ha pins s σ H (λc H1=>Q (!c) H1) I h)
def zc2(ta tb:TE):TE:=λσ H Q=>ta σ H λx H1=>∃c,x=.bl c/\if c=af then tb σ H1 Q else Q (.bl ak) H1
def zgw(ta tb:TE):TE:=λσ H Q=>ta σ H λx H1=>∃c,x=.bl c/\if c=af then Q (.bl af) H1 else tb σ H1 Q
def zf5(ta:TE):TE:=λσ H Q=>ta σ H λx H1=>∃c,x=.bl c/\Q (.bl (!c)) H1
theorem zaI{op}{t:TE}(h:PE X a t):PE X (.BoolOp op [a] pos) t:=λpins s σ H Q I hw=>BoolOp_one (h pins s σ H Q I hw)
theorem zc3(ha:PE X a ta)(hb:PE X (.BoolOp .And (b::rest) pos) tb):PE X (.BoolOp .And (a::b::rest) pos) (zc2 ta tb):=by
 intro pins s σ H Q I h
 refine BoolOp_and (thn (ha pins s σ H _ I h) λv s1 ⟨x,H1,I1,r1,q1⟩=>?_)
 obtain⟨c,rfl,q1⟩:=q1
 cases r1
 refine dQ ?_
 cases c with
 |true=>exact hb pins s1 σ H1 Q I1 q1
 |false=>exact⟨.bl ak,H1,I1,rfl,q1⟩
theorem zhn(ha:PE X a ta)(hb:PE X (.BoolOp .Or (b::rest) pos) tb):PE X (.BoolOp .Or (a::b::rest) pos) (zgw ta tb):=by
 intro pins s σ H Q I h
 refine BoolOp_or (thn (ha pins s σ H _ I h) λv s1 ⟨x,H1,I1,r1,q1⟩=>?_)
 obtain⟨c,rfl,q1⟩:=q1
 cases r1
 refine dQ ?_
 cases c with
 |false=>exact hb pins s1 σ H1 Q I1 q1
 |true=>exact⟨.bl af,H1,I1,rfl,q1⟩
theorem zgx(ha:PE X a ta):PE X (.UnaryOp .Not a pos) (zf5 ta):=by
 intro pins s σ H Q I h
 refine UnaryOp_ (thn (ha pins s σ H _ I h) λv s1 ⟨x,H1,I1,r1,q1⟩=>?_)
 obtain⟨c,rfl,q1⟩:=q1
 cases r1
 exact not_of (dQ ⟨.bl (!c),H1,I1,rfl,q1⟩)
def tIf(t:TT)(ta tb:TE):TE:=λσ H Q=>t σ H λc H1=>if c=af then ta σ H1 Q else tb σ H1 Q
theorem vO(hc:PT X c tA)(ha:PE X a ta)(hb:PE X b tb):PE X (.IfExp c a b pos) (tIf tA ta tb):=by
 intro pins s σ H Q I h
 refine wpAny_IfExp (thn (hc pins s σ H _ I h) λd s1 ⟨H1,I1,q1⟩=>?_)
 cases d with
 |true=>exact ha pins s1 σ H1 Q I1 q1
 |false=>exact hb pins s1 σ H1 Q I1 q1
end
def SqL(K:bt)(H:Hp)(a:ac)(xs:List V):Prop :=
 Rd H a (.lst xs) \/
  ∃(o:Obj) (its:Array ae) (n:Nat),K.lookup a=aa o/\o.cls=.type "list"/\o.dict=ai/\o.data=.seq its n/\its.size<=Bb/\Vals xs its.toList
def SqT(K:bt)(H:Hp)(a:ac)(xs:List V):Prop :=
 Rd H a (.tup xs) \/
  ∃(o:Obj) (its:Array ae) (n:Nat),K.lookup a=aa o/\o.cls=.type "tuple"/\o.data=.seq its n/\its.size<=Bb/\Vals xs its.toList
def zhQ:ae->Option V
 |.none=>aa .non
 |.bool b=>aa (.bl b)
 |.int i _=>aa (.int i)
 |.str x _=>aa (.str x)
 |.bytes b _=>aa (.byt b)
 |.float b _=>aa (.flt b)
 |.ref a=>aa (.ref a)
 |.type n=>aa (.ty n)
 |_=>ai
theorem RelV.abs(r:RelV x u):zhQ u=aa x:=by
 cases x with
 |non=>cases r;rfl
 |bl _=>cases r;rfl
 |int _=>obtain⟨t,rfl⟩:=r;rfl
 |str _=>obtain⟨t,rfl⟩:=r;rfl
 |byt _=>obtain⟨t,rfl⟩:=r;rfl
 |flt _=>obtain⟨t,rfl⟩:=r;rfl
 |ref _=>cases r;rfl
 |ty _=>cases r;rfl
theorem RelV.inj(r:RelV x u)(q:RelV y u):x=y:=bQ (r.abs.symm.trans q.abs)
theorem Vals.inj:∀ {xs ys:List V} {us:List ae},Vals xs us->Vals ys us->xs=ys
 |_,_,_,.nil,.nil=>rfl
 |_,_,_,.cons r t,.cons r' t'=>by rw[r.inj r',Vals.inj t t']
section
variable {X:Cx}{pins:List (ac×Obj)}{σ:St}{H:Hp}{s:ah}{a:ac}{xs ys:List V}
theorem SqL.of{K:bt}(h:H a=aa (.lst xs)):SqL K H a xs:=.inl (.inl h)
theorem SqT.of{K:bt}(h:H a=aa (.tup xs)):SqT K H a xs:=.inl (.inl h)
theorem Inv.list(I:Inv X pins σ H s)(h:SqL X.K H a xs):∃its:List ae,Vals xs its/\PlainL s.heap a its.toArray/\xs.length<=Bb:=by
 rcases h with h|⟨o,its,n,hk,hc,hd,hs,hz,r⟩
 ·obtain⟨z,its,n,r,e⟩:=h.ok I.hok
  exact⟨its,r,⟨_,n,e,rfl,rfl,rfl⟩,z⟩
 ·refine⟨its.toList,r,⟨o,n,I.kIn a o hk,hc,hd,by simpa using hs⟩,?_⟩
  have e:=r.length
  simp only[b8] at e
  lia
theorem Inv.tuple(I:Inv X pins σ H s)(h:SqT X.K H a xs):∃its:List ae,Vals xs its/\IsTup s.heap a its.toArray/\xs.length<=Bb:=by
 rcases h with h|⟨o,its,n,hk,hc,hs,hz,r⟩
 ·obtain⟨z,its,r,p⟩:=h.ok I.hok
  exact⟨its,r,p,z⟩
 ·refine⟨its.toList,r,⟨o,I.kIn a o hk,hc,n,by simpa using hs⟩,?_⟩
  have e:=r.length
  simp only[b8] at e
  lia
theorem Inv.list_inj(I:Inv X pins σ H s)(h:SqL X.K H a xs)(h':SqL X.K H a ys):xs=ys:=by
 obtain⟨its,r,⟨o,n,e,_,_,d⟩,_⟩:=I.list h
 obtain⟨its',r',⟨o',n',e',_,_,d'⟩,_⟩:=I.list h'
 rw[e] at e';cases e'
 rw[d] at d'
 injection d' with d1 _
 have:its=its':=by simpa using congrArg Array.toList d1
 subst this
 exact r.inj r'
theorem Inv.tuple_inj(I:Inv X pins σ H s)(h:SqT X.K H a xs)(h':SqT X.K H a ys):xs=ys:=by
 obtain⟨its,r,⟨o,e,_,n,d⟩,_⟩:=I.tuple h
 obtain⟨its',r',⟨o',e',_,n',d'⟩,_⟩:=I.tuple h'
 rw[e] at e';cases e'
 rw[d] at d'
 injection d' with d1 _
 have:its=its':=by simpa using congrArg Array.toList d1
 subst this
 exact r.inj r'
end
abbrev Cx.wish(X:Cx)(E:ae->ah->Prop):Cx:={ X with xe:=E }
abbrev Cx.nox(X:Cx):Cx:=X.wish λ_ _=>False
theorem Cx.Ok.wish{X:Cx}(ok:X.Ok)(E:ae->ah->Prop):(X.wish E).Ok :=
 ⟨ok.mod,ok.kind,ok.glob,ok.blt,ok.above,ok.inj,ok.has,ok.cab,ok.hd,ok.frames,ok.stk,ok.exf,ok.bs,ok.bsz,ok.noex,ok.exfs,ok.funs,ok.frf⟩
theorem Cx.Ok.unwish{X:Cx}{E:ae->ah->Prop}(ok:(X.wish E).Ok):X.Ok :=
 ⟨ok.mod,ok.kind,ok.glob,ok.blt,ok.above,ok.inj,ok.has,ok.cab,ok.hd,ok.frames,ok.stk,ok.exf,ok.bs,ok.bsz,ok.noex,ok.exfs,ok.funs,ok.frf⟩
section
variable {X:Cx}{pins:List (ac×Obj)}{σ:St}{H:Hp}{s:ah}{E:ae->ah->Prop}
theorem Inv.wish(I:Inv X pins σ H s)(E:ae->ah->Prop):Inv (X.wish E) pins σ H s:=⟨I.ok.wish E,I.os,I.bare,I.base,I.loc,I.cell,I.free,I.freeC,I.pin,I.hok,I.len⟩
theorem Inv.unwish(I:Inv (X.wish E) pins σ H s):Inv X pins σ H s:=⟨I.ok.unwish,I.os,I.bare,I.base,I.loc,I.cell,I.free,I.freeC,I.pin,I.hok,I.len⟩
theorem SP.unwish(h:SP (X.wish E) pins D f s'):SP X pins D f s':=by
 cases f with
 |next=>obtain⟨σ',H',I,q⟩:=h;exact⟨σ',H',I.unwish,q⟩
 |brk=>obtain⟨σ',H',I,q⟩:=h;exact⟨σ',H',I.unwish,q⟩
 |cont=>obtain⟨σ',H',I,q⟩:=h;exact⟨σ',H',I.unwish,q⟩
 |ret u=>obtain⟨v,σ',H',I,r,q⟩:=h;exact⟨v,σ',H',I.unwish,r,q⟩
theorem PSs.nox{st:List ax}{t:TS}(h:PSs X.nox st t):PSs X st t:=λpins s σ H D I hw =>
 dE (h pins s σ H D (I.wish _) hw) (λ_ _ q=>q.unwish) λ_ _ z=>cY z
end
section
variable {X:Cx}{st:ax}{rest:List ax}{t u:TS}{e:ay}{te:TE}{pos:Pos}
def zK:TS:=λD σ H=>D.nx σ H
def zm(t u:TS):TS:=λD σ H=>t { D with nx:=u D } σ H
theorem zD:PSs X [] zK:=λ_ _ σ H _ I h=>eM ⟨σ,H,I,h⟩
theorem zd(h1:PS X st t)(h2:PSs X rest u):PSs X (st::rest) (zm t u):=by
 intro pins s σ H D I h
 refine iF (thn (h1 pins s σ H { D with nx:=u D } I h) λf s1 q=>?_)
 cases f with
 |next =>
  obtain⟨σ',H',I',q⟩:=q
  exact h2 pins s1 σ' H' D I' q
 |ret v=>exact q
 |brk=>exact q
 |cont=>exact q
theorem zg(h1:PS X st t):PSs X [st] t:=by
 intro pins s σ H D I h
 refine iF (thn (h1 pins s σ H D I h) λf s1 q=>?_)
 cases f with
 |next=>exact eM q
 |ret v=>exact q
 |brk=>exact q
 |cont=>exact q
def zf6:TS:=λD σ H=>D.ct σ H
theorem Qf:PS X (.Continue pos) zf6:=λ_ _ σ H _ I h=>wpAny_Continue ⟨σ,H,I,h⟩
theorem Inv.quiet{σ:St}{H:Hp}{s:ah}(I:Inv X pins σ H s):interactive X.env=ak:=by simp[interactive,I.ok.kind]
def z5(te:TE):TS:=λD σ H=>te σ H λ_ H1=>D.nx σ H1
theorem zP(he:PE X e te)(hs:swapsWith e ai pos.line X.env=pure ak:=by rfl):PS X (.Expr e pos) (z5 te):=by
 intro pins s σ H D I h
 exact wpAny_Expr_any (thn (he pins s σ H _ I h) λv s1 ⟨x,H1,I1,r1,q1⟩=>⟨σ,H1,I1,q1⟩) I.quiet hs
def zJ(te:TE):TS:=λD σ H=>te σ H D.rt
theorem zu(he:PE X e te):PS X (.Return (aa e) pos) (zJ te):=by
 intro pins s σ H D I h
 exact wpAny_Return_some (thn (he pins s σ H _ I h) λv s1 ⟨x,H1,I1,r1,q1⟩=>⟨x,σ,H1,I1,r1,q1⟩)
def zf7:TS:=λD _ H=>D.rt .non H
theorem ze7:PS X (.Return ai pos) zf7:=λ_ _ σ H _ I h=>wpAny_Return_none ⟨.non,σ,H,I,rfl,h⟩
def zQ(c:TT)(t u:TS):TS:=λD σ H=>c σ H λb H1=>if b=af then t D σ H1 else u D σ H1
theorem zM(hc:PT X c tc)(ha:PSs X a t)(hb:PSs X b u):PS X (.If c a b pos) (zQ tc t u):=by
 intro pins s σ H D I h
 refine wpAny_If (thn (hc pins s σ H _ I h) λd s1 ⟨H1,I1,q1⟩=>?_)
 cases d with
 |true=>exact ha pins s1 σ H1 D I1 q1
 |false=>exact hb pins s1 σ H1 D I1 q1
def JV:TS:=λ_ _ _=>False
theorem Qg:PS X st JV:=λ_ _ _ _ _ _ h=>h.elim
end
abbrev TG:=V->St->Hp->(St->Hp->Prop)->Prop
abbrev TGs:=List V->St->Hp->(St->Hp->Prop)->Prop
def PG(X:Cx)(target:ay)(t:TG):Prop :=
 ∀(pins:List (ac×Obj)) (s:ah) (σ:St) (H:Hp) (v:V) (u:ae) (Q:St->Hp->Prop),Inv X pins σ H s->RelV v u->t v σ H Q ->
  Bf (Bg X.prog X.w) X.A (assign target X.env u) (λ_ s'=>∃σ' H',Inv X pins σ' H' s'/\Q σ' H') X.xe s
def PGs(X:Cx)(ts:List ay)(t:TGs):Prop :=
 ∀(pins:List (ac×Obj)) (s:ah) (σ:St) (H:Hp) (vs:List V) (us:List ae) (Q:St->Hp->Prop),Inv X pins σ H s->Vals vs us->t vs σ H Q ->
  Bf (Bg X.prog X.w) X.A (assignInOrder ((assignEach ts X.env).map (·.2)) us) (λ_ s'=>∃σ' H',Inv X pins σ' H' s'/\Q σ' H') X.xe s
abbrev TIp:=V->V->Hp->VK->Prop
def PIp(X:Cx)(op:Operator)(t:TIp):Prop :=
 ∀(pins:List (ac×Obj)) (s:ah) (σ:St) (H:Hp) (x y:V) (v u:ae) (Q:VK),Inv X pins σ H s->RelV x v->RelV y u->t x y H Q ->
  Bf (Bg X.prog X.w) X.A (inplaceOp op v u) (EP X pins σ Q) X.xe s
section
variable {X:Cx}{pos:Pos}
def zp(i:Nat):TG:=λv σ H Q=>Q (σ.set i (aa v)) H
theorem vA(hN:X.N.Nodup)(hi:X.N[i]?=aa x)(hx:Loc X.env.scope x)(hf:X.fn x=af\/X.env.scope.names.lookup x=aa .local:=by first|exact .inl rfl|exact .inr rfl|assumption):PG X (.Name x pos) (zp i):=by
 intro pins s σ H v u Q I r h
 exact wpAny_assign_Name (YA I hN hi hx r (λs' I'=>⟨_,H,I',h⟩) hf)
def zc4:TGs:=λvs σ H Q=>vs=[]/\Q σ H
def YE(t:TG)(u:TGs):TGs:=λvs σ H Q=>∃v r,vs=v::r/\t v σ H λσ' H'=>u r σ' H' Q
theorem JW:PGs X [] zc4:=by
 intro pins s σ H vs us Q I r h
 obtain⟨e,h⟩:=h
 subst e
 cases r
 exact assignInOrder_nil ⟨σ,H,I,h⟩
theorem jV{e:ay}{es:List ay}{t:TG}{u:TGs}(h1:PG X e t)(h2:PGs X es u)
  (hs:(assignEach (e::es) X.env).map (·.2)=assign e X.env::(assignEach es X.env).map (·.2):=by rfl):PGs X (e::es) (YE t u):=by
 intro pins s σ H vs us Q I r h
 obtain⟨v,vr,e1,h⟩:=h
 subst e1
 cases r with
 |cons r rr =>
  rw[hs]
  refine assignInOrder_cons (thn (h1 pins s σ H _ _ _ I r h) λ_ s1 ⟨σ1,H1,I1,q1⟩=>?_)
  exact h2 pins s1 σ1 H1 _ _ Q I1 rr q1
def zc5(K:bt)(n:Nat)(t:TGs):TG:=λv σ H Q=>∃a xs,v=.ref a/\SqT K H a xs/\xs.length=n/\t xs σ H Q
theorem zaJ{es:List ay}{k:Nat}{t:TGs}{n:Nat}(hc:X.calm=af)(h:PGs X es t)
  (hn:(assignEach es X.env).length=n:=by rfl) (hst:(assignEach es X.env).findIdx? (·.1)=ai:=by rfl):PG X (.Tuple es k pos) (zc5 X.K n t):=by
 intro pins s σ H v u Q I r hw
 obtain⟨a,xs,e1,hq,hl,hw⟩:=hw
 subst e1
 cases r
 obtain⟨its,rv,ht,hz⟩:=I.tuple hq
 refine assign_Tuple_tuple (I.ok.hd hc) ht (by simp[hn,<-hl,rv.length]) hst λh' hx=>?_
 have I1:Inv X pins σ H { s with heap:=h' }:=I.kept (t':=s.toks) λb o e=>hx b o (cq (bO e)) e
 exact h pins _ σ H xs _ Q I1 (by simpa using rv) hw
def zL(te:TE)(g:TG):TS:=λD σ H=>te σ H λx H1=>g x σ H1 D.nx
theorem Xh{te:TE}(hN:X.N.Nodup)(hi:X.N[i]?=aa x)(hx:Loc X.env.scope x)(he:PE X e te)(hs:swapsWith e (aa (.Name x pos')) pos.line X.env=pure ak:=by rfl)(hf:X.fn x=af\/X.env.scope.names.lookup x=aa .local:=by first|exact .inl rfl|exact .inr rfl|assumption) :
  PS X (.Assign [.Name x pos'] e pos) (zL te (zp i)):=by
 intro pins s σ H D I h
 refine wpAny_Assign_Name (thn (he pins s σ H _ I h) λv s1 ⟨y,H1,I1,r1,q1⟩=>?_) hs
 exact YA I1 hN hi hx r1 (λs2 I2=>⟨_,H1,I2,q1⟩) hf
def zho(i:Nat)(te:TE)(ti:TIp):TS:=λD σ H=>∃x,σ[i]?=aa (aa x)/\te σ H λy H1=>ti x y H1 λz H2=>D.nx (σ.set i (aa z)) H2
theorem zgy{te:TE}{ti:TIp}(hN:X.N.Nodup)(hi:X.N[i]?=aa x)(hx:Loc X.env.scope x)(he:PE X e te)(ho:PIp X op ti)(hf:X.fn x=af\/X.env.scope.names.lookup x=aa .local:=by first|exact .inl rfl|exact .inr rfl|assumption) :
  PS X (.AugAssign (.Name x pos') op e pos) (zho i te ti):=by
 intro pins s σ H D I h
 obtain⟨v,e1,h⟩:=h
 obtain⟨m,hn,hl⟩:=I.loc
 have vis:Vis X.env.scope x:=by rcases hx with k|k;exact .inl k;exact .inr (.inl k)
 obtain⟨u,r,l⟩:=hl i x v hi e1 vis
 refine wpAny_AugAssign_Name ?_
 have go:Bf (Bg X.prog X.w) X.A (eval e X.env) (λw s₂=>Bf (Bg X.prog X.w) X.A (inplaceOp op u w) (λr s₃=>Bf (Bg X.prog X.w) X.A (storeName X.env x r) (λ_=>SP X pins D .next) X.xe s₃) X.xe s₂) X.xe s:=by
  refine thn (he pins s σ H _ I h) λw s1 ⟨y,H1,I1,r1,q1⟩=>?_
  refine thn (ho pins s1 σ H1 v y u w _ I1 r r1 q1) λz s2 ⟨zv,H2,I2,r2,q2⟩=>?_
  exact YA I2 hN hi hx r2 (λs3 I3=>⟨_,H2,I3,q2⟩) hf
 rcases l with ⟨hk,hm⟩|⟨hk,c,hc,hcell⟩
 ·exact nE I.ok.kind hk hn hm go
 ·rcases hk with hk|hk
  ·exact wpAny_loadName_cell I.ok.kind hk hc hcell go
  ·rcases hx with k|k
   ·have:X.env.scope.names.lookup x=aa .free:=hk
    rw[k] at this;cases this
   ·have:X.env.scope.names.lookup x=aa .free:=hk
    rw[k] at this;cases this
def ipI(f:Int->Int->Int):TIp:=λx y H Q=>∃i j,x=.int i/\y=.int j/\Q (.int (f i j)) H
theorem zgz:PIp X .Add (ipI λi j=>i+j):=by
 intro pins s σ H x y v u Q I r1 r2 h
 obtain⟨i,j,e1,e2,q⟩:=h
 subst e1;subst e2
 obtain⟨t,rfl⟩:=r1
 obtain⟨t',rfl⟩:=r2
 exact iadd_int ⟨.int _,H,I.tok _,⟨_,rfl⟩,q⟩
end
section
variable {X:Cx}{pos:Pos}
def zaK(c:TT)(tb:TS):TS:=λD σ H=>∃W:Nat->St->Hp->Prop,(∃m,W m σ H)/\∀m σ H,W m σ H ->
 c σ H λb H1=>if b=af then ∃N:St->Hp->Prop,(∀σ' H',N σ' H'->∃m',m'<m/\W m' σ' H')/\tb { D with nx:=N,ct:=N,bk:=D.nx } σ H1 else D.nx σ H1
theorem Qh{tb:TS}(hp:PassesOwn (Bg X.prog X.w) X.A X.env X.xe)(hc:PT X c tc)(hb:PSs X body tb):PS X (.While c body [] pos) (zaK tc tb):=by
 intro pins s σ H D I h
 obtain⟨W,⟨m0,w0⟩,turn⟩:=h
 refine wpAny_While (codeAny_whileLoop (λn s'=>∃σ' H',Inv X pins σ' H' s'/\W n σ' H') ?_ m0 ⟨σ,H,I,w0⟩)
 rintro n s1 ⟨σ1,H1,I1,w1⟩
 refine fj hp (thn (hc pins s1 σ1 H1 _ I1 (turn n σ1 H1 w1)) λb s2 ⟨H2,I2,q2⟩=>?_)
 cases b with
 |true =>
  obtain⟨N,hN,q2⟩:=q2
  rw[am rfl]
  refine fj hp (thn (hb pins s2 σ1 H2 _ I2 q2) λf s3 q3=>?_)
  cases f with
  |next =>
   obtain⟨σ3,H3,I3,n3⟩:=q3
   obtain⟨m',hm,w3⟩:=hN σ3 H3 n3
   exact⟨m',hm,σ3,H3,I3,w3⟩
  |cont =>
   obtain⟨σ3,H3,I3,n3⟩:=q3
   obtain⟨m',hm,w3⟩:=hN σ3 H3 n3
   exact⟨m',hm,σ3,H3,I3,w3⟩
  |brk=>exact q3
  |ret v=>exact q3
 |false =>
  rw[aj bJ]
  exact eM ⟨σ1,H2,I2,q2⟩
end
set_option genSizeOf false in
set_option genInjectivity false in
structure It where
 go:Nat->Hp->Prop
 yld:Nat->Hp->V->Hp->Prop
 stop:Nat->Hp->Prop
def Z4(X:Cx)(pins:List (ac×Obj))(H:Hp)(b:ac):Prop :=
 H b=ai/\b≠X.env.locals/\b ∉ X.fs/\(b∈X.ex\/X.s₀.heap.objs.size<=b)/\(∀x c,X.env.cells.lookup x=aa c->c≠b)/\∀p∈X.pn++pins,p.1≠b
theorem Inv.fpOk{pins:List (ac×Obj)}{σ:St}{H H':Hp}{s:ah}{b:ac}(I:Inv X pins σ H s)(hb:s.heap.objs.size<=b)(hn:H' b=ai):Z4 X pins H' b:=by
 refine⟨hn,eT (b9 I.lt hb),I.nofs hb,.inr (bK I.sz hb),λx c e z=>?_,λp hp z=>?_⟩
 ·obtain⟨v,q⟩:=I.cell x c e
  exact absurd (b9 q.lt (by rw[z];exact hb)) (eS _)
 ·exact absurd (b9 (bO (I.pin p hp).1) (by rw[z];exact hb)) (eS _)
structure zc6(P:aq)(w:au)(K:bt)(tg:ay)(J:It)(fp:List ac)(it:ac)(tn:Nat->av->Prop):Prop where
 mem:it∈fp
 obj:∀i h,tn i h->∀b∈fp,∃o,h.get? b=aa o/\∀v,o.data≠.cell v
 keep:∀i h h',tn i h->(∀b∈fp,∀o,h.get? b=aa o->h'.get? b=aa o)->tn i h'
 item:∀(X:Cx),X.prog=P->X.w=w->X.K=K->X.calm=af->∀(i:Nat) (pins:List (ac×Obj)) (s:ah) (σ:St) (H:Hp) (E:ae->ah->Prop),Inv X pins σ H s->(∀b∈fp,Z4 X pins H b)->tn i s.heap->J.go i H ->
  Bf (Bg P w) X.A (pyNext (.ref it)) (λr s1=>∃u,r=aa u /\
   Bf (Bg P w) X.A (letOwnedTupleGo tg (.ref it) u) (λ_ s2=>∃x H',Inv X pins σ H' s2/\RelV x u/\J.yld i H x H'/\tn (i+1) s2.heap/\∀b∈fp,H' b=ai) E s1) E s
 done:∀(X:Cx),X.prog=P->X.w=w->X.K=K->X.calm=af->∀(i:Nat) (pins:List (ac×Obj)) (s:ah) (σ:St) (H:Hp) (E:ae->ah->Prop),Inv X pins σ H s->(∀b∈fp,Z4 X pins H b)->tn i s.heap->J.stop i H ->
  Bf (Bg P w) X.A (pyNext (.ref it)) (λr s1=>r=ai/\Inv X pins σ H s1) E s
 self:∀(A:aw) (i:Nat) (s:ah) (Q:ae->ah->Prop) (E:ae->ah->Prop),tn i s.heap->Q (.ref it) s->Bf (Bg P w) A (pyIter (.ref it)) Q E s
abbrev TI:=St->Hp->(It->Hp->Prop)->Prop
def PIE(X:Cx)(pins:List (ac×Obj))(σ:St)(tg:ay)(R:It->Hp->Prop)(itv:ae)(s2:ah):Prop :=
 ∃(it:ac) (fp:List ac) (tn:Nat->av->Prop) (J:It) (H':Hp),itv=.ref it/\Inv X pins σ H' s2/\zc6 X.prog X.w X.K tg J fp it tn/\tn 0 s2.heap/\(∀b∈fp,Z4 X pins H' b)/\R J H'
def PI(X:Cx)(tg iter:ay)(wi:TI):Prop :=
 ∀(pins:List (ac×Obj)) (s:ah) (σ:St) (H:Hp) (R:It->Hp->Prop),Inv X pins σ H s->wi σ H R ->
  Bf (Bg X.prog X.w) X.A (eval iter X.env) (λv s1=>Bf (Bg X.prog X.w) X.A (pyIter v) (PIE X pins σ tg R) X.xe s1) X.xe s
theorem zbu{E:ae->ah->Prop}{Q:Unit->ah->Prop}(ho:s.heap.get? it=aa o)(hc:o.cls=.type n)(hd:o.data=.fields vs)
  (hn:["enumerate","zip","dict_itemiterator","dict_reverseitemiterator","odict_iterator","itertools.zip_longest","itertools.pairwise"].contains n=ak) (hQ:Q () s):Bf M A (letOwnedTupleGo tg (.ref it) u) Q E s:=by
 unfold letOwnedTupleGo
 cases tg <;> first
  |exact bh hQ
  | (cases u <;> first
      |exact bh hQ
      | (refine ba (nA ho ?_)
         rw[hc,hd]
         show Bf M A (if (["enumerate","zip","dict_itemiterator","dict_reverseitemiterator","odict_iterator","itertools.zip_longest","itertools.pairwise"].contains n&&vs[0]?==aa (rawInt _))=af then _ else _) Q E s
         rw[aj (by intro h;rw[hn,Bool.false_and] at h;cases h)]
         exact bh hQ))
def Itl(K:bt)(a:ac):It :=
 ⟨λi H=>∃xs x,SqL K H a xs/\xs[i]?=aa x,λi H x H'=>H'=H/\∀xs,SqL K H a xs->xs[i]?=aa x,λi H=>∃xs,SqL K H a xs/\xs.length<=i⟩
def Itt(K:bt)(a:ac):It :=
 ⟨λi H=>∃xs x,SqT K H a xs/\xs[i]?=aa x,λi H x H'=>H'=H/\∀xs,SqT K H a xs->xs[i]?=aa x,λi H=>∃xs,SqT K H a xs/\xs.length<=i⟩
def Itr(lo:Int)(n:Nat):It:=⟨λi _=>i<n,λi H x H'=>H'=H/\x=.int (lo+i),λi _=>n<=i⟩
theorem zcg{P:aq}{w:au}{K:bt}{tg:ay}(a it:ac):zc6 P w K tg (Itl K a) [it] it (λi h=>h.IsListIter it a i) where
 mem:=by simp
 obj:=λi h st b hb=>by
  have e:b=it:=by simpa using hb
  subst e
  obtain⟨o,e,c,d⟩:=st
  exact⟨o,e,λv z=>by rw[d] at z;cases z⟩
 keep:=λi h h' st k=>st.at λo e=>k it (by simp) o e
 item:=by
  intro X hP hw hK hc i pins s σ H E I hf st hg
  subst hP hw hK
  obtain⟨xs,x,hq,hx⟩:=hg
  obtain⟨its,rv,p,hz⟩:=I.list hq
  obtain⟨u,hu,ru⟩:=rv.get hx
  obtain⟨f0,f1,f2,f3,f4,f5⟩:=hf it (by simp)
  refine mI st p.isList (x:=u) (by simpa using hu) λh' st' sb=>?_
  have I1:Inv X pins σ H { s with heap:=h' }:=I.turned (t':=s.toks) (λb o hb e=>(sb.2 b hb).trans e) f0 f1 f3 f4 f5
  obtain⟨o,e,c,d⟩:=id st'
  exact⟨u,rfl,zbu (s:={ s with heap:=h' }) e c d (by lia) ⟨x,H,I1,ru,⟨rfl,λys hy=>by rw[I.list_inj hy hq];exact hx⟩,st',λb hb=>(hf b hb).1⟩⟩
 done:=by
  intro X hP hw hK hc i pins s σ H E I hf st hg
  subst hP hw hK
  obtain⟨xs,hq,hx⟩:=hg
  obtain⟨its,rv,p,hz⟩:=I.list hq
  obtain⟨f0,f1,f2,f3,f4,f5⟩:=hf it (by simp)
  have hl:=rv.length
  exact mU (I.ok.hd hc) st p.isList (by simp;lia) λh' eb=>⟨rfl,I.turned (t':=s.toks) (λb o hb e=>eb b o hb e) f0 f1 f3 f4 f5⟩
 self:=λ_ _ _ _ _ st h=>wpAny_pyIter_listiter st h
theorem zaL{P:aq}{w:au}{K:bt}{tg:ay}(a it:ac):zc6 P w K tg (Itt K a) [it] it (λi h=>h.IsTupleIter it a i) where
 mem:=by simp
 obj:=λi h st b hb=>by
  have e:b=it:=by simpa using hb
  subst e
  obtain⟨o,e,c,d⟩:=st
  exact⟨o,e,λv z=>by rw[d] at z;cases z⟩
 keep:=λi h h' st k=>st.at λo e=>k it (by simp) o e
 item:=by
  intro X hP hw hK hc i pins s σ H E I hf st hg
  subst hP hw hK
  obtain⟨xs,x,hq,hx⟩:=hg
  obtain⟨its,rv,p,hz⟩:=I.tuple hq
  obtain⟨u,hu,ru⟩:=rv.get hx
  obtain⟨f0,f1,f2,f3,f4,f5⟩:=hf it (by simp)
  refine wpAny_pyNext_tuple_item st (show s.heap.IsTuple a its.toArray from p) (x:=u) (by simpa using hu) λh' st' sb=>?_
  have I1:Inv X pins σ H { s with heap:=h' }:=I.turned (t':=s.toks) (λb o hb e=>(sb.2 b hb).trans e) f0 f1 f3 f4 f5
  obtain⟨o,e,c,d⟩:=id st'
  exact⟨u,rfl,zbu (s:={ s with heap:=h' }) e c d (by lia) ⟨x,H,I1,ru,⟨rfl,λys hy=>by rw[I.tuple_inj hy hq];exact hx⟩,st',λb hb=>(hf b hb).1⟩⟩
 done:=by
  intro X hP hw hK hc i pins s σ H E I hf st hg
  subst hP hw hK
  obtain⟨xs,hq,hx⟩:=hg
  obtain⟨its,rv,p,hz⟩:=I.tuple hq
  obtain⟨f0,f1,f2,f3,f4,f5⟩:=hf it (by simp)
  have hl:=rv.length
  exact wpAny_pyNext_tuple_end (I.ok.hd hc) st (show s.heap.IsTuple a its.toArray from p) (by simp;lia) λh' eb=>⟨rfl,I.turned (t':=s.toks) (λb o hb e=>eb b o hb e) f0 f1 f3 f4 f5⟩
 self:=λ_ _ _ _ _ st h=>wpAny_pyIter_tupleiter st h
theorem zaM{P:aq}{w:au}{K:bt}{tg:ay}(it:ac)(lo:Int)(n:Nat):zc6 P w K tg (Itr lo n) [it] it (λi h=>IsRangeIter h it (lo+(i:Nat)*1) ((n:Int)-(i:Nat)) 1) where
 mem:=by simp
 obj:=λi h st b hb=>by
  have e:b=it:=by simpa using hb
  subst e
  exact⟨_,st,λv z=>by
   have z':Data.fields _=Data.cell v:=z
   cases z'⟩
 keep:=λi h h' st k=>k it (by simp) _ st
 item:=by
  intro X hP hw hK hc i pins s σ H E I hf st hg
  subst hP hw hK
  obtain⟨f0,f1,f2,f3,f4,f5⟩:=hf it (by simp)
  have W:=Walks.range (prog:=X.prog) (w:=X.w) (I.ok.hd hc) it lo 1 n
  refine W.item i s _ _ hg st λv h' tk hv st' kk=>?_
  obtain⟨t,rfl⟩:=hv
  have I1:Inv X pins σ H { s with heap:=h',toks:=tk }:=I.turned (λb o hb e=>kk b o (by simpa using hb) e) f0 f1 f3 f4 f5
  refine⟨_,rfl,zbu (s:={ s with heap:=h',toks:=tk }) (n:="range_iterator") st' rfl rfl (by lia) ⟨.int (lo+i),H,I1,⟨t,?_⟩,⟨rfl,rfl⟩,st',λb hb=>(hf b hb).1⟩⟩
  rw[Int.mul_one]
 done:=by
  intro X hP hw hK hc i pins s σ H E I hf st hg
  subst hP hw hK
  obtain⟨f0,f1,f2,f3,f4,f5⟩:=hf it (by simp)
  exact wpAny_pyNext_range_end (I.ok.hd hc) st (by have:n<=i:=hg;lia) λh' eb=>⟨rfl,I.turned (t':=s.toks) (λb o hb e=>eb b o hb e) f0 f1 f3 f4 f5⟩
 self:=λ_ _ _ _ _ st h=>wpAny_pyIter_rangeiter st h
section
variable {X:Cx}{tg:ay}
def xW(K:bt)(tl:TE):TI:=λσ H R=>tl σ H λx H1=>∃a,x=.ref a/\(∃xs,SqL K H1 a xs)/\R (Itl K a) H1
def zgA(K:bt)(tl:TE):TI:=λσ H R=>tl σ H λx H1=>∃a,x=.ref a/\(∃xs,SqT K H1 a xs)/\R (Itt K a) H1
theorem xg{tl:TE}(hl:PE X l tl):PI X tg l (xW X.K tl):=by
 intro pins s σ H R I h
 refine thn (hl pins s σ H _ I h) λv s1 ⟨x,H1,I1,r1,q1⟩=>?_
 obtain⟨a,e,⟨xs,hq⟩,q⟩:=q1
 subst e
 cases r1
 obtain⟨its,rv,p,hz⟩:=I1.list hq
 refine wpAny_pyIter_list p.isList ?_
 refine⟨s1.heap.objs.size,[s1.heap.objs.size],_,_,H1,rfl,I1.kept (t':=s1.toks) λb o e=>bg _ e,zcg a _,⟨_,bH _ rfl,rfl,rfl⟩,λb hb=>?_,q⟩
 have e:b=s1.heap.objs.size:=by simpa using hb
 subst e
 exact I1.fpOk (bi _) (I1.hok.fresh (bi _))
theorem zgB{tl:TE}(hl:PE X l tl):PI X tg l (zgA X.K tl):=by
 intro pins s σ H R I h
 refine thn (hl pins s σ H _ I h) λv s1 ⟨x,H1,I1,r1,q1⟩=>?_
 obtain⟨a,e,⟨xs,hq⟩,q⟩:=q1
 subst e
 cases r1
 obtain⟨its,rv,p,hz⟩:=I1.tuple hq
 refine wpAny_pyIter_tuple (show s1.heap.IsTuple a its.toArray from p) ?_
 refine⟨s1.heap.objs.size,[s1.heap.objs.size],_,_,H1,rfl,I1.kept (t':=s1.toks) λb o e=>bg _ e,zaL a _,⟨_,bH _ rfl,rfl,rfl⟩,λb hb=>?_,q⟩
 have e:b=s1.heap.objs.size:=by simpa using hb
 subst e
 exact I1.fpOk (bi _) (I1.hok.fresh (bi _))
theorem zc7{σ:St}{H:Hp}{s:ah}{R:It->Hp->Prop}{E:ae->ah->Prop}{lo hi:Int}{t u v:Tok}{tk:Nat}(I:Inv X pins σ H s)(h1:-(2^62)<=lo)(h2:lo<2^62)(h3:-(2^62)<=hi)(h4:hi<2^62)
  (q:R (Itr lo (hi-lo).toNat) H):Bf (Bg X.prog X.w) X.A (pyIter (.ref s.heap.objs.size)) (PIE X pins σ tg R) E { s with heap:=s.heap.push { cls:=.type "range",data:=.fields #[.int lo t,.int hi u,.int 1 v] },toks:=tk }:=by
 refine wpAny_pyIter_range (IsRange.new ..) (small_one h1 h2 h3 h4) ?_
 have I1:Inv X pins σ H { s with heap:=s.heap.push { cls:=.type "range",data:=.fields #[.int lo t,.int hi u,.int 1 v] },toks:=tk }:=I.kept λb o e=>bg _ e
 refine⟨(s.heap.push { cls:=.type "range",data:=.fields #[.int lo t,.int hi u,.int 1 v] }).objs.size,[(s.heap.push { cls:=.type "range",data:=.fields #[.int lo t,.int hi u,.int 1 v] }).objs.size],_,_,H,rfl,
  I1.kept (t':=tk) λb o e=>bg _ e,zaM _ lo (hi-lo).toNat,?_,λb hb=>?_,q⟩
 ·have e1:lo+((0:Nat):Int)*1=lo:=by simp
  have e2:(((hi-lo).toNat:Nat):Int)-((0:Nat):Int)=Builtin.Range.rangeSize lo hi 1:=by rw[rangeSize_one];split <;> lia
  show IsRangeIter _ _ (lo+((0:Nat):Int)*1) ((((hi-lo).toNat:Nat):Int)-((0:Nat):Int)) 1
  rw[e1,e2]
  exact bH _ rfl
 ·have e:b=(s.heap.push { cls:=.type "range",data:=.fields #[.int lo t,.int hi u,.int 1 v] }).objs.size:=by simpa using hb
  subst e
  exact I1.fpOk (bi _) (I1.hok.fresh (bi _))
def qF(ta:TA):TI:=λσ H R=>ta σ H λvs H1=>∃j:Int,vs=[.int j]/\-(2^62)<=j/\j<2^62/\R (Itr 0 j.toNat) H1
theorem xR{ta:TA}(hg:Gl X "range")(hm:X.mg "range"=ai)(ha:PA X [a] ta)(hs:Be [a] X.env=[(ak,eval a X.env)]:=by rfl):PI X tg (.Call (.Name "range" p) [a] [] pos) (qF ta):=by
 intro pins s σ H R I h
 refine Call_ (JU I hg hm boot_range (iT (thn (ha pos pins s σ H _ I h) λus s1 ⟨vs,H1,I1,r1,q1⟩=>?_) hs rfl))
 obtain⟨j,e,q1,q2,q⟩:=q1
 subst e
 cases r1 with
 |cons r rr =>
  cases rr
  obtain⟨t,rfl⟩:=r
  exact call_range_1 (zc7 I1 (by lia) (by lia) q1 q2 (by simpa using q))
def jG(wi:TI)(g:TG)(tb:TS):TS:=λD σ H=>wi σ H λJ H1=>∃W:Nat->Nat->St->Hp->Prop,(∃m,W 0 m σ H1)/\∀i m σ H,W i m σ H ->
 (J.stop i H/\D.nx σ H)\/(J.go i H/\∃N:St->Hp->Prop,(∀σ' H',N σ' H'->∃m',m'<m/\W (i+1) m' σ' H')/\∀x H',J.yld i H x H'->g x σ H' λσ2 H2=>tb { D with nx:=N,ct:=N,bk:=D.nx } σ2 H2)
def WJ(fp:List ac)(h:av):List (ac×Obj):=fp.filterMap λb=>(h.get? b).map λo=>(b,o)
theorem kF(hb:b∈fp)(e:h.get? b=aa o):(b,o)∈WJ fp h:=fN.mpr ⟨b,hb,by rw[e];rfl⟩
theorem zch(hp:p∈WJ fp h):p.1∈fp/\h.get? p.1=aa p.2:=by
 obtain⟨b,hb,e⟩:=List.mem_filterMap.mp hp
 cases q:h.get? b with
 |none=>rw[q] at e;cases e
 |some o =>
  rw[q] at e
  have e':(b,o)=p:=bQ e
  subst e'
  exact⟨hb,q⟩
theorem Inv.pinned{σ:St}{H:Hp}{s:ah}{fp:List ac}(I:Inv X pins σ H s)(hf:∀b∈fp,Z4 X pins H b)(ho:∀b∈fp,∃o,s.heap.get? b=aa o/\∀v,o.data≠.cell v):Inv X (pins++WJ fp s.heap) σ H s:=
 I.pins_of λp hp=>(bx.mp hp).elim (λz=>I.pin p (bI _ z)) λz=>by
  obtain⟨hb,e⟩:=zch z
  obtain⟨f0,f1,f2,_⟩:=hf p.1 hb
  obtain⟨o,e',d⟩:=ho p.1 hb
  rw[e] at e';cases e'
  exact⟨e,f0,f1,f2,d⟩
theorem Inv.unpinned{σ:St}{H:Hp}{s:ah}(I:Inv X (pins++pl) σ H s):Inv X pins σ H s:=I.pins_of λp hp=>I.pin p (bI _ (cz _ hp))
theorem xB{wi:TI}{g:TG}{tb:TS}(hp:PassesOwn (Bg X.prog X.w) X.A X.env X.xe)(hc:X.calm=af)(hi:PI X tg iter wi)(hg:PG X tg g)(hb:PSs X body tb)
  (hs:∀x,foldedSetIterable iter X.env x=pure x:=by intro _;rfl):PS X (.For tg iter body [] pos) (jG wi g tb):=by
 intro pins s σ H D I h
 refine wpAny_For (thn (hi pins s σ H _ I h) λv s1 h1=>thn h1 λitv s2 h2=>?_) hs
 obtain⟨it,fp,tn,J,H2,e,I2,T,st2,f2,W,⟨m0,w0⟩,turn⟩:=h2
 subst e
 -- what stays af of the iterator's objects through the loop
 have stat:∀ {H':Hp},(∀b∈fp,H' b=ai)->∀b∈fp,Z4 X pins H' b:=λhn b hb=>⟨hn b hb,(f2 b hb).2⟩
 refine codeAny_forLoop_any (λn s'=>∃i σ' H',Inv X pins σ' H' s'/\tn i s'.heap/\(∀b∈fp,H' b=ai)/\W i n σ' H') ?_ m0 ⟨0,σ,H2,I2,st2,λb hb=>(f2 b hb).1,w0⟩
 rintro n s3 ⟨i,σ3,H3,I3,st3,fr3,w3⟩
 rcases turn i n σ3 H3 w3 with ⟨stop,qn⟩|⟨go,N,hN,step⟩
 ·refine fj hp (thn (T.done X rfl rfl rfl hc i pins s3 σ3 H3 X.xe I3 (stat fr3) st3 stop) λr s4 ⟨hr,I4⟩=>?_)
  subst hr
  exact eM ⟨σ3,H3,I4,qn⟩
 ·refine fj hp (thn (T.item X rfl rfl rfl hc i pins s3 σ3 H3 X.xe I3 (stat fr3) st3 go) λr s4 ⟨u,hr,h4⟩=>?_)
  subst hr
  refine fj hp (thn h4 λ_ s5 ⟨x,H5,I5,r5,y5,st5,fr5⟩=>?_)
  have I5':=I5.pinned (stat fr5) (T.obj _ _ st5)
  refine fj hp (thn (hg _ s5 σ3 H5 x u _ I5' r5 (step x H5 y5)) λ_ s6 ⟨σ6,H6,I6,q6⟩=>?_)
  refine fj hp (thn (hb _ s6 σ6 H6 _ I6 q6) λf s7 q7=>?_)
  have again:∀ {σ7:St} {H7:Hp},Inv X (pins++WJ fp s5.heap) σ7 H7 s7->N σ7 H7->∃m,m<n/\∃i σ' H',Inv X pins σ' H' s7/\tn i s7.heap/\(∀b∈fp,H' b=ai)/\W i m σ' H':=λ{σ7 H7} I7 n7=>by
   obtain⟨m',hm,w7⟩:=hN σ7 H7 n7
   refine⟨m',hm,i+1,σ7,H7,I7.unpinned,T.keep _ _ _ st5 λb hb o e=>(I7.pin (b,o) (bI _ (bI _ (kF hb e)))).1,λb hb=>?_,w7⟩
   obtain⟨o,e,d⟩:=T.obj _ _ st5 b hb
   exact(I7.pin (b,o) (bI _ (bI _ (kF hb e)))).2.1
  cases f with
  |next=>obtain⟨σ7,H7,I7,n7⟩:=q7;exact again I7 n7
  |cont=>obtain⟨σ7,H7,I7,n7⟩:=q7;exact again I7 n7
  |brk=>obtain⟨σ7,H7,I7,q7⟩:=q7;exact⟨σ7,H7,I7.unpinned,q7⟩
  |ret v=>obtain⟨x7,σ7,H7,I7,r7,q7⟩:=q7;exact⟨x7,σ7,H7,I7.unpinned,r7,q7⟩
end
abbrev R2:=V->V->Hp->VK->Prop
def OpR(X:Cx)(f:ae->ae->Sem ae)(r:R2):Prop :=
 ∀(pins:List (ac×Obj)) (s:ah) (σ:St) (H:Hp) (x y:V) (v u:ae) (Q:VK),Inv X pins σ H s->RelV x v->RelV y u->r x y H Q ->
  Bf (Bg X.prog X.w) X.A (f v u) (EP X pins σ Q) X.xe s
def UnR(X:Cx)(f:ae->Sem ae)(r:V->Hp->VK->Prop):Prop :=
 ∀(pins:List (ac×Obj)) (s:ah) (σ:St) (H:Hp) (x:V) (v:ae) (Q:VK),Inv X pins σ H s->RelV x v->r x H Q ->
  Bf (Bg X.prog X.w) X.A (f v) (EP X pins σ Q) X.xe s
def jW(X:Cx)(f:ae)(r:List V->Hp->VK->Prop):Prop :=
 ∀(pins:List (ac×Obj)) (s:ah) (σ:St) (H:Hp) (xs:List V) (us:List ae) (Q:VK),Inv X pins σ H s->Vals xs us->r xs H Q ->
  Bf (Bg X.prog X.w) X.A (call f us) (EP X pins σ Q) X.xe s
def tOp(r:R2)(ta tb:TE):TE:=λσ H Q=>ta σ H λx H1=>tb σ H1 λy H2=>r x y H2 Q
def tUn(r:V->Hp->VK->Prop)(ta:TE):TE:=λσ H Q=>ta σ H λx H1=>r x H1 Q
def rI(C:Int->Int->Prop)(g:Int->Int->V):R2:=λx y H Q=>∃i j,x=.int i/\y=.int j/\C i j/\Q (g i j) H
def rI0(g:Int->Int->V):R2:=λx y H Q=>∃i j,x=.int i/\y=.int j/\Q (g i j) H
def rU(g:Int->V):V->Hp->VK->Prop:=λx H Q=>∃i,x=.int i/\Q (g i) H
section
variable {X:Cx}{a b c:ay}{ta tb tc:TE}{pos:Pos}
theorem zgC(ha:PE X a ta)(hb:PE X b tb){s:ah}{σ:St}{H:Hp}{R:V->V->Hp->Prop}(I:Inv X pins σ H s)
  (h:ta σ H λx H1=>tb σ H1 λy H2=>R x y H2) {Q:ae->ah->Prop} {f:ae->ae->Sem ae}
  (hf:∀v u s2 x y H2,Inv X pins σ H2 s2->RelV x v->RelV y u->R x y H2->Bf (Bg X.prog X.w) X.A (f v u) Q X.xe s2) :
  Bf (Bg X.prog X.w) X.A (eval a X.env) (λv s₁=>Bf (Bg X.prog X.w) X.A (eval b X.env) (λu s₂=>Bf (Bg X.prog X.w) X.A (f v u) Q X.xe s₂) X.xe s₁) X.xe s:=by
 refine thn (ha pins s σ H _ I h) λv s1 ⟨x,H1,I1,r1,q1⟩=>?_
 refine thn (hb pins s1 σ H1 _ I1 q1) λu s2 ⟨y,H2,I2,r2,q2⟩=>?_
 exact hf v u s2 x y H2 I2 r1 r2 q2
theorem zl{r:R2}(ho:OpR X (binaryOp op) r)(ha:PE X a ta)(hb:PE X b tb):PE X (.BinOp a op b pos) (tOp r ta tb):=by
 intro pins s σ H Q I h
 exact wpAny_BinOp (zgC ha hb I h λv u s2 x y H2 I2 rx ry q=>ho pins s2 σ H2 x y v u Q I2 rx ry q)
theorem zf8{r:V->Hp->VK->Prop}(ho:UnR X (unaryOp op) r)(ha:PE X a ta):PE X (.UnaryOp op a pos) (tUn r ta):=by
 intro pins s σ H Q I h
 exact UnaryOp_ (thn (ha pins s σ H _ I h) λv s1 ⟨x,H1,I1,r1,q1⟩=>ho pins s1 σ H1 x v Q I1 r1 q1)
theorem opI{f:ae->ae->Sem ae}{C:Int->Int->Prop}{g:Int->Int->Int}
  (rule:∀(i j:Int) (t u:Tok) (s:ah) (Q:ae->ah->Prop) (E:ae->ah->Prop),C i j->Q (.int (g i j) s.toks) { s with toks:=s.toks+1 }->Bf (Bg X.prog X.w) X.A (f (.int i t) (.int j u)) Q E s) :
  OpR X f (rI C λi j=>.int (g i j)):=by
 intro pins s σ H x y v u Q I rx ry h
 obtain⟨i,j,rfl,rfl,hc,q⟩:=h
 obtain⟨t,rfl⟩:=rx
 obtain⟨t',rfl⟩:=ry
 exact rule i j t t' s _ _ hc ⟨.int (g i j),H,I.tok _,⟨_,rfl⟩,q⟩
theorem zhp{f:ae->ae->Sem ae}{g:Int->Int->Int}
  (rule:∀(i j:Int) (t u:Tok) (s:ah) (Q:ae->ah->Prop) (E:ae->ah->Prop),Q (.int (g i j) s.toks) { s with toks:=s.toks+1 }->Bf (Bg X.prog X.w) X.A (f (.int i t) (.int j u)) Q E s) :
  OpR X f (rI0 λi j=>.int (g i j)):=by
 intro pins s σ H x y v u Q I rx ry h
 obtain⟨i,j,rfl,rfl,q⟩:=h
 obtain⟨t,rfl⟩:=rx
 obtain⟨t',rfl⟩:=ry
 exact rule i j t t' s _ _ ⟨.int (g i j),H,I.tok _,⟨_,rfl⟩,q⟩
theorem ze8{f:ae->ae->Sem ae}{g:Int->Int->Bool}
  (rule:∀(i j:Int) (t u:Tok) (s:ah) (Q:ae->ah->Prop) (E:ae->ah->Prop),Q (.bool (g i j)) s->Bf (Bg X.prog X.w) X.A (f (.int i t) (.int j u)) Q E s) :
  OpR X f (rI0 λi j=>.bl (g i j)):=by
 intro pins s σ H x y v u Q I rx ry h
 obtain⟨i,j,rfl,rfl,q⟩:=h
 obtain⟨t,rfl⟩:=rx
 obtain⟨t',rfl⟩:=ry
 exact rule i j t t' s _ _ ⟨.bl (g i j),H,I,rfl,q⟩
def JX(i j:Int):Prop:=0<=j/\j<=1000000/\i.natAbs<2^64
theorem zX:OpR X (binaryOp .Add) (rI0 λi j=>.int (i+j)):=zhp λ_ _ _ _ _ _ _ q=>add_int q
theorem vP:OpR X (binaryOp .Sub) (rI0 λi j=>.int (i-j)):=zhp λ_ _ _ _ _ _ _ q=>sub_int q
theorem zR:OpR X (binaryOp .Mod) (rI (λ_ j=>0<j) λi j=>.int (i%j)):=opI λi j _ _ _ _ _ hc q=>by
 have h1:(0:Int)<j:=hc
 exact mod_int' (by lia) (by rw[Int.fmod_eq_emod_of_nonneg i (by lia)];exact q)
theorem ze9:OpR X (binaryOp .Mod) (rI (λ_ j=>j≠0) λi j=>.int (i.fmod j)):=opI λ_ _ _ _ _ _ _ hc q=>mod_int' hc q
theorem Z5:OpR X (binaryOp .Pow) (rI JX λi j=>.int (i^j.toNat)):=opI λ_ _ _ _ _ _ _ hc q=>pow_int_small hc.1 hc.2.1 hc.2.2 q
theorem unI{f:ae->Sem ae}{g:Int->Int}
  (rule:∀(i:Int) (t:Tok) (s:ah) (Q:ae->ah->Prop) (E:ae->ah->Prop),Q (.int (g i) s.toks) { s with toks:=s.toks+1 }->Bf (Bg X.prog X.w) X.A (f (.int i t)) Q E s) :
  UnR X f (rU λi=>.int (g i)):=by
 intro pins s σ H x v Q I rx h
 obtain⟨i,rfl,q⟩:=h
 obtain⟨t,rfl⟩:=rx
 exact rule i t s _ _ ⟨.int (g i),H,I.tok _,⟨_,rfl⟩,q⟩
theorem zc8:UnR X (unaryOp .USub) (rU λi=>.int (-i)):=unI λ_ _ _ _ _ q=>neg_int q
end
def zci:V->V->Bool
 |.non,.non=>af|.non,.int _=>af|.int _,.non=>af|.non,.bl _=>af|.bl _,.non=>af|.non,.str _=>af|.str _,.non=>af
 |.int _,.int _=>af|.bl _,.bl _=>af|.str _,.str _=>af|.byt _,.byt _=>af
 |.int _,.str _=>af|.str _,.int _=>af|.bl _,.str _=>af|.str _,.bl _=>af
 |_,_=>ak
def rEq:R2:=λx y H Q=>zci x y=af/\Q (.bl (decide (x=y))) H
def rNe:R2:=λx y H Q=>zci x y=af/\Q (.bl (!decide (x=y))) H
theorem zbv{i j:Int}:decide (V.int i=V.int j)=(i==j):=by
 rw[iU]
 simp
theorem zc9 :decide (V.bl i=V.bl j)=(i==j):=by
 rw[iU]
 simp
theorem zbw :decide (V.str i=V.str j)=(i==j):=by
 rw[iU]
 simp
theorem zbx :decide (V.byt i=V.byt j)=(i.toList==j.toList):=by
 rw[iU]
 cases i
 cases j
 simp
section
variable {X:Cx}{a b c:ay}{ta tb tc:TE}{pos:Pos}
theorem z7{σ:St}{H:Hp}{s:ah}{Q:VK}{k k':Bool}(I:Inv X pins σ H s)(q:Q (.bl k) H)(e:k=k'):EP X pins σ Q (.bool k') s:=by
 subst e
 exact⟨.bl k,H,I,rfl,q⟩
theorem yb:OpR X (Bi .Eq) rEq:=by
 intro pins s σ H x y v u Q I rx ry h
 obtain⟨hs,q⟩:=h
 cases x with
 |non =>
  cases rx
  cases y with
  |non=>cases ry;exact PySem.EqNone.eq_none_none (z7 I q (by simp))
  |bl j=>cases ry;exact PySem.EqNone.eq_none_bool (z7 I q (by simp))
  |int j=>obtain⟨t',rfl⟩:=ry;exact PySem.EqNone.eq_none_int (z7 I q (by simp))
  |str j=>obtain⟨t',rfl⟩:=ry;exact PySem.EqNone.eq_none_str (z7 I q (by simp))
  |_=>exact absurd (show ak=af from hs) bJ
 |bl i =>
  cases rx
  cases y with
  |non=>cases ry;exact PySem.EqNone.eq_bool_none (z7 I q (by simp))
  |bl j=>cases ry;exact eq_bool (z7 I q zc9)
  |str j=>obtain⟨t',rfl⟩:=ry;exact PySem.EqMixed.eq_bool_str (z7 I q (by simp))
  |_=>exact absurd (show ak=af from hs) bJ
 |int i =>
  obtain⟨t,rfl⟩:=rx
  cases y with
  |non=>cases ry;exact PySem.EqNone.eq_int_none (z7 I q (by simp))
  |int j=>obtain⟨t',rfl⟩:=ry;exact eq_int (z7 I q zbv)
  |str j=>obtain⟨t',rfl⟩:=ry;exact PySem.EqMixed.eq_int_str (z7 I q (by simp))
  |_=>exact absurd (show ak=af from hs) bJ
 |str i =>
  obtain⟨t,rfl⟩:=rx
  cases y with
  |non=>cases ry;exact PySem.EqNone.eq_str_none (z7 I q (by simp))
  |bl j=>cases ry;exact PySem.EqMixed.eq_str_bool (z7 I q (by simp))
  |int j=>obtain⟨t',rfl⟩:=ry;exact PySem.EqMixed.eq_str_int (z7 I q (by simp))
  |str j=>obtain⟨t',rfl⟩:=ry;exact eq_str (z7 I q zbw)
  |_=>exact absurd (show ak=af from hs) bJ
 |byt i =>
  obtain⟨t,rfl⟩:=rx
  cases y with
  |byt j=>obtain⟨t',rfl⟩:=ry;exact W.eq_bytes (z7 I q zbx)
  |_=>exact absurd (show ak=af from hs) bJ
 |_=>cases y <;> exact absurd (show ak=af from hs) bJ
theorem qG:OpR X (Bi .NotEq) rNe:=by
 intro pins s σ H x y v u Q I rx ry h
 obtain⟨hs,q⟩:=h
 cases x with
 |non =>
  cases rx
  cases y with
  |non=>cases ry;exact PySem.EqNone.ne_none_none (z7 I q (by simp))
  |bl j=>cases ry;exact PySem.EqNone.ne_none_bool (z7 I q (by simp))
  |int j=>obtain⟨t',rfl⟩:=ry;exact PySem.EqNone.ne_none_int (z7 I q (by simp))
  |str j=>obtain⟨t',rfl⟩:=ry;exact PySem.EqNone.ne_none_str (z7 I q (by simp))
  |_=>exact absurd (show ak=af from hs) bJ
 |bl i =>
  cases rx
  cases y with
  |non=>cases ry;exact PySem.EqNone.ne_bool_none (z7 I q (by simp))
  |bl j=>cases ry;exact ne_bool (z7 I q (congrArg not zc9))
  |str j=>obtain⟨t',rfl⟩:=ry;exact PySem.EqMixed.ne_bool_str (z7 I q (by simp))
  |_=>exact absurd (show ak=af from hs) bJ
 |int i =>
  obtain⟨t,rfl⟩:=rx
  cases y with
  |non=>cases ry;exact PySem.EqNone.ne_int_none (z7 I q (by simp))
  |int j=>obtain⟨t',rfl⟩:=ry;exact ne_int (z7 I q (congrArg not zbv))
  |str j=>obtain⟨t',rfl⟩:=ry;exact PySem.EqMixed.ne_int_str (z7 I q (by simp))
  |_=>exact absurd (show ak=af from hs) bJ
 |str i =>
  obtain⟨t,rfl⟩:=rx
  cases y with
  |non=>cases ry;exact PySem.EqNone.ne_str_none (z7 I q (by simp))
  |bl j=>cases ry;exact PySem.EqMixed.ne_str_bool (z7 I q (by simp))
  |int j=>obtain⟨t',rfl⟩:=ry;exact PySem.EqMixed.ne_str_int (z7 I q (by simp))
  |str j=>obtain⟨t',rfl⟩:=ry;exact ne_str (z7 I q (congrArg not zbw))
  |_=>exact absurd (show ak=af from hs) bJ
 |byt i =>
  obtain⟨t,rfl⟩:=rx
  cases y with
  |byt j=>obtain⟨t',rfl⟩:=ry;exact W.ne_bytes (z7 I q (congrArg not zbx))
  |_=>exact absurd (show ak=af from hs) bJ
 |_=>cases y <;> exact absurd (show ak=af from hs) bJ
theorem wT:OpR X (Bi .Lt) (rI0 λi j=>.bl (decide (i<j))):=ze8 λ_ _ _ _ _ _ _ q=>lt_int q
theorem zda:OpR X (Bi .LtE) (rI0 λi j=>.bl (decide (i<=j))):=ze8 λ_ _ _ _ _ _ _ q=>le_int q
theorem zhq:OpR X (Bi .Gt) (rI0 λi j=>.bl (decide (j<i))):=ze8 λ_ _ _ _ _ _ _ q=>gt_int q
theorem zf9:OpR X (Bi .GtE) (rI0 λi j=>.bl (decide (j<=i))):=ze8 λ_ _ _ _ _ _ _ q=>ge_int q
theorem zaN:OpR X (Bi .Is) (λx y H Q=>y=.non/\Q (.bl (decide (x=.non))) H):=by
 intro pins s σ H x y v u Q I rx ry h
 obtain⟨rfl,q⟩:=h
 cases ry
 refine is_none_gen (z7 I q ?_)
 cases x <;> first
  |(cases rx;rfl)
  |(obtain⟨t,rfl⟩:=rx;rfl)
theorem Ww:OpR X (Bi .IsNot) (λx y H Q=>y=.non/\Q (.bl (!decide (x=.non))) H):=by
 intro pins s σ H x y v u Q I rx ry h
 obtain⟨rfl,q⟩:=h
 cases ry
 refine isnot_none_gen (z7 I q ?_)
 cases x <;> first
  |(cases rx;rfl)
  |(obtain⟨t,rfl⟩:=rx;rfl)
theorem zA(b:ay)(h:op≠.In:=by lia)(h2:op≠.NotIn:=by lia):behindInMarks op b=ak:=by
 have e1:(op==CmpOp.In)=ak:=by cases op <;> first|rfl|exact absurd rfl h
 have e2:(op==CmpOp.NotIn)=ak:=by cases op <;> first|rfl|exact absurd rfl h2
 cases b <;> simp[behindInMarks,e1,e2]
theorem Wx{r:R2}(ho:OpR X (Bi op) r)(ha:PE X a ta)(hb:PE X b tb)(hm:behindInMarks op b=ak):PE X (.Compare a [op] [b] pos) (tOp r ta tb):=by
 intro pins s σ H Q I h
 exact wpAny_Compare1 (zgC ha hb I h λv u s2 x y H2 I2 rx ry q=>ho pins s2 σ H2 x y v u Q I2 rx ry q) hm
def zB(t:TE):TT:=λσ H Q=>t σ H λx H'=>∃k,x=.bl k/\Q k H'
theorem zo{r:R2}(ho:OpR X (Bi op) r)(ha:PE X a ta)(hb:PE X b tb)(hm:behindInMarks op b=ak):PT X (.Compare a [op] [b] pos) (zB (tOp r ta tb)):=by
 intro pins s σ H Q I h
 refine wpAny_isTrue_Compare1 (thn (ha pins s σ H _ I h) λv s1 ⟨x,H1,I1,r1,q1⟩=>thn (hb pins s1 σ H1 _ I1 q1) λu s2 ⟨y,H2,I2,r2,q2⟩ =>
  thn (ho pins s2 σ H2 x y v u _ I2 r1 r2 q2) λc s3 ⟨z,H3,I3,r3,k,e,q3⟩=>?_) hm
 subst e
 cases r3
 exact dQ ⟨H3,I3,q3⟩
def WK(r r':R2)(ta tb tc:TE):TE:=λσ H Q=>ta σ H λx H1=>tb σ H1 λy H2=>r x y H2 λz H3=>∃k,z=.bl k /\
 (if k=af then tc σ H3 λw' H4=>r' y w' H4 Q else Q (.bl ak) H3)
theorem zdb{r r':R2}(ho:OpR X (Bi op) r)(ho':OpR X (Bi op') r')(ha:PE X a ta)(hb:PE X b tb)(hc:PE X c tc)
  (hm:lastMarks [op,op'] [b,c]=ak:=by with_unfolding_all rfl):PE X (.Compare a [op,op'] [b,c] pos) (WK r r' ta tb tc):=by
 intro pins s σ H Q I h
 refine Compare_chain (thn (ha pins s σ H _ I h) λv s1 ⟨x,H1,I1,r1,q1⟩=>chain_link (thn (hb pins s1 σ H1 _ I1 q1) λu s2 ⟨y,H2,I2,r2,q2⟩ =>
  thn (ho pins s2 σ H2 x y v u _ I2 r1 r2 q2) λd s3 ⟨z,H3,I3,r3,k,e,q3⟩=>?_)) hm
 subst e
 cases r3
 refine dQ ?_
 cases k with
 |false=>exact ite_ff ⟨.bl ak,H3,I3,rfl,q3⟩
 |true=>exact ite_tt (chain_last (thn (hc pins s3 σ H3 _ I3 q3) λw' s4 ⟨z',H4,I4,r4,q4⟩=>ho' pins s4 σ H4 y z' u w' Q I4 r2 r4 q4))
theorem zdc{r r':R2}(ho:OpR X (Bi op) r)(ho':OpR X (Bi op') r')(ha:PE X a ta)(hb:PE X b tb)(hc:PE X c tc)
  (hm:lastMarks [op,op'] [b,c]=ak:=by with_unfolding_all rfl):PT X (.Compare a [op,op'] [b,c] pos) (zB (WK r r' ta tb tc)):=by
 intro pins s σ H Q I h
 refine isTrue_chain (thn (ha pins s σ H _ I h) λv s1 ⟨x,H1,I1,r1,q1⟩=>test_link (thn (hb pins s1 σ H1 _ I1 q1) λu s2 ⟨y,H2,I2,r2,q2⟩ =>
  thn (ho pins s2 σ H2 x y v u _ I2 r1 r2 q2) λd s3 ⟨z,H3,I3,r3,k,e,q3⟩=>?_)) hm
 subst e
 cases r3
 refine dQ ?_
 cases k with
 |false =>
  obtain⟨k',e',q'⟩:=q3
  cases e'
  exact ite_ff ⟨H3,I3,q'⟩
 |true =>
  refine ite_tt (test_last (thn (hc pins s3 σ H3 _ I3 q3) λw' s4 ⟨z',H4,I4,r4,q4⟩=>thn (ho' pins s4 σ H4 y z' u w' _ I4 r2 r4 q4) λd' s5 ⟨z2,H5,I5,r5,k2,e2,q5⟩=>?_))
  subst e2
  cases r5
  exact dQ ⟨H5,I5,q5⟩
theorem JY:(Bb:Nat)<2^63:=by rw[bS];decide
theorem wE:OpR X (binaryOp .Add) (λx y H Q=>∃i j,x=.str i/\y=.str j/\i.length+j.length<=Bb/\Q (.str (i++j)) H):=by
 intro pins s σ H x y v u Q I rx ry h
 obtain⟨i,j,rfl,rfl,hz,q⟩:=h
 obtain⟨t,rfl⟩:=rx
 obtain⟨t',rfl⟩:=ry
 exact add_str (λt' tk=>⟨.str (i++j),H,I.tok _,⟨_,rfl⟩,q⟩) hz
theorem qt(r:Vals [x] us):∃u,us=[u]/\RelV x u:=by
 cases r with
 |cons r1 r2=>cases r2;exact⟨_,rfl,r1⟩
theorem zhr(r:Vals [x,y] us):∃u w',us=[u,w']/\RelV x u/\RelV y w':=by
 cases r with
 |cons r1 r2 =>
  cases r2 with
  |cons r3 r4=>cases r4;exact⟨_,_,rfl,r1,r3⟩
def zcj(K:bt)(x:V)(H:Hp)(n:Nat):Prop :=
 match x with
 |.str y=>y.length<=Bb/\n=y.length
 |.byt y=>y.size<=Bb/\n=y.size
 |.ref p=>(∃xs,SqL K H p xs/\n=xs.length)\/∃xs,SqT K H p xs/\n=xs.length
 |_=>False
theorem z6:jW X (.builtin "len") (λxs H Q=>∃x n,xs=[x]/\zcj X.K x H n/\Q (.int n) H):=by
 intro pins s σ H xs us Q I r h
 obtain⟨x,n,rfl,e,q⟩:=h
 obtain⟨u,rfl,rx⟩:=qt r
 have hl:=JY
 have hs:Bb=16777216:=bS
 cases x with
 |str y =>
  obtain⟨t,rfl⟩:=rx
  obtain⟨hy,e'⟩:y.length<=Bb/\n=y.length:=e
  subst e'
  exact len_str (by lia) ⟨.int _,H,I.tok _,⟨_,rfl⟩,q⟩
 |byt y =>
  obtain⟨t,rfl⟩:=rx
  obtain⟨hy,e'⟩:y.size<=Bb/\n=y.size:=e
  subst e'
  exact W.len_bytes (by lia) ⟨.int _,H,I.tok _,⟨_,rfl⟩,q⟩
 |ref p =>
  cases rx
  have e':(∃xs,SqL X.K H p xs/\n=xs.length)\/∃xs,SqT X.K H p xs/\n=xs.length:=e
  rcases e' with ⟨xs,hx,e'⟩|⟨xs,hx,e'⟩
  ·subst e'
   obtain⟨its,r',pl,hz⟩:=I.list hx
   have hlen:=r'.length
   exact Calls.call_len_list pl.isList (by simp only[bF];lia) ⟨.int xs.length,H,I.tok _,⟨_,by simp only[bF];rw[hlen]⟩,q⟩
  ·subst e'
   obtain⟨its,r',pl,hz⟩:=I.tuple hx
   have hlen:=r'.length
   exact len_tuple pl (by simp only[bF];lia) ⟨.int xs.length,H,I.tok _,⟨_,by simp only[bF];rw[hlen]⟩,q⟩
 |_=>exact(show False from e).elim
end
structure ObjM(h:av)(x dx C:ac)(mA:Str->Option ae):Prop where
 obj:h.get? x=aa (fH C dx)
 ns:h.Ns1 dx mA
 ne:dx≠x
theorem zck{h:av}{mA:Str->Option ae}(n:h.Ns1 dx mA):∃od,h.get? dx=aa od/\∀name,pF name od=aa (mA name):=by
 obtain⟨o,es,ep,ho,hd,hk,_,hm⟩:=n
 refine⟨o,ho,λname=>?_⟩
 have e:=hm name
 unfold nsFind findBy at e
 rw[<-Array.find?_toList] at e
 unfold pF
 rw[hd]
 dsimp only
 split
 ·rename_i y q
  rw[q] at e
  exact congrArg aa e
 ·rename_i q
  rw[q] at e
  have a:es.toList.any (·.refKey)=ak:=by
   rw[List.any_eq_false]
   intro y hy
   obtain⟨z,t,hkey⟩:=hk y (Array.mem_toList_iff.mp hy)
   simp[DictEntry.refKey,hkey]
  have a':¬ es.toList.any (·.refKey)=af:=by rw[a];exact bJ
  rw[aj a']
  exact congrArg aa e
theorem ObjM.look{mA:Str->Option ae}(I:ObjM h x dx C mA):∃od,W.InstAt h x (fH C dx) C (aa od)/\∀name,pF name od=aa (mA name):=
 let ⟨od,ho,hl⟩:=zck I.ns
 ⟨od,⟨I.obj,rfl,rfl,ho⟩,hl⟩
section
variable {prog:aq}{w:au}{A:aw}{E:ae->ah->Prop}{s:ah}{K:bt}{x dx C f:ac}{mA:Str->Option ae}{name:Str}{v:ae}
theorem zfa{Q:ae->ah->Prop}(X:K.In s.heap)(I:ObjM s.heap x dx C mA)(hg:fM K C name=af)(hh:fz K C=af)
  (ha:bX K (.ref C) name=aa ai) (hv:mA name=aa v) (hv':W.handedIn v=af) (h:Q v { s with toks:=s.toks+1 }) :
  Bf (Bg prog w) A (getAttr (.ref x) name expr) Q E s:=by
 obtain⟨od,J,hl⟩:=I.look
 exact W.get_value X J (nZ hg).1 (W.findObj_own hh ha rfl (by rw[hl,hv])) hv' h
theorem zdd{pl:Sem Bool}{Q:ae×List ae->ah->Prop}(X:K.In s.heap)(I:ObjM s.heap x dx C mA)(hg:fM K C name=af)
  (hf:bX K (.ref C) name=aa (aa (.ref f))) (ht:n0 K (.ref f)=af) (hv:mA name=ai) (h:Q (.ref f,[.ref x]) s) :
  Bf (Bg prog w) A (getMethod (.ref x) name pl) Q E s:=by
 obtain⟨od,J,hl⟩:=I.look
 exact W.method_fn X J (nZ hg).1 (nZ hg).2 hf (beq_iff_eq.mp ht) (by show (pF name od).map (·.isSome)=aa ak;rw[hl,hv];rfl) h
theorem zfb{Q:Unit->ah->Prop}(X:K.In s.heap)(I:ObjM s.heap x dx C mA)
  (hs:bX K (.ref C) "__setattr__"=aa (aa (.builtin "object.__setattr__"))) (hp:fP K C=af) (ht:W.takerIn K C name=aa ai) (hh:fz K C=af)
  (hw:oM mA ns) (hsz:ns.length<=Bb)
  (h:∀h',ObjM h' x dx C (λy=>if y=name then aa v else mA y)->cV dx s.heap h'->Q () { s with heap:=h',toks:=s.toks+2 }) :
  Bf (Bg prog w) A (setAttr (.ref x) name v) Q E s:=by
 obtain⟨od,J,hl⟩:=I.look
 refine W.set_plain X J hs (W.osa_open (s:={ s with toks:=s.toks+1 }) (r:=ai) X J hp ht λb=>?_)
 obtain⟨cd,hc,hd'⟩:=W.any_some hh
 have hx:s.heap.get? x=aa ⟨.ref C,aa dx,.plain,#[]⟩:=I.obj
 refine ba (bh (ba (ba (wpAny_loadPart hx (ba (W.Looks.here (s:={ s with toks:=s.toks+1 }) (W.looks_clsIn X hc) ?_))))))
 rw[hd']
 refine bh (a:=aa dx) (ba (bh (ba ?_)))
 refine wpAny_nsSet1 (s:={ s with toks:=s.toks+1 }) I.ns λh' hn2 hs2=>?_
 obtain⟨oD,esD,epD,hoD,hdD,hcD⟩:=hn2.count (PySem.Within.cons name v hw)
 refine ba (wpAny_lookBehind hoD (by rw[hdD];exact pastItsLine_dict (bK hcD (by rw[bR];lia))) ?_)
 exact bh (h _ ⟨(hs2.2 _ (eL I.ne)).trans I.obj,hn2,I.ne⟩ hs2)
theorem zde{R:aA->ah->Prop}(X:K.In s.heap)(hm:gy K C=af)
  (hi:bX K (.ref C) "__init__"=aa (aa (.ref f))) (hf:W.typeIn K (.ref f)=aa (.type "function"))
  (h:codeAny (Bg prog w) (A.under (.builtin "type.__call__" ⟨.ref C::vs,kw⟩)) (.call (.ref f) ⟨.ref (s.heap.objs.size+1)::vs,kw⟩) (W.InitBack (s.heap.objs.size+1) R)
   { s with heap:=(s.heap.push dR).push (fH C s.heap.objs.size) }) :
  codeAny (Bg prog w) A (.call (.ref C) ⟨vs,kw⟩) R s:=by
 obtain⟨hh,g,d,t,os⟩:=s
 exact W.make_core (W.makes_of X hm) (W.looks_findIn X hi) (λself=>W.bind_fn X self hf) (.inl rfl) h
theorem zcl{R:aA->ah->Prop}(X:K.In s.heap)(hm:gy K C=af)
  (hi:bX K (.ref C) "__init__"=aa (aa (.builtin "object.__init__")))
  (hb:∀self,pG (Bg prog w) s.heap (bindSpecial (.builtin "object.__init__") self) (.builtin "object.__init__",[self]))
  (h:codeAny (Bg prog w) (A.under (.builtin "type.__call__" ⟨[.ref C],[]⟩)) (.call (.builtin "object.__init__") ⟨[.ref (s.heap.objs.size+1)],[]⟩) (W.InitBack (s.heap.objs.size+1) R)
   { s with heap:=(s.heap.push dR).push (fH C s.heap.objs.size) }) :
  codeAny (Bg prog w) A (.call (.ref C) ⟨[],[]⟩) R s:=by
 obtain⟨hh,g,d,t,os⟩:=s
 exact W.make_core (W.makes_of X hm) (W.looks_findIn X hi) hb (.inr ⟨rfl,rfl⟩) h
end
def xI(f:Str)(v:V):List (Str×V)->List (Str×V)
 |[]=>[(f,v)]
 |(g,x)::r=>if g=f then (g,v)::r else (g,x)::xI f v r
theorem XU(f g:Str)(v:V):∀fs:List (Str×V),(xI f v fs).lookup g=if g=f then aa v else fs.lookup g
 |[]=>by
  show cW g [(f,v)]=_
  by_cases h:g=f
  ·have hb:(g==f)=af:=beq_iff_eq.mpr h
   simp only[cW,hb,am h]
  ·have hb:(g==f)=ak:=beq_eq_false_iff_ne.mpr h
   simp only[cW,hb,aj h]
 |(k,x)::r=>by
  have ih:=XU f g v r
  rw[show xI f v ((k,x)::r)=(if k=f then (k,v)::r else (k,x)::xI f v r) from rfl]
  by_cases hk:k=f
  ·rw[am hk]
   by_cases h:g=k
   ·have hb:(g==k)=af:=beq_iff_eq.mpr h
    simp only[cW,hb,am (h.trans hk)]
   ·have hb:(g==k)=ak:=beq_eq_false_iff_ne.mpr h
    simp only[cW,hb,aj (λe:g=f=>h (e.trans hk.symm))]
  ·rw[aj hk]
   by_cases h:g=k
   ·have hb:(g==k)=af:=beq_iff_eq.mpr h
    simp only[cW,hb,aj (λe:g=f=>hk (h.symm.trans e))]
   ·have hb:(g==k)=ak:=beq_eq_false_iff_ne.mpr h
    simp only[cW,hb]
    exact ih
theorem Xi(f:Str)(v:V):∀fs:List (Str×V),f∈(xI f v fs).map (·.1)/\∀g,g∈fs.map (·.1)->g∈(xI f v fs).map (·.1)
 |[]=>⟨by simp[xI],λg h=>by simp at h⟩
 |(k,x)::r=>by
  obtain⟨i1,i2⟩:=Xi f v r
  rw[show xI f v ((k,x)::r)=(if k=f then (k,v)::r else (k,x)::xI f v r) from rfl]
  by_cases hk:k=f
  ·rw[am hk]
   subst hk
   exact⟨by simp,λg h=>by simpa using h⟩
  ·rw[aj hk]
   refine⟨?_,λg h=>?_⟩
   ·rw[bo]
    exact bn _ i1
   ·rw[bo] at h ⊢
    rcases bD.mp h with e|e
    ·exact bD.mpr (.inl e)
    ·exact bn _ (i2 g e)
theorem XV(f:Str)(v:V):∀fs:List (Str×V),(xI f v fs).length<=fs.length+1
 |[]=>by simp[xI]
 |(k,x)::r=>by
  have ih:=XV f v r
  rw[show xI f v ((k,x)::r)=(if k=f then (k,v)::r else (k,x)::xI f v r) from rfl]
  by_cases hk:k=f
  ·rw[am hk,bR,bR];lia
  ·rw[aj hk,bR,bR];lia
theorem RelO.some_of(r:RelO (aa v) o):∃u,o=aa u/\RelV v u:=by
 cases o with
 |none=>exact(show False from r).elim
 |some u=>exact⟨u,rfl,r⟩
theorem RelO.none_of(r:RelO ai o):o=ai:=by
 cases o with
 |none=>rfl
 |some u=>exact(show False from r).elim
theorem zcm(r:RelV v u):W.handedIn u=af:=by
 cases v with
 |non=>cases (show u=cI from r);rfl
 |bl b=>cases (show u=gZ b from r);rfl
 |int i=>obtain⟨t,e⟩:=(show ∃t,u=fi i t from r);cases e;rfl
 |str x=>obtain⟨t,e⟩:=(show ∃t,u=gM x t from r);cases e;rfl
 |byt b=>obtain⟨t,e⟩:=(show ∃t,u=Value.bytes b t from r);cases e;rfl
 |flt b=>obtain⟨t,e⟩:=(show ∃t,u=pj b t from r);cases e;rfl
 |ref a=>cases (show u=bG a from r);rfl
 |ty n=>cases (show u=lL n from r);rfl
section
variable {P:aq}{w:au}{H H':Hp}{h h':av}{a C dx:ac}{fs fs':List (Str×V)}
theorem Wy(hok:HOk P w H h)(e:H a=aa (.ins C dx fs)):∃mA,ObjM h a dx C mA/\(∀f,RelO (fs.lookup f) (mA f))/\oM mA (fs.map (·.1))/\fs.length<=1000/\H dx=aa (.own a):=by
 obtain⟨d,z,ne,ob,mA,n,r,q⟩:=(show ObjOk P w H h a (.ins C dx fs) from hok a _ e)
 exact⟨mA,⟨ob,n,ne⟩,r,q,z,d⟩
end
structure Cls(K:bt)(C:ac):Prop where
 pg:fM K C fI=af
 hd:fz K C=af
 po:fP K C=af
 sa:bX K (.ref C) "__setattr__"=aa (aa (.builtin "object.__setattr__"))
theorem Cls.get{K:bt}(c:Cls K C)(f:Str):fM K C f=af:=c.pg
def NoAttr(K:bt)(C:ac)(f:Str):Prop:=bX K (.ref C) f=aa ai
theorem NoAttr.taker{K:bt}{C:ac}(n:NoAttr K C f):W.takerIn K C f=aa ai:=by
 unfold W.takerIn
 rw[show bX K (.ref C) f=aa ai from n]
 rfl
structure JZ(K:bt)(C:ac)(m:Str)(f:ac):Prop where
 at_:bX K (.ref C) m=aa (aa (.ref f))
 fn:n0 K (.ref f)=af
 kp:dJ K (.ref f)=af
section
variable {X:Cx}{pins:List (ac×Obj)}{σ:St}{H:Hp}{s:ah}{a C dx:ac}{fs:List (Str×V)}{f:Str}{v:V}{A:aw}{E:ae->ah->Prop}
theorem WL{Q:ae->ah->Prop}(I:Inv X pins σ H s)(e:H a=aa (.ins C dx fs))(c:Cls X.K C)(n:NoAttr X.K C f)(l:fs.lookup f=aa v)
  (h:∀u s',Inv X pins σ H s'->RelV v u->Q u s'):Bf (Bg X.prog X.w) A (getAttr (.ref a) f b) Q E s:=by
 obtain⟨mA,O,r,_,_,_⟩:=Wy I.hok e
 obtain⟨u,hu,ru⟩:=RelO.some_of (v:=v) (o:=mA f) (by rw[<-l];exact r f)
 exact zfa I.kIn O (c.get f) c.hd n hu (zcm ru) (h u _ (I.tok _) ru)
theorem kG{pl:Sem Bool}{Q:ae×List ae->ah->Prop}(I:Inv X pins σ H s)(e:H a=aa (.ins C dx fs))(c:Cls X.K C)(k:JZ X.K C m g)(l:fs.lookup m=ai)
  (h:Q (.ref g,[.ref a]) s):Bf (Bg X.prog X.w) A (getMethod (.ref a) m pl) Q E s:=by
 obtain⟨mA,O,r,_,_,_⟩:=Wy I.hok e
 have hn:mA m=ai:=RelO.none_of (by rw[<-l];exact r m)
 exact zdd I.kIn O (c.get m) k.at_ k.fn hn h
theorem Z6{Q:Unit->ah->Prop}(I:Inv X pins σ H s)(e:H a=aa (.ins C dx fs))(c:Cls X.K C)(n:NoAttr X.K C f)(hl:fs.length<1000)(ry:RelV y u)
  (h:∀s',Inv X pins σ (upd H a (.ins C dx (xI f y fs))) s'->Q () s'):Bf (Bg X.prog X.w) A (setAttr (.ref a) f u) Q E s:=by
 obtain⟨mA,O,r,wi,_,ho⟩:=Wy I.hok e
 have hz:(fs.map (·.1)).length<=Bb:=by rw[bd,bS];lia
 refine zfb I.kIn O c.sa c.po n.taker c.hd wi hz λh' O' sb=>h _ ?_
 have hd:∃o,h'.get? dx=aa o:=let ⟨o,_,_,e',_⟩:=O'.ns;⟨o,e'⟩
 refine I.write (x:=a) (e:=dx) (by rw[e];exact eu) (.inr ho) (λb q hb z=>(sb.2 b hb).trans z) hd ?_
 refine⟨by rw[zi O.ne];exact ho,?_,O.ne,O'.obj,_,O'.ns,λg=>?_,λg hg=>?_⟩
 ·have:=XV f y fs;lia
 ·show RelO ((xI f y fs).lookup g) (if g=f then aa u else mA g)
  rw[XU]
  by_cases q:g=f
  ·rw[am q,am q];exact ry
  ·rw[aj q,aj q];exact r g
 ·by_cases q:g=f
  ·rw[q];exact(Xi f y fs).1
  ·refine(Xi f y fs).2 g (wi g λz=>hg ?_)
   show (if g=f then aa u else mA g)=ai
   rw[aj q];exact z
theorem Inv.made(I:Inv X pins σ H s):Inv X pins σ (upd (upd H s.heap.objs.size (.own (s.heap.objs.size+1))) (s.heap.objs.size+1) (.ins C s.heap.objs.size []))
  { s with heap:=(s.heap.push dR).push (fH C s.heap.objs.size) }:=by
 have e1:(s.heap.push dR).get? s.heap.objs.size=aa dR:=bH s.heap rfl
 have e2:((s.heap.push dR).push (fH C s.heap.objs.size)).get? (s.heap.objs.size+1)=aa (fH C s.heap.objs.size):=by
  have:=bH (s.heap.push dR) (o:=fH C s.heap.objs.size) rfl
  rwa [ii] at this
 have e3:(s.heap.push dR).Ns s.heap.objs.size (λ_=>ai):=⟨dR,#[],_,e1,rfl,(λe he=>absurd he (by simp)),λ_=>rfl⟩
 have I1:=I.laid (a:=s.heap.objs.size) (o:=.own (s.heap.objs.size+1)) (h':=s.heap.push dR) (t':=s.toks) (λb u q=>bg _ q) (bi _) ⟨_,e1⟩
 refine I1.laid (a:=s.heap.objs.size+1) (o:=.ins C s.heap.objs.size []) (t':=s.toks) (λb u q=>bg _ q) (mV (ii _ _)) ?_
 have ne:s.heap.objs.size≠s.heap.objs.size+1:=cq (iG _)
 refine⟨by rw[zi ne,zh],bP _,ne,e2,λ_=>ai,(Heap.Ns1.of_empty e3).at λo q=>bg _ q,λ_=>eu,λy hy=>absurd rfl hy⟩
theorem zfc{Q:ae->ah->Prop}(hb:attributeBase e f env (eval e env)=eval e env)
  (h:Bf (Bg prog w) A (eval e env) (λo s₁=>Bf (Bg prog w) A (getAttr o f af) Q E s₁) E s):Bf (Bg prog w) A (eval (.Attribute e f pos) env) Q E s:=
 Attribute_any_ h (by rw[arm_eval_Attribute,hb])
end
def zO(K:bt)(ta:TE)(f:Str):TE:=λσ H Q=>ta σ H λx H1=>∃a C dx fs v,x=.ref a/\H1 a=aa (.ins C dx fs)/\Cls K C/\NoAttr K C f/\fs.lookup f=aa v/\Q v H1
def xF(K:bt)(ta tv:TE)(f:Str):TS:=λD σ H=>tv σ H λy H1=>ta σ H1 λx H2=>∃a C dx fs,x=.ref a/\H2 a=aa (.ins C dx fs)/\Cls K C/\NoAttr K C f/\fs.length<1000 /\
 D.nx σ (upd H2 a (.ins C dx (xI f y fs)))
def zgD(X:Cx)(op:Operator)(rd:V->V->Hp->VK->Prop):Prop :=
 ∀(pins:List (ac×Obj)) (s:ah) (σ:St) (H:Hp) (x y:V) (u v:ae) (Q:VK),Inv X pins σ H s->RelV x u->RelV y v->rd x y H Q->Bf (Bg X.prog X.w) X.A (inplaceOp op u v) (EP X pins σ Q) X.xe s
def zby(K:bt)(ta tv:TE)(rd:V->V->Hp->VK->Prop)(f:Str):TS:=λD σ H=>ta σ H λx H1=>∃a C dx fs v,x=.ref a/\H1 a=aa (.ins C dx fs)/\Cls K C/\NoAttr K C f/\fs.lookup f=aa v /\
 tv σ H1 λy H2=>rd v y H2 λz H3=>∃dx' fs',H3 a=aa (.ins C dx' fs')/\fs'.length<1000/\D.nx σ (upd H3 a (.ins C dx' (xI f z fs')))
section
variable {X:Cx}{o e value:ay}{f:Str}{pos pos' tpos:Pos}{ta tv:TE}
theorem zy(he:PE X e ta)(hb:attributeBase e f X.env (eval e X.env)=eval e X.env):PE X (.Attribute e f pos) (zO X.K ta f):=by
 intro pins s σ H Q I h
 refine zfc hb (thn (he pins s σ H _ I h) λu s1 ⟨x,H1,I1,rx,a,C,dx,fs,v,ex,ea,c,n,l,q⟩=>?_)
 subst ex
 obtain rfl:u=bG a:=rx
 exact WL I1 ea c n l λu' s2 I2 ru=>⟨v,H1,I2,ru,q⟩
theorem yj(ha:PE X o ta)(hv:PE X value tv)(hs:swapsWith value (aa (.Attribute o f pos')) pos.line X.env=pure ak):PS X (.Assign [.Attribute o f pos'] value pos) (xF X.K ta tv f):=by
 intro pins s σ H D I h
 refine ia (thn (hv pins s σ H _ I h) λu s1 ⟨y,H1,I1,ry,q⟩=>thn (ha pins s1 σ H1 _ I1 q) λov s2 ⟨x,H2,I2,rx,a,C,dx,fs,ex,ea,c,n,l,q2⟩=>?_) hs
 subst ex
 obtain rfl:ov=bG a:=rx
 exact Z6 I2 ea c n l ry λs3 I3=>⟨σ,_,I3,q2⟩
theorem zcn{rd:V->V->Hp->VK->Prop}(ha:PE X o ta)(hv:PE X value tv)(hop:zgD X op rd):PS X (.AugAssign (.Attribute o f tpos) op value pos) (zby X.K ta tv rd f):=by
 intro pins s σ H D I h
 refine wpAny_AugAssign_AttributeAny (thn (ha pins s σ H _ I h) λov s1 ⟨x,H1,I1,rx,a,C,dx,fs,v,ex,ea,c,n,l,q⟩=>?_)
 subst ex
 obtain rfl:ov=bG a:=rx
 refine WL I1 ea c n l λu s2 I2 ru=>thn (hv pins s2 σ H1 _ I2 q) λw3 s3 ⟨y,H2,I3,ry,q3⟩=>thn (hop pins s3 σ H2 v y u w3 _ I3 ru ry q3) λw4 s4 ⟨z,H3,I4,rz,dx',fs',ea',l',q4⟩=>?_
 exact Z6 I4 ea' c n l' rz λs5 I5=>⟨σ,_,I5,q4⟩
def zdf:V->V->Hp->VK->Prop:=λx y H Q=>∃i j,x=.int i/\y=.int j/\Q (.int (i+j)) H
theorem J1:zgD X .Add zdf:=by
 rintro pins s σ H x y u v Q I rx ry ⟨i,j,rfl,rfl,q⟩
 obtain⟨t,rfl⟩:=(show ∃t,u=fi i t from rx)
 obtain⟨t',rfl⟩:=(show ∃t',v=fi j t' from ry)
 exact PyProof.Rows.iadd_int ⟨.int (i+j),H,I.tok _,⟨_,rfl⟩,q⟩
end
section
variable {X:Cx}{pins:List (ac×Obj)}{σ:St}{H:Hp}{s:ah}{A:aw}{E:ae->ah->Prop}{Q:ae->ah->Prop}{c:ae}{b:Bool}
inductive Z7 (K:bt) (H:Hp):V->ae->Prop where
 |non:Z7 K H .non (.type "NoneType")
 |bl (x:Bool):Z7 K H (.bl x) (.type "bool")
 |int (i:Int):Z7 K H (.int i) (.type "int")
 |str (x:Str):Z7 K H (.str x) (.type "str")
 |flt (x:UInt64):Z7 K H (.flt x) (.type "float")
 |lst {a:ac} {xs:List V} (e:H a=aa (.lst xs)):Z7 K H (.ref a) (.type "list")
 |frz {a:ac} {o:Obj} {xs:List V} (e:H a=aa (.frz o (.lst xs))):Z7 K H (.ref a) (.type "list")
 |tup {a:ac} {xs:List V} (e:H a=aa (.tup xs)):Z7 K H (.ref a) (.type "tuple")
 |dK {a:ac} {kvs:List (Key×V)} (e:H a=aa (.dK kvs)):Z7 K H (.ref a) (.type "dict")
 |dT {a:ac} {kvs:List (List Key×V)} (e:H a=aa (.dT kvs)):Z7 K H (.ref a) (.type "dict")
 |ins {a C dx:ac} {fs:List (Str×V)} (e:H a=aa (.ins C dx fs)) (cl:Cls K C) (ha:bX K (.ref C) "__class__"=aa (aa (.builtin "object.__class__")))
   (hn:pz K (.builtin "object.__class__") "__get__"=aa (aa (.builtin "getset_descriptor.__get__"))) (htk:W.takesIn K (.builtin "object.__class__")=aa af)
   (hm:pH K C (.type "object")=aa af):Z7 K H (.ref a) (.ref C)
theorem zco(I:Inv X pins σ H s)(rx:RelV x u)(ty:Z7 X.K H x t)(e:fA X.K t c=aa b)(h:∀tk,Q (.bool b) { s with toks:=tk }) :
  Bf (Bg X.prog X.w) A (call (.builtin "isinstance") [u,c]) Q E s:=by
 cases ty with
 |non=>cases (show u=cI from rx);exact gA W.kitx_none I.kIn eu e (by lia) h
 |bl y=>cases (show u=gZ y from rx);exact gA W.kitx_bool I.kIn eu e (by lia) h
 |int i=>obtain⟨t,q⟩:=(show ∃t,u=fi i t from rx);cases q;exact gA W.kitx_int I.kIn eu e (by lia) h
 |str y=>obtain⟨t,q⟩:=(show ∃t,u=gM y t from rx);cases q;exact gA W.kitx_str I.kIn eu e (by lia) h
 |flt y=>obtain⟨t,q⟩:=(show ∃t,u=pj y t from rx);cases q;exact gA W.kitx_float I.kIn eu e (by lia) h
 |@lst a xs ea =>
  cases (show u=bG a from rx)
  obtain⟨_,_,n,_,h1⟩:=(show ObjOk X.prog X.w H s.heap a (.lst xs) from I.hok a _ ea)
  exact gA W.kitx_list I.kIn ⟨_,h1,rfl⟩ e (by lia) h
 |@frz a ob xs ea =>
  cases (show u=bG a from rx)
  obtain⟨_,_,_,n,_,h1⟩:=(show ObjOk X.prog X.w H s.heap a (.frz ob (.lst xs)) from I.hok a _ ea)
  exact gA W.kitx_list I.kIn ⟨_,h1,rfl⟩ e (by lia) h
 |@tup a xs ea =>
  cases (show u=bG a from rx)
  obtain⟨_,_,_,p⟩:=(show ObjOk X.prog X.w H s.heap a (.tup xs) from I.hok a _ ea)
  obtain⟨o,h1,h2,_⟩:=p
  exact gA W.kitx_tuple I.kIn ⟨o,h1,h2⟩ e (by lia) h
 |@dK a kvs ea =>
  cases (show u=bG a from rx)
  obtain⟨_,_,vs,_,p⟩:=(show ObjOk X.prog X.w H s.heap a (.dK kvs) from I.hok a _ ea)
  obtain⟨o,es,ep,h1,h2,_⟩:=p
  exact gA W.kitx_dict I.kIn ⟨o,h1,h2.1⟩ e (by lia) h
 |@dT a kvs ea =>
  cases (show u=bG a from rx)
  obtain⟨_,_,xs,_,o,es,ep,h1,h2,_⟩:=(show ObjOk X.prog X.w H s.heap a (.dT kvs) from I.hok a _ ea)
  exact gA W.kitx_dict I.kIn ⟨o,h1,h2.1⟩ e (by lia) h
 |@ins a C dx fs ea cl ha hn htk hm =>
  cases (show u=bG a from rx)
  obtain⟨mA,O,_⟩:=Wy I.hok ea
  obtain⟨od,J,_⟩:=O.look
  exact gA (W.kitx_own (cl.get _) cl.hd ha hn htk hm) I.kIn J e (by lia) h
end
structure Room(k:Nat)(A:aw):Prop where
 hd:A.handled=ai
 dp:A.depth+3*k+5<recursionLimit
 un:A.units+16*k+200<cLine
theorem Room.mono(r:Room k A)(h:j<=k):Room j A:=⟨r.hd,by have:=r.dp;lia,by have:=r.un;lia⟩
theorem Room.deeper(r:Room (k+1) A)(env:Env):Room k (A.deeper env):=
 ⟨r.hd,by have:=r.dp;show A.depth+1+3*k+5<_;lia,by have:=r.un;show A.units+3+16*k+200<_;lia⟩
theorem zaO{A:aw}{C:ac}{us:List ae} :(A.under (.builtin "type.__call__" ⟨.ref C::us,kw⟩)).depth=A.depth+1:=by
 first|rfl|simp[oN,Code.weight,Code.isCreation,Code.isGuard,Code.isCaller,Code.frames,oO,guardIds]
theorem zaP{A:aw}{C:ac}{us:List ae} :(A.under (.builtin "type.__call__" ⟨.ref C::us,kw⟩)).units=A.units+1:=by
 first|rfl|simp[oN,Code.cUnits,Code.frames,oO]
theorem Room.make(r:Room (k+1) A)(C:ac)(us:List ae)(kw:List (Str×ae)):Room k (A.under (.builtin "type.__call__" ⟨.ref C::us,kw⟩)):=
 ⟨r.hd,by have:=r.dp;rw[zaO];lia,by have:=r.un;rw[zaP];lia⟩
theorem Room.depth(r:Room k A):A.depth<recursionLimit:=by have:=r.dp;lia
theorem Room.units(r:Room k A):A.units+64<cLine:=by have:=r.un;lia
def zk:TA:=λ_ H Q=>Q [] H
def zc(ta:TE)(tr:TA):TA:=λσ H Q=>ta σ H λx H1=>tr σ H1 λxs H2=>Q (x::xs) H2
section
variable {X:Cx}{e:ay}{es:List ay}{te:TE}{t:TA}{pos:Pos}
theorem zf:PA X [] zk:=λ_ _ _ _ H Q I h=>eJ ⟨[],H,I,.nil,h⟩
theorem za(ha:PE X e te)(hr:PA X es t)(hs:Be (e::es) X.env=(ak,eval e X.env)::Be es X.env:=by rfl):PA X (e::es) (zc te t):=by
 intro pos pins s σ H Q I h
 rw[hs]
 show Bf _ _ (spliced ((ak,eval e X.env)::backTo pos (Be es X.env))) _ _ s
 refine cS (thn (ha pins s σ H _ I h) λu s1 ⟨x,H1,I1,r1,q1⟩=>?_)
 exact thn (hr pos pins s1 σ H1 _ I1 q1) λus s2 ⟨xs,H2,I2,r2,q2⟩=>⟨x::xs,H2,I2,.cons r1 r2,q2⟩
def yP(t:TA):TE:=λσ H Q=>t σ H λxs H1=>xs.length<=Bb/\∀p,H1 p=ai->Q (.ref p) (upd H1 p (.tup xs))
def xV(t:TA):TE:=λσ H Q=>t σ H λxs H1=>xs.length<=Bb/\∀p,H1 p=ai->Q (.ref p) (upd H1 p (.lst xs))
theorem zZ{x1}(h:PA X es t):PE X (.Tuple es x1 pos) (yP t):=by
 intro pins s σ H Q I hq
 refine wpAny_Tuple_spliced (thn (h pos pins s σ H _ I hq) λus s1 ⟨xs,H1,I1,r,z,q⟩=>⟨by rw[<-r.length];exact z,?_⟩)
 have hf:H1 s1.heap.objs.size=ai:=I1.hok.fresh (bi _)
 refine⟨.ref s1.heap.objs.size,upd H1 s1.heap.objs.size (.tup xs),I1.laid (t':=s1.toks) (λb u e=>bg _ e) (bi _) ?_,rfl,q _ hf⟩
 exact⟨z,us,r,⟨_,bH _ rfl,rfl,_,rfl⟩⟩
theorem yq(h:PA X es t):PE X (.List es pos) (xV t):=by
 intro pins s σ H Q I hq
 refine wpAny_List_spliced (thn (h pos pins s σ H _ I hq) λus s1 ⟨xs,H1,I1,r,z,q⟩=>⟨by rw[<-r.length];exact z,?_⟩)
 have hf:H1 s1.heap.objs.size=ai:=I1.hok.fresh (bi _)
 refine⟨.ref s1.heap.objs.size,upd H1 s1.heap.objs.size (.lst xs),I1.laid (t':=s1.toks) (λb u e=>bg _ e) (bi _) ?_,rfl,q _ hf⟩
 exact⟨z,us,0,r,bH _ rfl⟩
end
abbrev Sp:=List V->Hp->VK->XK->Prop
abbrev CXT:=List Env->Hp->ah->XK->ae->ah->Prop
structure Env0(P:aq)(w:au)(K:bt)(mg:Str->Option ae)(base:av)(A:aw)(outer:List Env)(s:ah)(H:Hp):Prop where
 frames:A.frames=aa outer
 mod:Mod K mg base
 bs:∀b o,base.get? b=aa o->s.heap.get? b=aa o/\H b=ai
 bsz:base.objs.size<=s.heap.objs.size
 funs:s.heap.FunFrames base outer
 frf:∀b∈frs outer,H b=ai
 hok:HOk P w H s.heap
 bare:AllBare s.gens
def CE(outer:List Env)(P:aq)(w:au)(H:Hp)(s:ah)(Q:VK)(u:ae)(s':ah):Prop :=
 ∃v H',s'.os=s.os/\AllBare s'.gens/\Un (frs outer) [] H H' s.heap s'.heap/\HOk P w H' s'.heap/\RelV v u/\Q v H'
def CR(CX:CXT)(outer:List Env)(P:aq)(w:au)(H:Hp)(s:ah)(Q:VK)(E:XK)(r:aA)(s':ah):Prop :=
 match r with
 |.ok (.ret u)=>CE outer P w H s Q u s'
 |.ok _=>False
 |.error e=>CX outer H s E e s'
structure FnOk(P:aq)(w:au)(K:bt)(mg:Str->Option ae)(base:av)(CX:CXT)(k:Nat)(f:ac)(fd:Bc)(ps:List Str)(sp:Sp):Prop where
 len:∀vs H Q E,sp vs H Q E->vs.length=ps.length
 run:∀(A:aw) (outer:List Env) (s:ah) (H:Hp) (args:Args) (us:List ae) (vs:List V) (Q:VK) (E:XK),Room k A->Env0 P w K mg base A outer s H->BindsTo s fd args (ps.zip us)->Vals vs us->sp vs H Q E ->
  codeAny (Bg P w) A (.call (.ref f) args) (CR CX outer P w H s Q E) s
theorem FnOk.mono{w:au}{K:bt}{mg:Str->Option ae}{base:av}{CX:CXT}{j k:Nat}{f:ac}{fd:Bc}{ps:List Str}{sp:Sp}(F:FnOk P w K mg base CX j f fd ps sp)(h:j<=k) :
  FnOk P w K mg base CX k f fd ps sp:=⟨F.len,λA outer s H args us vs Q E hr=>F.run A outer s H args us vs Q E (hr.mono h)⟩
theorem Env0.make{w:au}{K:bt}{mg:Str->Option ae}{base:av}{A:aw}{outer:List Env}{s:ah}{H:Hp}(e:Env0 P w K mg base A outer s H)(C:ac)(us:List ae)(kw:List (Str×ae)) :
  Env0 P w K mg base (A.under (.builtin "type.__call__" ⟨.ref C::us,kw⟩)) outer s H:=⟨by first|exact e.frames|(simpa[oN,Code.envs,oO,pushEnvs] using e.frames),e.mod,e.bs,e.bsz,e.funs,e.frf,e.hok,e.bare⟩
section
variable {X:Cx}{pins:List (ac×Obj)}{σ:St}{H:Hp}{s s':ah}
theorem Inv.env0(I:Inv X pins σ H s):Env0 X.prog X.w X.K X.mg X.base X.A X.stack s H :=
 ⟨I.ok.frames,I.ok.mod,I.bs,bK I.ok.bsz I.sz,I.stack,I.stkFree,I.hok,I.bare⟩
theorem Inv.after{Q:VK}(I:Inv X pins σ H s)(h:CE X.stack X.prog X.w H s Q u s'):EP X pins σ Q u s':=by
 obtain⟨v,H',os,bare,un,hok,r,q⟩:=h
 obtain⟨hh,g,d,t,os'⟩:=s'
 obtain rfl:os'=s.os:=os
 exact⟨v,H',I.call (h':=hh) (g':=g) (d':=d) (t':=t) (ch:=[]) un hok bare (λb z=>absurd z (by simp)),r,q⟩
end
def zT(sp:Sp)(dvs:List V)(E:XK)(t:TA):TE:=λσ H Q=>t σ H λvs H1=>sp (vs++dvs) H1 Q E
def zW(C:ac)(m:Str)(sp:Sp)(dvs:List V)(E:XK)(ta:TE)(t:TA):TE:=λσ H Q=>ta σ H λx H1=>∃a dx fs,x=.ref a/\H1 a=aa (.ins C dx fs)/\fs.lookup m=ai /\
 t σ H1 λvs H2=>sp (x::(vs++dvs)) H2 Q E
def YF(C:ac)(sp:Sp)(dvs:List V)(E:XK)(t:TA):TE:=λσ H Q=>t σ H λvs H1=>∀x dx,H1 x=ai->H1 dx=ai->dx≠x ->
 sp (.ref x::(vs++dvs)) (upd (upd H1 dx (.own x)) x (.ins C dx [])) (λv H2=>v=.non/\Q (.ref x) H2) E
def Binds(K:bt)(fd:Bc)(ps:List Str)(ds:List ae):Prop :=
 ∀(s:ah) (us:List ae),K.In s.heap->(us++ds).length=ps.length->BindsTo s fd ⟨us,[]⟩ (ps.zip (us++ds))
theorem Binds.all{K:bt}{fd:Bc}(h:∀us:List ae,us.length=ps.length->bindArgs fd ⟨us,[]⟩=pure (ps.zip us)):Binds K fd ps []:=λs us _ hl=>by
 rw[bV] at hl ⊢
 exact .of_eq (h us hl)
def xX(CX:CXT)(X:Cx)(E:XK):Prop:=∀(pins:List (ac×Obj)) (σ:St) (H:Hp) (s:ah) (e:ae) (s':ah),Inv X pins σ H s->CX X.stack H s E e s'->X.xe e s'
section
variable {X:Cx}{CX:CXT}{k:Nat}{f C:ac}{fd:Bc}{ps:List Str}{sp:Sp}{dvs:List V}{ds:List ae}{E:XK}{x m:Str}{p pos apos:Pos}{e o:ay}{es:List ay}{ta:TE}{t:TA}
theorem J4{σ:St}{H:Hp}{s:ah}{Q:VK}{us:List ae}{vs:List V}(F:FnOk X.prog X.w X.K X.mg X.base CX k f fd ps sp)(hr:Room k X.A)(hb:Binds X.K fd ps ds)(hd:Vals dvs ds)(hx:xX CX X E)
  (I:Inv X pins σ H s) (r:Vals vs us) (h:sp (vs++dvs) H Q E):Bf (Bg X.prog X.w) X.A (call (.ref f) us) (EP X pins σ Q) X.xe s:=by
 have r2:Vals (vs++dvs) (us++ds):=r.append hd
 have hl:(us++ds).length=ps.length:=by rw[<-r2.length];exact F.len _ _ _ _ h
 refine oA (fQ (F.run X.A X.stack s H ⟨us,[]⟩ (us++ds) (vs++dvs) Q E hr I.env0 (hb s us I.kIn hl) r2 h) λr s' hq=>?_)
 cases r with
 |error e=>exact hx pins σ H s e s' I hq
 |ok fl =>
  cases fl with
  |ret u=>exact I.after hq
  |next=>exact cY hq
  |brk=>exact cY hq
  |cont=>exact cY hq
theorem Wz(F:FnOk X.prog X.w X.K X.mg X.base CX k f fd ps sp)(hr:Room k X.A)(hg:Gl X x)(hm:X.mg x=aa (.ref f))(hk:dJ X.K (.ref f)=af)(hb:Binds X.K fd ps ds)(hd:Vals dvs ds)(hx:xX CX X E)
  (ha:PA X (e::es) t) (hdb:(x==("__debug__":Str))=ak:=by lia) (he:Be (e::es) X.env=(ak,eval e X.env)::Be es X.env:=by rfl) (hpl:(backTo pos (Be es X.env)).any (·.1)=ak:=by rfl) :
  PE X (.Call (.Name x p) (e::es) [] pos) (zT sp dvs E t):=by
 intro pins s σ H Q I h
 refine eU (wQ I hg hm ?_ hdb)
 refine lA (h₀:=X.base) I.ok.mod.kin hk (thn (ha pos pins s σ H _ I h) λus s1 ⟨vs,H1,I1,r,q⟩=>⟨I1.kIn,?_⟩) he hpl
 exact J4 F hr hb hd hx I1 r q
theorem zbz{pl:Sem Bool}(he:PE X o ta)(c:Cls X.K C)(hm:JZ X.K C m f)(F:FnOk X.prog X.w X.K X.mg X.base CX k f fd ps sp)(hr:Room k X.A)(hb:Binds X.K fd ps ds)(hd:Vals dvs ds)(hx:xX CX X E)(ha:PA X (e::es) t)
  (hst:Be (e::es) X.env=(ak,eval e X.env)::Be es X.env:=by rfl) (hpl:(backTo pos (Be es X.env)).any (·.1)=ak:=by rfl)
  (ht:eval (.Call (.Attribute o m apos) (e::es) [] pos) X.env=(do
   let ov <-eval o X.env
   standAt apos.atName
   let (f,first) <-holding [ov] (getMethod ov m pl)
   callWith pos f first (backTo pos (Be (e::es) X.env)) (backToKw pos (keywordEach [] X.env))):=by rfl) :
  PE X (.Call (.Attribute o m apos) (e::es) [] pos) (zW C m sp dvs E ta t):=by
 intro pins s σ H Q I h
 refine iV (pl:=pl) (thn (he pins s σ H _ I h) λu s1 ⟨x,H1,I1,rx,a,dx,fs,ex,ea,l,q⟩=>?_) ht
 subst ex
 obtain rfl:u=bG a:=rx
 refine kG I1 ea c hm l ?_
 refine lA (first:=[.ref a]) (h₀:=X.base) I.ok.mod.kin hm.kp (thn (ha pos pins s1 σ H1 _ I1 q) λus s2 ⟨vs,H2,I2,r,q2⟩=>⟨I2.kIn,?_⟩) hst hpl
 exact J4 (us:=.ref a::us) (vs:=.ref a::vs) F hr hb hd hx I2 (.cons rfl r) q2
theorem Qi{pl:Sem Bool}(he:PE X o ta)(c:Cls X.K C)(hm:JZ X.K C m f)(F:FnOk X.prog X.w X.K X.mg X.base CX k f fd ps sp)(hr:Room k X.A)(hb:Binds X.K fd ps ds)(hd:Vals dvs ds)(hx:xX CX X E)
  (ht:eval (.Call (.Attribute o m apos) [] [] pos) X.env=(do
   let ov <-eval o X.env
   standAt apos.atName
   let (f,first) <-holding [ov] (getMethod ov m pl)
   callWith pos f first (backTo pos (Be [] X.env)) (backToKw pos (keywordEach [] X.env))):=by rfl) :
  PE X (.Call (.Attribute o m apos) [] [] pos) (zW C m sp dvs E ta zk):=by
 intro pins s σ H Q I h
 refine iV (pl:=pl) (thn (he pins s σ H _ I h) λu s1 ⟨x,H1,I1,rx,a,dx,fs,ex,ea,l,q⟩=>?_) ht
 subst ex
 obtain rfl:u=bG a:=rx
 refine kG I1 ea c hm l ?_
 exact n9 (first:=[.ref a]) I1.kIn hm.kp (J4 (us:=[.ref a]) (vs:=[.ref a]) F hr hb hd hx I1 (.cons rfl .nil) q)
structure Mk(K:bt)(C f:ac):Prop where
 makes:gy K C=af
 init:bX K (.ref C) "__init__"=aa (aa (.ref f))
 fn:n0 K (.ref f)=af
 kp:dJ K (.ref C)=af
theorem Qj{σ:St}{H:Hp}{s:ah}{Q:VK}{us:List ae}{vs:List V}(M:Mk X.K C f)(F:FnOk X.prog X.w X.K X.mg X.base CX k f fd ps sp)(hr:Room (k+1) X.A)(hb:Binds X.K fd ps ds)(hd:Vals dvs ds)
  (hx:xX CX X E) (I:Inv X pins σ H s) (r:Vals vs us)
  (h:∀x dx,H x=ai->H dx=ai->dx≠x->sp (.ref x::(vs++dvs)) (upd (upd H dx (.own x)) x (.ins C dx [])) (λv H2=>v=.non/\Q (.ref x) H2) E) :
  Bf (Bg X.prog X.w) X.A (call (.ref C) us) (EP X pins σ Q) X.xe s:=by
 have hq:=h (s.heap.objs.size+1) s.heap.objs.size (I.hok.fresh (pA _)) (I.hok.fresh (bi _)) (cq (iG _))
 have I2:=Inv.made (C:=C) I
 have r2:Vals (V.ref (s.heap.objs.size+1)::(vs++dvs)) (bG (s.heap.objs.size+1)::(us++ds)):=.cons rfl (r.append hd)
 have hl:(bG (s.heap.objs.size+1)::us++ds).length=ps.length:=by
  have e:=r2.length
  rw[F.len _ _ _ _ hq] at e
  exact e.symm
 refine oA (zde (f:=f) I.kIn M.makes M.init (beq_iff_eq.mp M.fn) (fQ (F.run _ X.stack _ _ ⟨bG (s.heap.objs.size+1)::us,[]⟩ (bG (s.heap.objs.size+1)::(us++ds)) _ _ E (hr.make C us [])
  (I2.env0.make C us []) (hb _ (bG (s.heap.objs.size+1)::us) I2.kIn hl) r2 hq) λr s' hq'=>?_))
 cases r with
 |error e=>exact hx pins σ _ _ e s' I2 hq'
 |ok fl =>
  cases fl with
  |ret u =>
   obtain⟨v,H',I3,rv,ev,q3⟩:=I2.after hq'
   subst ev
   exact⟨rv,⟨V.ref (s.heap.objs.size+1),H',I3,rfl,q3⟩⟩
  |next=>exact cY hq'
  |brk=>exact cY hq'
  |cont=>exact cY hq'
theorem Zx(M:Mk X.K C f)(F:FnOk X.prog X.w X.K X.mg X.base CX k f fd ps sp)(hr:Room (k+1) X.A)(hg:Gl X x)(hm:X.mg x=aa (.ref C))(hb:Binds X.K fd ps ds)(hd:Vals dvs ds)(hx:xX CX X E)
  (ha:PA X (e::es) t) (hdb:(x==("__debug__":Str))=ak:=by lia) (he:Be (e::es) X.env=(ak,eval e X.env)::Be es X.env:=by rfl) (hpl:(backTo pos (Be es X.env)).any (·.1)=ak:=by rfl) :
  PE X (.Call (.Name x p) (e::es) [] pos) (YF C sp dvs E t):=by
 intro pins s σ H Q I h
 refine eU (wQ I hg hm ?_ hdb)
 refine lA (h₀:=X.base) I.ok.mod.kin M.kp (thn (ha pos pins s σ H _ I h) λus s1 ⟨vs,H1,I1,r,q⟩=>⟨I1.kIn,?_⟩) he hpl
 exact Qj M F hr hb hd hx I1 r q
theorem zdg(M:Mk X.K C f)(F:FnOk X.prog X.w X.K X.mg X.base CX k f fd ps sp)(hr:Room (k+1) X.A)(hg:Gl X x)(hm:X.mg x=aa (.ref C))(hb:Binds X.K fd ps ds)(hd:Vals dvs ds)(hx:xX CX X E)
  (hdb:(x==("__debug__":Str))=ak:=by lia):PE X (.Call (.Name x p) [] [] pos) (YF C sp dvs E zk):=by
 intro pins s σ H Q I h
 refine eU (wQ I hg hm ?_ hdb)
 exact n9 I.kIn M.kp (Qj (us:=[]) M F hr hb hd hx I .nil h)
end
structure FnScope(N P:List Str)(sc:az):Prop where
 kind:sc.kind=.function
 co:sc.isCoroutine=ak
 gen:sc.isGenerator=ak
 nd:N.Nodup
 pre:N.take P.length=P
 par:∀x∈P,sc.names.lookup x=aa .local\/sc.names.lookup x=aa .cell
 nofree:∀y∈sc.names,y.2≠.free
theorem Jd{kindOf:Str->Option NameKind}{x:Str}:∀ {binds:List (Str×ae)} {m:Str->Option ae},(∀v,(x,v) ∉ binds)->bindL kindOf binds m x=m x
 |[],_,_=>rfl
 |(n,v)::r,m,h=>by
  unfold bindL
  rw[Jd λw hw=>h w (bn _ hw)]
  split
  ·have:x≠n:=by rintro rfl;exact h v bq
   simp[this]
  ·rfl
theorem Je{kindOf:Str->Option NameKind}{x:Str}:∀ {binds:List (Str×ae)} {m:Str->Option ae},(∀v,(x,v) ∉ binds)->bindC kindOf binds m x=m x
 |[],_,_=>rfl
 |(n,v)::r,m,h=>by
  unfold bindC
  rw[Je λw hw=>h w (bn _ hw)]
  split
  ·rfl
  ·have:x≠n:=by rintro rfl;exact h v bq
   simp[this]
theorem Jf{kindOf:Str->Option NameKind}{x:Str}{v:ae}:∀ {P:List Str} {vs:List ae} {i:Nat} {m:Str->Option ae},P.Nodup->P[i]?=aa x->vs[i]?=aa v->kindOf x=aa .local ->
  bindL kindOf (P.zip vs) m x=aa v
 |[],_,_,_,_,h,_,_=>by simp at h
 |_::_,[],_,_,_,_,h,_=>by simp at h
 |p::P,w::vs,0,m,nd,h1,h2,hk=>by
  simp at h1 h2;subst h1;subst h2
  show bindL kindOf ((p,w)::P.zip vs) m p=_
  unfold bindL
  rw[Jd λv hv=>(bZ.mp nd).1 (mW hv).1,am hk]
  simp
 |p::P,w::vs,i+1,m,nd,h1,h2,hk=>by
  show bindL kindOf ((p,w)::P.zip vs) m x=_
  unfold bindL
  exact Jf (i:=i) (bZ.mp nd).2 (by simpa using h1) (by simpa using h2) hk
theorem Jg{kindOf:Str->Option NameKind}{x:Str}{v:ae}:∀ {P:List Str} {vs:List ae} {i:Nat} {m:Str->Option ae},P.Nodup->P[i]?=aa x->vs[i]?=aa v->kindOf x≠aa .local ->
  bindC kindOf (P.zip vs) m x=aa v
 |[],_,_,_,_,h,_,_=>by simp at h
 |_::_,[],_,_,_,_,h,_=>by simp at h
 |p::P,w::vs,0,m,nd,h1,h2,hk=>by
  simp at h1 h2;subst h1;subst h2
  show bindC kindOf ((p,w)::P.zip vs) m p=_
  unfold bindC
  rw[Je λv hv=>(bZ.mp nd).1 (mW hv).1,aj hk]
  simp
 |p::P,w::vs,i+1,m,nd,h1,h2,hk=>by
  show bindC kindOf ((p,w)::P.zip vs) m x=_
  unfold bindC
  exact Jg (i:=i) (bZ.mp nd).2 (by simpa using h1) (by simpa using h2) hk
def start(N:List Str)(vs:List V):St:=vs.map aa++bY (N.length-vs.length) ai
def qC(CX:CXT)(P:aq)(w:au)(K:bt)(mg:Str->Option ae)(base:av)(N:List Str)(qual:Str)(scope:az)(f:ac)(cd:ae)(A:aw)(outer:List Env)(s:ah)(H:Hp)(E:XK):Cx where
 prog:=P
 w:=w
 K:=K
 mg:=mg
 base:=base
 A:=A.deeper (envOfC qual scope s.heap.objs.size f cd)
 N:=N
 s₀:=s
 H₀:=H
 env:=envOfC qual scope s.heap.objs.size f cd
 outer:=outer
 stack:=envOfC qual scope s.heap.objs.size f cd::outer
 ex:=[]
 calm:=af
 fn:=λ_=>af
 pn:=[]
 xe:=λe s'=>Bf (Bg P w) (A.deeper (envOfC qual scope s.heap.objs.size f cd)) (leaving (envOfC qual scope s.heap.objs.size f cd) e) (λ_ s''=>CX outer H s E e s'') (λe' s''=>CX outer H s E e' s'') s'
theorem Qk{sc:az}{n:Nat}(h:sc.names.lookup x=aa .cell):∃c,(cellsFrom n sc.names []).lookup x=aa c:=by
 have q:=W.cellsFrom_some sc.names n [] (.inl h)
 exact fm.mp q
theorem zcp{CX:CXT}{P:aq}{w:au}{K:bt}{mg:Str->Option ae}{base:av}{N ps:List Str}{qual:Str}{scope:az}{f:ac}{cd:ae}{A:aw}{outer:List Env}{s s1:ah}{H:Hp}{E:XK}{us:List ae}{vs:List V}
  (S:FnScope N ps scope) (hd:A.handled=ai) (e0:Env0 P w K mg base A outer s H) (hl:vs.length=ps.length) (r:Vals vs us)
  (x:InCallC s s.heap.objs.size (bindL (envOfC qual scope s.heap.objs.size f cd).kindOf (ps.zip us) λ_=>ai) (cellsFrom (s.heap.objs.size+1) scope.names []) (bindC (envOfC qual scope s.heap.objs.size f cd).kindOf (ps.zip us) λ_=>ai) s1) :
  Inv (qC CX P w K mg base N qual scope f cd A outer s H E) [] (start N vs) H s1:=by
 have hpl:ps.length<=N.length:=by have:=congrArg cg S.pre;rw[cR] at this;lia
 obtain⟨h1,tk,rfl,hk⟩:=x.done
 have noA:∀b:ac,b ∉ (qC CX P w K mg base N qual scope f cd A outer s H E).ex:=λb z=>absurd (show b∈([]:List ac) from z) (by simp)
 refine⟨⟨e0.mod,S.kind,rfl,rfl,bi _,λy z c h1 h2=>?_,λy hy=>?_,λy c _ h=>?_,λ_=>hd,Around.frames_deeper e0.frames,.inr ⟨rfl,rfl⟩,λb z=>absurd z (noA b),e0.bs,e0.bsz,λb _ _=>noA b,λb z=>absurd z (noA b),e0.funs,e0.frf⟩,
  rfl,e0.bare,Un.kept hk,⟨_,x.toInCall.ns,λi y v h1 h2 h3=>?_⟩,λy c h=>⟨_,x.cell y c h⟩,e0.hok.fresh (bi _),λy c h=>?_,λp hp=>absurd (show p∈([]:List (ac×Obj)) from hp) (by simp),e0.hok.kept hk,?_⟩
 ·exact name_of_addr x.apart (eN h1) (eN h2)
 ·have hy:scope.names.lookup y=aa .cell\/scope.names.lookup y=aa .free:=hy
  rcases hy with hy|hy
  ·exact Qk hy
  ·exact absurd rfl (S.nofree _ (eN hy))
 ·exact mT (x.above y c (eN h))
 ·have hi:i<vs.length:=by
   unfold start at h2
   by_cases hi:i<vs.length
   ·exact hi
   ·rw[gh (by simpa using hi)] at h2
    rw[l9] at h2
    split at h2 <;> cases h2
  have ha:vs[i]?=aa v:=by
   unfold start at h2
   rw[dX (by simpa using hi),bp] at h2
   cases e:vs[i]? with
   |none=>rw[e] at h2;cases h2
   |some a=>rw[e] at h2;cases h2;rfl
  obtain⟨u,hu,rv⟩:=r.get ha
  have hp:ps[i]?=aa y:=by
   rw[<-S.pre,List.getElem?_take_of_lt (by lia)];exact h1
  have ndP:ps.Nodup:=by rw[<-S.pre];exact S.nd.sublist (oB _ _)
  refine⟨u,rv,?_⟩
  rcases S.par y (bW hp) with k|k
  ·exact .inl ⟨k,Jf ndP hp hu k⟩
  ·obtain⟨c,e⟩:=Qk (n:=s.heap.objs.size+1) k
   refine .inr ⟨.inl k,c,e,?_⟩
   have q:=x.cell y c e
   rw[Jg ndP hp hu (by show scope.names.lookup y≠_;rw[k];decide)] at q
   exact q
 ·exact e0.hok.fresh (mT (x.above y c (eN h)))
 ·unfold start
  show _=N.length
  rw[bw,bd,fR]
  lia
theorem zga{CX:CXT}{P:aq}{w:au}{K:bt}{mg:Str->Option ae}{base:av}{k:Nat}{f:ac}{name qual:Str}{params:Arguments}{body:List ax}{scope:az}{dV kV doc pm cdv ct oc:ae}{an od:Option ac}
  {osl:Array (Option ae)} {N ps:List Str} {sp:Sp} (lk:K.lookup f=aa ⟨oc,od,.func (gS name qual params body scope dV kV doc pm an cdv ct),osl⟩) (hcd:gF K cdv qual=af) (S:FnScope N ps scope)
  (len:∀vs H Q E,sp vs H Q E->vs.length=ps.length)
  (hbody:∀(A:aw) (outer:List Env) (s:ah) (H:Hp) (vs:List V) (Q:VK) (E:XK),Room k (A.deeper (envOfC qual scope s.heap.objs.size f cdv))->sp vs H Q E ->
   ∃t,PSs (qC CX P w K mg base N qual scope f cdv A outer s H E) body t/\t { nx:=λ_ H'=>Q .non H',rt:=Q } (start N vs) H) :
  FnOk P w K mg base CX (k+1) f (gS name qual params body scope dV kV doc pm an cdv ct) ps sp:=by
 refine⟨len,λA outer s H args us vs Q E hr e0 hb r hsp=>?_⟩
 have hl:=len _ _ _ _ hsp
 have KX:K.In s.heap:=e0.mod.kin.keeps λb o e=>(e0.bs b o e).1
 have lim:s.heap.NoLimit:=e0.mod.nolimit.keeps λb o e=>(e0.bs b o e).1
 have hkind:∀y∈ps.zip us,scope.names.lookup y.1=aa .local\/(scope.names.lookup y.1=aa .cell/\((cellsFrom (s.heap.objs.size+1) scope.names []).lookup y.1).isSome=af):=λ⟨n,v⟩ hy=>by
  rcases S.par n (mW hy).1 with q|q
  ·exact .inl q
  ·exact .inr ⟨q,W.cellsFrom_some _ _ _ (.inl q)⟩
 refine codeAny_call_function hr.depth (KX _ _ lk) rfl S.co S.gen rfl (W.codeRec_of KX hcd) (hb _ _ _ _ ?_)
 refine wpAny_newFunctionEnv_cells S.kind hkind λenv he s1 x=>?_
 subst he
 refine⟨lim.keeps x.toInCall.keep,codeAny_func ?_⟩
 obtain⟨t,ht,hq⟩:=hbody A outer s H vs Q E (hr.deeper _) hsp
 have I:Inv (qC CX P w K mg base N qual scope f cdv A outer s H E) [] (start N vs) H s1:=zcp S hr.hd e0 hl r x
 refine dE (ht [] s1 (start N vs) H _ I hq) (λfl s' hs=>?_) λe s' hs=>hs
 have fin:∀ {σ':St} {H':Hp} {v:V} {u:ae},Inv (qC CX P w K mg base N qual scope f cdv A outer s H E) [] σ' H' s'->RelV v u->Q v H'->CE outer P w H s Q u s' :=
  λ{σ' H' v u} J rv q=>⟨v,H',J.os,J.bare,J.base,J.hok,rv,q⟩
 cases fl with
 |ret u =>
  obtain⟨v,σ',H',J,rv,q⟩:=hs
  exact fin J rv q
 |next =>
  obtain⟨σ',H',J,q⟩:=hs
  exact fin (v:=V.non) (u:=cI) J rfl q
 |brk =>
  obtain⟨_,_,_,q⟩:=hs
  exact cY q
 |cont =>
  obtain⟨_,_,_,q⟩:=hs
  exact cY q
section
variable {X:Cx}{x:Str}{p pos:Pos}{e:ay}{es:List ay}{t:TA}{id T:String}{r:List V->Hp->VK->Prop}
def tCB(r:List V->Hp->VK->Prop)(t:TA):TE:=λσ H Q=>t σ H λvs H1=>r vs H1 Q
theorem zN(hc:jW X (.builtin id) r)(hg:Gl X x)(hm:X.mg x=ai)(hv:Bh x=aa (.builtin id))(ha:PA X (e::es) t)(hn:x≠"__name__":=by lia)(hdb:(x==("__debug__":Str))=ak:=by lia)
  (he:Be (e::es) X.env=(ak,eval e X.env)::Be es X.env:=by rfl) (hpl:(backTo pos (Be es X.env)).any (·.1)=ak:=by rfl):PE X (.Call (.Name x p) (e::es) [] pos) (tCB r t):=by
 intro pins s σ H Q I h
 refine eU (JU I hg hm hv ?_ hn hdb)
 exact PyProof.Rows.callWith_builtin1 (thn (ha pos pins s σ H _ I h) λus s1 ⟨vs,H1,I1,r1,q1⟩=>hc pins s1 σ H1 vs us Q I1 r1 q1) he hpl
theorem yT(hc:jW X (.type T) r)(hg:Gl X x)(hm:X.mg x=ai)(hv:Bh x=aa (.type T))(ha:PA X (e::es) t)(hn:x≠"__name__":=by lia)(hdb:(x==("__debug__":Str))=ak:=by lia)
  (he:Be (e::es) X.env=(ak,eval e X.env)::Be es X.env:=by rfl) (hpl:(backTo pos (Be es X.env)).any (·.1)=ak:=by rfl):PE X (.Call (.Name x p) (e::es) [] pos) (tCB r t):=by
 intro pins s σ H Q I h
 refine eU (JU I hg hm hv ?_ hn hdb)
 exact iT (thn (ha pos pins s σ H _ I h) λus s1 ⟨vs,H1,I1,r1,q1⟩=>hc pins s1 σ H1 vs us Q I1 r1 q1) he hpl
end
end L2
namespace HT
open PySem PyProof.Rows
def zhs:List Int->List Int->Bool
 |[],[]=>ak
 |[],_::_=>af
 |_::_,[]=>ak
 |x::xs,y::ys=>if x=y then zhs xs ys else decide (x<y)
theorem rcLt_int(A:aw)(s:ah)(a:Int)(t:Tok)(c:Int)(u:Tok)(prog:aq)(w:au)(E:ae->ah->Prop)(Q:ae->ah->Prop)(h:Q (.bool (decide (a<c))) s) :
  Bf (Bg prog w) A (richCompare .Lt (.int a t) (.int c u)) Q E s :=
 (nN h:Bf (Bg prog w) A (Bi .Lt (.int a t) (.int c u)) Q E s)
section
variable {prog:aq}{w:au}{A:aw}{E:ae->ah->Prop}{s:ah}
theorem cat_tup{Q:ae->ah->Prop}(ht:IsTup s.heap t vs.toArray)(hb:IsTup s.heap b ws.toArray)(hv:vs≠[])
  (h1:ws=[]->Q (.ref t) s) (h2:ws≠[]->Q (.ref s.heap.objs.size) { s with heap:=s.heap.push { cls:=.type "tuple",data:=.seq (vs++ws).toArray } })
  (hsz:vs.length+ws.length<=Bb):Bf (Bg prog w) A (binaryOp .Add (.ref t) (.ref b)) Q E s:=by
 obtain⟨⟨cls,dd,data,sl⟩,ho,hc,n,hd⟩:=id ht
 obtain⟨⟨cls2,dd2,data2,sl2⟩,ho2,hc2,n2,hd2⟩:=id hb
 simp only at hc hd hc2 hd2
 subst hc hd hc2 hd2
 have e:vs.toArray++ws.toArray=(vs++ws).toArray:=by simp
 by_cases hw:ws=[]
 ·exact concat_meets ⟨_,ho,rfl⟩ ⟨_,ho2,rfl⟩ noFill_tuple_add seq_tuple_add mJ ma (lM _ _)
   (tuple_addW1 t b vs.toArray ws.toArray n n2 dd dd2 sl sl2 (by simpa using hv) (by simp[hw])) ⟨ho,ho2,h1 hw⟩
 ·refine concat_meets ⟨_,ho,rfl⟩ ⟨_,ho2,rfl⟩ noFill_tuple_add seq_tuple_add mJ ma (lM _ _)
   (tuple_addW2 t b vs.toArray ws.toArray n n2 dd dd2 sl sl2 (by simpa using hv) (by simpa using hw) (by rw[bF,bF];exact hsz)) ⟨ho,ho2,?_⟩
  rw[e]
  exact h2 hw
def sIx(n d:Nat):Option Int->Nat
 |none=>d
 |some v=>if v<0 then (v+(n:Int)).toNat else min v.toNat n
theorem sIx_none(n d:Nat):sIx n d ai=d:=rfl
theorem sIx_nat(n d k:Nat):sIx n d (aa (k:Int))=min k n:=by
 show (if (k:Int)<0 then ((k:Int)+(n:Int)).toNat else min (k:Int).toNat n)=min k n
 rw[aj (by lia),eK]
theorem sIx_le(n d:Nat)(hd:d<=n)(o:Option Int):sIx n d o<=n:=by
 cases o with
 |none=>exact hd
 |some v =>
  show (if v<0 then (v+(n:Int)).toNat else min v.toNat n)<=n
  by_cases hv:v<0
  ·rw[am hv];lia
  ·rw[aj hv];exact Nat.min_le_right _ _
end
end HT
namespace L2
open PySem PySem.Spec PyProof.Rows
abbrev TO:=St->Hp->(Option Int->Hp->Prop)->Prop
def PO(X:Cx)(e:Option ay)(t:TO):Prop :=
 ∀(pins:List (ac×Obj)) (s:ah) (σ:St) (H:Hp) (Q:Option Int->Hp->Prop),Inv X pins σ H s->t σ H Q ->
  Bf (Bg X.prog X.w) X.A (evalPart e X.env) (λu s'=>∃o H',Inv X pins σ H' s'/\IsPart u o/\Q o H') X.xe s
def jh:TO:=λ_ H Q=>Q ai H
def vx(t:TE):TO:=λσ H Q=>t σ H λx H1=>∃i,x=.int i/\Q (aa i) H1
theorem zaQ{ns:List Int}:∀ {us:List ae},Vals (ns.map V.int) us->IntsAre us ns:=by
 induction ns with
 |nil=>intro us r;rw[lB] at r;cases r;exact .nil
 |cons n ns ih =>
  intro us r
  rw[bo] at r
  cases r with
  |cons r1 r2 =>
   obtain⟨t,e⟩:=r1
   subst e
   exact .cons n t (ih r2)
section
variable {X:Cx}{e:ay}{te:TE}{lo hi:Option ay}{tl th:TO}{pos p2:Pos}
theorem kH:PO X ai jh:=by
 intro pins s σ H Q I h
 rw[evalPart_none]
 exact bh ⟨ai,H,I,.none,h⟩
theorem yZ(h:PE X e te):PO X (aa e) (vx te):=by
 intro pins s σ H Q I hw
 rw[evalPart_some]
 refine thn (h pins s σ H _ I hw) λu s1 ⟨x,H1,I1,r1,q1⟩=>?_
 obtain⟨i,rfl,q⟩:=q1
 obtain⟨t,rfl⟩:=r1
 exact⟨aa i,H1,I1,.int i t,q⟩
def SlR(X:Cx)(r:V->Option Int->Option Int->Hp->VK->Prop):Prop :=
 ∀(pins:List (ac×Obj)) (s:ah) (σ:St) (H:Hp) (x:V) (v vl vu:ae) (lo hi:Option Int) (sl:ac) (Q:VK),Inv X pins σ H s->RelV x v->s.heap.IsSliceOf sl vl vu .none->IsPart vl lo->IsPart vu hi->r x lo hi H Q ->
  ∃T id,typeLookup (.type T) "__getitem__"=pure (aa (.builtin id))/\s.TypeIs v T/\Bf (Bg X.prog X.w) X.A (getItem v (.ref sl)) (EP X pins σ Q) X.xe s
def tSl(r:V->Option Int->Option Int->Hp->VK->Prop)(te:TE)(tl th:TO):TE:=λσ H Q=>te σ H λx H1=>tl σ H1 λl H2=>th σ H2 λu H3=>r x l u H3 Q
theorem xm{r:V->Option Int->Option Int->Hp->VK->Prop}(hr:SlR X r)(he:PE X e te)(hl:PO X lo tl)(hu:PO X hi th):PE X (.Subscript e (.Slice lo hi ai p2) pos) (tSl r te tl th):=by
 intro pins s σ H Q I h
 refine Subscript_ (thn (he pins s σ H _ I h) λv s1 ⟨x,H1,I1,r1,q1⟩=>?_)
 refine wpAny_Slice (thn (hl pins s1 σ H1 _ I1 q1) λvl s2 ⟨l,H2,I2,pl,q2⟩=>thn (hu pins s2 σ H2 _ I2 q2) λvu s3 ⟨u,H3,I3,pu,q3⟩=>?_)
 rw[evalPart_none]
 refine bh ?_
 have I4:Inv X pins σ H3 { s3 with heap:=s3.heap.push { cls:=.type "slice",data:=.fields #[vl,vu,.none] } }:=I3.kept (t':=s3.toks) λb ob q=>bg _ q
 obtain⟨T,id,hT,ht,hg⟩:=hr pins { s3 with heap:=s3.heap.push { cls:=.type "slice",data:=.fields #[vl,vu,.none] } } σ H3 x v vl vu l u s3.heap.objs.size Q I4 r1 (Heap.IsSliceOf.new ..) pl pu q3
 show Bf (Bg X.prog X.w) X.A (subscriptTail e (.Slice lo hi ai p2) v (.ref s3.heap.objs.size)) (EP X pins σ Q) X.xe { s3 with heap:=s3.heap.push { cls:=.type "slice",data:=.fields #[vl,vu,.none] } }
 exact tail_any (ops:=[.ref s3.heap.objs.size,v]) ht hT hg (by with_unfolding_all rfl)
def jX(xs:List V)(lo hi:Option Int):List V:=(xs.drop (HT.sIx xs.length 0 lo)).take (HT.sIx xs.length xs.length hi-HT.sIx xs.length 0 lo)
theorem Ql(xs:List V)(lo hi:Option Int):(jX xs lo hi).length<=xs.length:=by
 unfold jX
 rw[cR,cK]
 lia
def zdh(K:bt):R2:=λx y H Q=>∃a b xs ys,x=.ref a/\y=.ref b/\SqT K H a xs/\SqT K H b ys/\xs≠[]/\xs.length+ys.length<=Bb /\
 (ys=[]->Q (.ref a) H)/\(ys≠[]->∀p,H p=ai->Q (.ref p) (upd H p (.tup (xs++ys))))
theorem Vals.nil_iff(r:Vals xs us):us=[]↔xs=[]:=by
 cases r with
 |nil=>simp
 |cons _ _=>simp
theorem zbA:OpR X (binaryOp .Add) (zdh X.K):=by
 intro pins s σ H x y v u Q I rx ry h
 obtain⟨a,b,xs,ys,rfl,rfl,ha,hb,hx,hz,q1,q2⟩:=h
 cases rx
 cases ry
 obtain⟨its,r1,p1,_⟩:=I.tuple ha
 obtain⟨its2,r2,p2,_⟩:=I.tuple hb
 refine HT.cat_tup p1 p2 (λz=>hx (r1.nil_iff.mp z)) (λz=>⟨.ref a,H,I,rfl,q1 (r2.nil_iff.mp z)⟩) (λz=>?_) (by rw[<-r1.length,<-r2.length];exact hz)
 refine⟨.ref s.heap.objs.size,_,I.laid (t':=s.toks) (o:=.tup (xs++ys)) (λb ob q=>bg _ q) (bi _) ?_,rfl,q2 (λw=>z (r2.nil_iff.mpr w)) _ (I.hok.fresh (bi _))⟩
 exact⟨by rw[bw];exact hz,_,r1.append r2,IsTup.new _ _⟩
end
def ixN(n:Nat)(i:Int):Option Nat:=if 0<=i then (if i<n then aa i.toNat else ai) else if -(n:Int)<=i then aa (i+n).toNat else ai
def atI{α:Type}(xs:List α)(i:Int):Option α:=(ixN xs.length i).bind λj=>xs[j]?
theorem zfd{i:Int}(h:ixN n i=aa j):seqIndex? i n=aa j/\j<n/\-(n:Int)<=i/\i<n:=by
 unfold ixN at h
 by_cases h0:0<=i
 ·rw[am h0] at h
  by_cases h1:i<n
  ·rw[am h1] at h
   have e:i.toNat=j:=bQ h
   exact⟨by rw[seqIndex_of h0 h1,e],by lia,by lia,h1⟩
  ·rw[aj h1] at h;cases h
 ·rw[aj h0] at h
  by_cases h1:-(n:Int)<=i
  ·rw[am h1] at h
   have e:(i+n).toNat=j:=bQ h
   exact⟨by rw[seqIndex_neg (by lia) h1,e],by lia,h1,by lia⟩
  ·rw[aj h1] at h;cases h
theorem J5{α:Type}{xs:List α}{i:Int}{v:α}(h:atI xs i=aa v):∃j,seqIndex? i xs.length=aa j/\xs[j]?=aa v/\j<xs.length/\-(xs.length:Int)<=i/\i<xs.length:=by
 unfold atI at h
 cases e:ixN xs.length i with
 |none=>rw[e] at h;cases h
 |some j =>
  rw[e] at h
  obtain⟨h1,h2,h3,h4⟩:=zfd e
  exact⟨j,h1,h,h2,h3,h4⟩
theorem yf{α:Type}{xs:List α}{j:Nat}{v:α}(h:xs[j]?=aa v):atI xs (j:Int)=aa v:=by
 have hj:j<xs.length:=(bf.mp h).1
 have e:ixN xs.length (j:Int)=aa j:=by
  unfold ixN
  rw[am (by lia),am (by lia)];simp
 unfold atI;rw[e];exact h
theorem atI_last{α:Type}(xs:List α)(v:α):atI (xs++[v]) (-1)=aa v:=by
 have hl:(xs++[v]).length=xs.length+1:=by simp
 have e:ixN (xs++[v]).length (-1)=aa xs.length:=by
  unfold ixN
  rw[hl,aj (by lia),am (by lia)]
  congr 1
  lia
 unfold atI
 rw[e]
 show (xs++[v])[xs.length]?=aa v
 simp
def zbB(b:ay):Prop:=∀o i,subscripted b ak o i=operate [o,i] (getItem o i)
def IxR(X:Cx)(r:R2):Prop :=
 ∀(value slice:ay) (pins:List (ac×Obj)) (s:ah) (σ:St) (H:Hp) (x y:V) (v u:ae) (Q:VK),Inv X pins σ H s->RelV x v->RelV y u->r x y H Q ->
  subscripted slice ak v u=operate [v,u] (getItem v u)->Bf (Bg X.prog X.w) X.A (subscriptTail value slice v u) (EP X pins σ Q) X.xe s
def MtR(X:Cx)(id:String)(r:V->List V->Hp->VK->Prop):Prop :=
 ∀(pins:List (ac×Obj)) (s:ah) (σ:St) (H:Hp) (x:V) (xs:List V) (v:ae) (us:List ae) (Q:VK),Inv X pins σ H s->RelV x v->Vals xs us->r x xs H Q ->
  Bf (Bg X.prog X.w) X.A (call (.builtin id) (v::us)) (EP X pins σ Q) X.xe s
section
variable {X:Cx}{a b:ay}{ta tb:TE}{pos:Pos}
theorem zht{r:R2}(hr:IxR X r)(ha:PE X a ta)(hb:PE X b tb)(hs:zbB b):PE X (.Subscript a b pos) (tOp r ta tb):=by
 intro pins s σ H Q I h
 exact Subscript_ (zgC ha hb I h λv u s2 x y H2 I2 rx ry q=>hr a b pins s2 σ H2 x y v u Q I2 rx ry q (hs _ _))
def yt(K:bt):R2:=λx y H Q=>∃p xs i v,x=.ref p/\y=.int i/\SqL K H p xs/\atI xs i=aa v/\Q v H
def yp(K:bt):R2:=λx y H Q=>∃p xs i v,x=.ref p/\y=.int i/\SqT K H p xs/\atI xs i=aa v/\Q v H
def zcq:R2:=λx y H Q=>∃z i c,x=.str z/\y=.int i/\z.length<=Bb/\atI z.cps.toList i=aa c/\Q (.str ⟨#[c]⟩) H
theorem zF:IxR X (yt X.K):=by
 intro value slice pins s σ H x y v u Q I rx ry h hs
 obtain⟨p,xs,i,z,rfl,rfl,hq,he,q⟩:=h
 cases rx
 obtain⟨t,rfl⟩:=ry
 obtain⟨its,r,pl,hz⟩:=I.list hq
 obtain⟨j,h1,h2,h3,h4,h5⟩:=J5 he
 obtain⟨w,ew,rw'⟩:=r.get h2
 have hl:=r.length
 have hn:=JY
 have fin:EP X pins σ Q w s:=⟨z,H,I,rw',q⟩
 by_cases h0:0<=i
 ·have hj:i.toNat=j:=by
   rw[seqIndex_of h0 h5] at h1
   exact bQ h1
  exact item_listR pl.isList h0 (by lia) (by rw[hj];simpa using ew) fin hs
 ·have hj:(i+(its.toArray.size:Int)).toNat=j:=by
   rw[seqIndex_neg (by lia) h4] at h1
   rw[bF,<-hl]
   exact bQ h1
  exact mK (x:=w) pl.isList.typeIs slot_list_getitem.lookup
   (wpAny_getItem_list_neg (Q:=λr s'=>r=w/\EP X pins σ Q r s') pl.isList (by lia) (by rw[bF] <;> lia) (by lia) (by rw[hj];simpa using ew) ⟨rfl,fin⟩) hs
theorem zS:IxR X (yp X.K):=by
 intro value slice pins s σ H x y v u Q I rx ry h hs
 obtain⟨p,xs,i,z,rfl,rfl,hq,he,q⟩:=h
 cases rx
 obtain⟨t,rfl⟩:=ry
 obtain⟨its,r,pl,hz⟩:=I.tuple hq
 obtain⟨j,h1,h2,h3,h4,h5⟩:=J5 he
 obtain⟨w,ew,rw'⟩:=r.get h2
 have hl:=r.length
 have hn:=JY
 have fin:EP X pins σ Q w s:=⟨z,H,I,rw',q⟩
 exact mK (x:=w) pl.typeIs slot_tuple_getitem.lookup
  (getItem_tuple (j:=j) (Q:=λr s'=>r=w/\EP X pins σ Q r s') pl (by lia) (by lia) (by rw[bF,<-hl];exact h1) (by simpa using ew) ⟨rfl,fin⟩) hs
theorem zaR:IxR X zcq:=by
 intro value slice pins s σ H x y v u Q I rx ry h hs
 obtain⟨z,i,c,rfl,rfl,hz,he,q⟩:=h
 obtain⟨t,rfl⟩:=rx
 obtain⟨t',rfl⟩:=ry
 obtain⟨j,h1,h2,h3,h4,h5⟩:=J5 he
 have hl:z.cps.toList.length=z.length:=by simp[ib]
 rw[hl] at h1 h4 h5
 have hn:=JY
 exact tail_any (nB s z t) slot_str_getitem.lookup (getItem_str (c:=c) (by
  have e1:decide (i < -(2^63:Int))=ak:=Bk (by lia)
  have e2:decide (i >= 2^63)=ak:=Bk (by lia)
  rw[e1,e2,Bool.or_false]) (by rw[h1];simpa using h2) ⟨.str ⟨#[c]⟩,H,I.tok _,⟨_,rfl⟩,q⟩) hs
theorem J6(lo hi:Option Int)(n:Nat):(sliceBounds lo hi ai n).1=((HT.sIx n 0 lo:Nat):Int)/\(sliceBounds lo hi ai n).2.1=((HT.sIx n n hi:Nat):Int)/\(sliceBounds lo hi ai n).2.2=1:=by
 refine⟨?_,?_,rfl⟩
 ·cases lo with
  |none=>simp[sliceBounds,HT.sIx]
  |some i =>
   simp only[sliceBounds,HT.sIx,oV,show (1:Int) > 0 by lia,if_true]
   by_cases h:i<0
   ·simp only[h,if_true] <;> lia
   ·simp only[h,if_false] <;> lia
 ·cases hi with
  |none=>simp[sliceBounds,HT.sIx]
  |some i =>
   simp only[sliceBounds,HT.sIx,oV,show (1:Int) > 0 by lia,if_true]
   by_cases h:i<0
   ·simp only[h,if_true] <;> lia
   ·simp only[h,if_false] <;> lia
theorem VE(its:List ae)(lo hi:Option Int):slicePick its.toArray lo hi ai=((its.drop (HT.sIx its.length 0 lo)).take (HT.sIx its.length its.length hi-HT.sIx its.length 0 lo)).toArray:=by
 obtain⟨h1,h2,h3⟩:=J6 lo hi its.toArray.size
 unfold slicePick
 rw[h1,h2,h3]
 simp only[sliceRange_one,pick_run,bF] <;> rfl
def VF(K:bt):V->Option Int->Option Int->Hp->VK->Prop:=λx lo hi H Q=>∃a xs,x=.ref a/\SqL K H a xs/\∀p,H p=ai->Q (.ref p) (upd H p (.lst (jX xs lo hi)))
theorem vB:SlR X (VF X.K):=by
 intro pins s σ H x v vl vu lo hi sl Q I rx hs pl pu h
 obtain⟨a,xs,rfl,hx,q⟩:=h
 cases rx
 obtain⟨its,r,ht,hz⟩:=I.list hx
 have hlen:=r.length
 refine⟨"list",_,slot_list_getitem.lookup,ht.isList.typeIs,?_⟩
 refine wpAny_getItem_list_slice ht.isList hs pl pu .none (by simp) ?_ (by rw[bF] <;> lia)
 rw[VE,<-hlen]
 refine⟨.ref s.heap.objs.size,_,I.laid (t':=s.toks) (o:=.lst (jX xs lo hi)) (λb ob q=>bg _ q) (bi _) ?_,rfl,q _ (I.hok.fresh (bi _))⟩
 exact⟨bK (Ql xs lo hi) hz,_,0,(r.drop (HT.sIx xs.length 0 lo)).take (HT.sIx xs.length xs.length hi-HT.sIx xs.length 0 lo),bH _ rfl⟩
def YG:V->Bool
 |.non=>af
 |.bl _=>af
 |.int _=>af
 |.str _=>af
 |_=>ak
def eqV:V->V->Bool
 |.non,.non=>af
 |.bl a,.bl b=>a==b
 |.bl a,.int b=>(if a then 1 else 0)==b
 |.int a,.bl b=>a==(if b then 1 else 0)
 |.int a,.int b=>a==b
 |.str a,.str b=>a==b
 |_,_=>ak
theorem zgE(ry:RelV y u)(rx:RelV x v)(fy:YG y=af)(fx:YG x=af):SeqAt.EqAt A s u v (eqV y x):=by
 cases y with
 |non =>
  cases ry
  cases x with
  |non=>cases rx;exact SeqAt.EqAt.same _
  |bl b=>cases rx;exact SeqAt.EqAt.none_bool b
  |int b=>obtain⟨t,rfl⟩:=rx;exact SeqAt.EqAt.none_int b t
  |str b=>obtain⟨t,rfl⟩:=rx;exact SeqAt.EqAt.none_str b t
  |_=>exact absurd (show ak=af from fx) bJ
 |bl a =>
  cases ry
  cases x with
  |non=>cases rx;exact SeqAt.EqAt.bool_none a
  |bl b=>cases rx;exact SeqAt.EqAt.bool_bool a b
  |int b=>obtain⟨t,rfl⟩:=rx;exact SeqAt.EqAt.bool_int a b t
  |str b=>obtain⟨t,rfl⟩:=rx;exact SeqAt.EqAt.bool_str a b t
  |_=>exact absurd (show ak=af from fx) bJ
 |int a =>
  obtain⟨t',rfl⟩:=ry
  cases x with
  |non=>cases rx;exact SeqAt.EqAt.int_none a t'
  |bl b=>cases rx;exact SeqAt.EqAt.int_bool a t' b
  |int b=>obtain⟨t,rfl⟩:=rx;exact lE a t' b t
  |str b=>obtain⟨t,rfl⟩:=rx;exact nW a t' b t
  |_=>exact absurd (show ak=af from fx) bJ
 |str a =>
  obtain⟨t',rfl⟩:=ry
  cases x with
  |non=>cases rx;exact SeqAt.EqAt.str_none a t'
  |bl b=>cases rx;exact SeqAt.EqAt.str_bool a t' b
  |int b=>obtain⟨t,rfl⟩:=rx;exact nX a t' b t
  |str b=>obtain⟨t,rfl⟩:=rx;exact lF a t' b t
  |_=>exact absurd (show ak=af from fx) bJ
 |_=>exact absurd (show ak=af from fy) bJ
def eqU(x:V)(u:ae):Bool:=match u with
 |.none=>eqV .non x
 |.bool b=>eqV (.bl b) x
 |.int i _=>eqV (.int i) x
 |.str z _=>eqV (.str z) x
 |_=>ak
theorem zdi(r:RelV y u)(f:YG y=af):eqU x u=eqV y x:=by
 cases y with
 |non=>cases r;rfl
 |bl b=>cases r;rfl
 |int i=>obtain⟨t,rfl⟩:=r;rfl
 |str z=>obtain⟨t,rfl⟩:=r;rfl
 |_=>exact absurd (show ak=af from f) bJ
theorem J7{x:V}:∀ {xs:List V} {us:List ae},Vals xs us->xs.all YG=af->us.any (eqU x)=xs.any λy=>eqV y x
 |_,_,.nil,_=>rfl
 |y::xs,u::us,.cons r t,f=>by
  rw[fB,b5] at f
  rw[iP,iP,zdi r f.1,J7 t f.2]
theorem WM{A:aw}{s:ah}{x:V}{v:ae}(rx:RelV x v)(fx:YG x=af):∀ {xs:List V} {us:List ae},Vals xs us->xs.all YG=af->∀u∈us,SeqAt.EqAt A s u v (eqU x u)
 |_,_,.nil,_=>λu hu=>by cases hu
 |y::xs,u::us,.cons r t,f=>λu' hu=>by
  rw[fB,b5] at f
  rcases bD.mp hu with rfl|hu
  ·rw[zdi r f.1];exact zgE r rx f.1 fx
  ·exact WM rx fx t f.2 u' hu
def inV(x:V)(xs:List V):Bool:=xs.any λy=>eqV y x
def rIn(K:bt)(neg:Bool):R2:=λx y H Q=>∃p xs,y=.ref p/\(SqL K H p xs\/SqT K H p xs)/\YG x=af/\xs.all YG=af/\Q (.bl (if neg then !inV x xs else inV x xs)) H
theorem Xj:OpR X (Bi .In) (rIn X.K ak):=by
 intro pins s σ H x y v u Q I rx ry h
 obtain⟨p,xs,rfl,hq,fx,fs,q⟩:=h
 cases ry
 rcases hq with hq|hq
 ·obtain⟨its,r,pl,hz⟩:=I.list hq
  refine SeqAt.in_listAt (eqU x) pl.isList (λw hw=>WM rx fx r fs w (by simpa using hw)) ⟨.bl _,H,I,rfl,?_⟩
  rw[show its.toArray.any (eqU x)=its.any (eqU x) by simp,J7 r fs]
  exact q
 ·obtain⟨its,r,pl,hz⟩:=I.tuple hq
  refine SeqAt.in_tupleAt (eqU x) pl (λw hw=>WM rx fx r fs w (by simpa using hw)) ⟨.bl _,H,I,rfl,?_⟩
  rw[show its.toArray.any (eqU x)=its.any (eqU x) by simp,J7 r fs]
  exact q
theorem xu:jW X (.type "list") (λxs H Q=>∃p ys,xs=[.ref p]/\(SqL X.K H p ys\/SqT X.K H p ys)/\∀l,H l=ai->Q (.ref l) (upd H l (.lst ys))):=by
 intro pins s σ H xs us Q I r h
 obtain⟨p,ys,rfl,hq,q⟩:=h
 obtain⟨u,rfl,rx⟩:=qt r
 cases rx
 have fin:∀(its:List ae),Vals ys its->ys.length<=Bb->∀(h':av) (c':Nat),(∀b o',s.heap.get? b=aa o'->h'.get? b=aa o') ->
   h'.get? s.heap.objs.size=aa { cls:=.type "list",dict:=ai,data:=.seq its.toArray c',slots:=#[] }->EP X pins σ Q (.ref s.heap.objs.size) { s with heap:=h' }:=λits r' hz h' c' kp e =>
  ⟨.ref s.heap.objs.size,_,I.laid (t':=s.toks) kp (bi _) (show ObjOk X.prog X.w _ h' _ (.lst ys) from ⟨hz,its,c',r',e⟩),rfl,q _ (I.hok.fresh (bi _))⟩
 rcases hq with hq|hq
 ·obtain⟨its,r',pl,hz⟩:=I.list hq
  have hlen:=r'.length
  obtain⟨o,ho,hc,n,hd⟩:=pl.isList
  exact call_list_seq p (.inl rfl) ho hc hd (λh' c' kp e=>fin its r' hz h' c' kp e) (by simp only[bF] <;> lia)
 ·obtain⟨its,r',pl,hz⟩:=I.tuple hq
  have hlen:=r'.length
  obtain⟨o,ho,hc,n,hd⟩:=pl
  exact call_list_seq p (.inr rfl) ho hc hd (λh' c' kp e=>fin its r' hz h' c' kp e) (by simp only[bF] <;> lia)
theorem VG:jW X (.type "tuple") (λxs H Q=>∃p ys,xs=[.ref p]/\((SqL X.K H p ys/\∀l,H l=ai->Q (.ref l) (upd H l (.tup ys)))\/(SqT X.K H p ys/\Q (.ref p) H))):=by
 intro pins s σ H xs us Q I r h
 obtain⟨p,ys,rfl,h⟩:=h
 obtain⟨u,rfl,rx⟩:=qt r
 cases rx
 rcases h with ⟨hq,q⟩|⟨hq,q⟩
 ·obtain⟨its,r',pl,hz⟩:=I.list hq
  have hlen:=r'.length
  refine call_tuple_list pl.isList (λh' kp=>?_) (by simp only[bF] <;> lia)
  have I1:Inv X pins σ H { s with heap:=h' }:=I.kept (t':=s.toks) kp
  have I2:Inv X pins σ (upd H h'.objs.size (.tup ys)) { s with heap:=h'.push { cls:=.type "tuple",data:=.seq its.toArray } } :=
   I1.laid (t':=s.toks) (λb o e=>bg _ e) (bi _) (show ObjOk X.prog X.w _ _ _ (.tup ys) from ⟨hz,its,r',IsTup.new _ _⟩)
  exact⟨.ref h'.objs.size,_,I2,rfl,q _ (I1.hok.fresh (bi _))⟩
 ·obtain⟨its,r',pl,hz⟩:=I.tuple hq
  exact call_tuple_same pl ⟨.ref p,H,I,rfl,q⟩
def tyV(K:bt)(T:String)(x:V)(H:Hp):Prop:=match x with
 |.str _=>T="str"
 |.int _=>T="int"
 |.ref p=>(T="list"/\∃xs,SqL K H p xs)\/(T="tuple"/\∃o,K.lookup p=aa o/\o.cls=.type "tuple"/\o.dict=ai) \/
   (T="dict"/\((∃kvs,H p=aa (.dK kvs))\/∃kvs,H p=aa (.dT kvs)))\/(T="set"/\∃S n,H p=aa (.set S n))
 |_=>False
theorem zdj{σ:St}{H:Hp}{s:ah}{T:String}{x:V}{v:ae}(I:Inv X pins σ H s)(r:RelV x v)(ty:tyV X.K T x H) :
  s.TypeIs v T/\∀a,v=.ref a->∃ob,s.heap.get? a=aa ob/\ob.dict=ai:=by
 cases x with
 |str z =>
  obtain⟨t,rfl⟩:=r
  cases (show T="str" from ty)
  exact⟨nB s z t,λ_ e=>nomatch e⟩
 |int i =>
  obtain⟨t,rfl⟩:=r
  cases (show T="int" from ty)
  exact⟨typeIs_int s i t,λ_ e=>nomatch e⟩
 |ref p =>
  cases r
  rcases ty with ⟨rfl,xs,hq⟩|⟨rfl,o,hk,hc,hd⟩|⟨rfl,hk⟩|⟨rfl,S,n,hk⟩
  ·obtain⟨its,_,pl,_⟩:=I.list hq
   refine⟨pl.isList.typeIs,λa e=>?_⟩
   cases e
   obtain⟨o,n,e,c,hd,_⟩:=pl
   exact⟨o,e,hd⟩
  ·refine⟨⟨o,I.kIn p o hk,hc⟩,λa e=>?_⟩
   cases e
   exact⟨o,I.kIn _ o hk,hd⟩
  ·have z:∃o,s.heap.get? p=aa o/\o.ExactDict:=by
    rcases hk with ⟨kvs,hk⟩|⟨kvs,hk⟩
    ·obtain⟨_,_,_,_,o,_,_,e,ex,_⟩:=I.hok p _ hk
     exact⟨o,e,ex⟩
    ·obtain⟨_,_,_,_,o,_,_,e,ex,_⟩:=I.hok p _ hk
     exact⟨o,e,ex⟩
   obtain⟨o,e,ex⟩:=z
   refine⟨⟨o,e,ex.1⟩,λa e2=>?_⟩
   cases e2
   exact⟨o,e,ex.2.1⟩
  ·obtain⟨o,_,_,_,e,ex,_⟩:=I.hok p _ hk
   refine⟨⟨o,e,ex.1⟩,λa e2=>?_⟩
   cases e2
   exact⟨o,e,ex.2.1⟩
 |_=>exact cY ty
def zcr(K:bt)(T:String)(r:V->List V->Hp->VK->Prop)(to:TE):TE:=λσ H Q=>to σ H λx H1=>tyV K T x H1/\r x [] H1 Q
def tBM(K:bt)(T:String)(r:V->List V->Hp->VK->Prop)(to:TE)(t:TA):TE:=λσ H Q=>to σ H λx H1=>tyV K T x H1/\t σ H1 λxs H2=>r x xs H2 Q
variable {o e:ay}{es:List ay}{to:TE}{t:TA}{name:Str}{apos cpos:Pos}{T id:String}{r:V->List V->Hp->VK->Prop}
theorem zaS(pa:PlainAttrs T)(slot:Slot T name id)(hty:typeOf (.builtin id)=pure (.type "method_descriptor"))(hm:MtR X id r)(ho:PE X o to)
  (hbase:attributeBase o name X.env (eval o X.env)=eval o X.env:=by rfl) (hline:(apos.endLine==cpos.line)=af:=by rfl):PE X (.Call (.Attribute o name apos) [] [] cpos) (zcr X.K T r to):=by
 intro pins s σ H Q I h
 refine mf hbase hline (thn (ho pins s σ H _ I h) λv s1 ⟨x,H1,I1,r1,ty,q1⟩=>?_)
 obtain⟨h1,h2⟩:=zdj I1 r1 ty
 exact⟨T,id,pa,slot,hty,h1,h2,c8 rfl (nO (hm pins s1 σ H1 x [] v [] Q I1 r1 .nil q1))⟩
theorem wA(pa:PlainAttrs T)(slot:Slot T name id)(hty:typeOf (.builtin id)=pure (.type "method_descriptor"))(hm:MtR X id r)(ho:PE X o to)(ha:PA X (e::es) t)
  (hbase:attributeBase o name X.env (eval o X.env)=eval o X.env:=by rfl)
  (hfew:((backTo cpos (Be (e::es) X.env)).all (λx=>!x.1)&&(backToKw cpos (keywordEach [] X.env)).all (λx=>x.1.isSome)
   && decide ((e::es).length+([]:List Keyword).length+(if ([]:List Keyword).isEmpty then 0 else 1)<30))=af:=by rfl)
  (hline:(apos.endLine==cpos.line)=af:=by rfl) (hs:Be (e::es) X.env=(ak,eval e X.env)::Be es X.env:=by rfl) (hplain:(backTo cpos (Be es X.env)).any (·.1)=ak:=by rfl) :
  PE X (.Call (.Attribute o name apos) (e::es) [] cpos) (tBM X.K T r to t):=by
 intro pins s σ H Q I h
 refine wpAny_Call_method_late hbase hfew hline rfl (thn (ho pins s σ H _ I h) λv s1 ⟨x,H1,I1,r1,ty,q1⟩=>?_)
 obtain⟨h1,h2⟩:=zdj I1 r1 ty
 refine⟨T,id,pa,slot,hty,h1,h2,?_⟩
 have hA:=ha cpos pins s1 σ H1 _ I1 q1
 rw[hs] at hA ⊢
 refine c8 (by show (ak || (backTo cpos (Be es X.env)).any (·.1))=ak;rw[hplain] <;> rfl) (dO ?_)
 exact thn hA λus s2 ⟨vs,H2,I2,r2,q2⟩=>hm pins s2 σ H2 x vs v us Q I2 r1 r2 q2
end
def MtM(X:Cx)(id:String)(r:V->List V->Hp->VK->Prop):Prop :=
 ∀(pins:List (ac×Obj)) (s:ah) (σ:St) (H:Hp) (x:V) (xs:List V) (v:ae) (us:List ae) (Q:VK),Inv X pins σ H s->RelV x v->Vals xs us->r x xs H Q ->
  Bf (Bg X.prog X.w) X.A (call (.builtin id) (v::us)) (EP X pins σ Q) X.xe s
theorem Vals.one:∀ {x:V} {us:List ae},Vals [x] us->∃u,us=[u]/\RelV x u
 |_,_,.cons r .nil=>⟨_,rfl,r⟩
theorem Vals.zero:∀ {us:List ae},Vals [] us->us=[]
 |_,.nil=>rfl
theorem Vals.dropLast(h:Vals xs us):Vals xs.dropLast us.dropLast:=by
 induction h with
 |nil=>exact .nil
 |cons r t ih =>
  cases t with
  |nil=>exact .nil
  |cons q t'=>exact .cons r ih
theorem Vals.eraseIdx:∀ {xs:List V} {us:List ae} (i:Nat),Vals xs us->Vals (xs.eraseIdx i) (us.eraseIdx i)
 |_,_,_,.nil=>.nil
 |_,_,0,.cons _ t=>t
 |_,_,i+1,.cons r t=>.cons r (Vals.eraseIdx i t)
theorem zaT{α:Type}(l:List α):l.eraseIdx (l.length-1)=l.dropLast:=by
 induction l with
 |nil=>rfl
 |cons a r ih =>
  cases r with
  |nil=>rfl
  |cons b r =>
   have e:(a::b::r).length-1=((b::r).length-1)+1:=by
    have h1:(a::b::r).length=r.length+2:=rfl
    have h2:(b::r).length=r.length+1:=rfl
    lia
   rw[e,gN,ih]
   all_goals rfl
theorem Jh{α:Type}:∀(l:List α) (i:Nat),(l.eraseIdx i).length<=l.length
 |[],_=>bi _
 |_::_,0=>pA _
 |_::r,i+1=>eA (Jh r i)
section
variable {X:Cx}{pins:List (ac×Obj)}{σ:St}{H:Hp}{s:ah}{l b:ac}{xs ys zs:List V}
theorem Inv.lset{its its':List ae}{n:Nat}{f:Array ae->Array ae}(I:Inv X pins σ H s)(hH:H l=aa (.lst xs))
  (e:s.heap.get? l=aa { cls:=.type "list",data:=.seq its.toArray n }) (hf:f its.toArray=its'.toArray) (hv:Vals ys its') (hz:ys.length<=Bb) :
  Inv X pins σ (upd H l (.lst ys)) { s with heap:=s.heap.update l (du f),toks:=t' }:=by
 have q:=PySem.IsL.update e f
 rw[hf] at q
 refine I.write (x:=l) (e:=l) (by rw[hH];exact trivial) (.inl rfl) (λb' u hb hu=>(dP s.heap (du f) (eL hb)).trans hu) ⟨_,q⟩ ?_
 exact⟨hz,its',_,hv,q⟩
theorem Inv.lnew(I:Inv X pins σ H s)(hv:Vals ys its)(hz:ys.length<=Bb) :
  Inv X pins σ (upd H s.heap.objs.size (.lst ys)) { s with heap:=s.heap.push { cls:=.type "list",data:=.seq its.toArray },toks:=t' }:=
 I.laid (λ_ _ q=>bg _ q) (bi _) ⟨hz,its,0,hv,bH _ rfl⟩
theorem Inv.fresh(I:Inv X pins σ H s):H s.heap.objs.size=ai:=I.hok.fresh (bi _)
theorem Inv.lstM(I:Inv X pins σ H s)(hH:H l=aa (.lst xs)):xs.length<=Bb/\∃(its:List ae) (n:Nat),Vals xs its/\xs.length=its.length/\s.heap.get? l=aa { cls:=.type "list",data:=.seq its.toArray n }:=by
 obtain⟨z,its,n,r,e⟩:=I.hok l _ hH
 exact⟨z,its,n,r,r.length,e⟩
theorem zdk(h:n<=Bb):gK n=ak:=by
 unfold gK
 exact Bk (by lia)
end
section
variable {X:Cx}
def WA:V->List V->Hp->VK->Prop:=λx vs H Q=>∃l xs y,x=.ref l/\vs=[y]/\H l=aa (.lst xs)/\xs.length<Bb/\Q .non (upd H l (.lst (xs++[y])))
theorem yM:MtM X "list.append" WA:=by
 intro pins s σ H x vs v us Q I rx rv h
 obtain⟨l,xs,y,rfl,rfl,hH,hz,q⟩:=h
 cases rx
 obtain⟨u,rfl,ru⟩:=rv.one
 obtain⟨z,its,n,r,hl,e⟩:=I.lstM hH
 refine ic F.slot_list_append ⟨_,e,rfl⟩ F.entry_list_append (F.args_list_append_2 _ _) (PySem.list_append l its.toArray n u (by rw[bF];lia)) ⟨e,?_⟩
 refine⟨.non,_,I.lset (its':=its++[u]) hH e (by simp) (r.append (.cons ru .nil)) ?_,rfl,q⟩
 rw[bw,eV]
 lia
def zbC:V->List V->Hp->VK->Prop:=λx vs H Q=>∃l b xs zs,x=.ref l/\vs=[.ref b]/\H l=aa (.lst xs)/\H b=aa (.lst zs)/\xs.length+zs.length<=Bb/\Q .non (upd H l (.lst (xs++zs)))
theorem zcs:MtM X "list.extend" zbC:=by
 intro pins s σ H x vs v us Q I rx rv h
 obtain⟨l,b,xs,zs,rfl,rfl,hH,hB,hz,q⟩:=h
 cases rx
 obtain⟨u,rfl,ru⟩:=rv.one
 cases ru
 obtain⟨z,its,n,r,hl,e⟩:=I.lstM hH
 obtain⟨z2,its2,n2,r2,hl2,e2⟩:=I.lstM hB
 have hsz:its.toArray.size+its2.toArray.size<=Bb:=by rw[bF,bF];lia
 have hlong:¬ (!its.toArray.isEmpty&&gK (its.toArray.size+its2.toArray.size))=af:=by
  rw[zdk hsz,Bool.and_false]
  exact bJ
 refine ic F.slot_list_extend ⟨_,e,rfl⟩ F.entry_list_extend (F.args_list_extend_2 _ _)
  (AutoSeq1.list_extend_list_list_0 l its.toArray n b its2.toArray n2 hlong (by rw[bF];lia) (by lia)) ⟨e,e2,?_⟩
 refine⟨.non,_,I.lset (its':=its++its2) hH e (by simp) (r.append r2) ?_,rfl,q⟩
 rw[bw]
 lia
def zfe:V->List V->Hp->VK->Prop:=λx vs H Q=>∃l xs y,x=.ref l/\vs=[]/\H l=aa (.lst xs)/\xs[xs.length-1]?=aa y/\Q y (upd H l (.lst xs.dropLast))
theorem zaU:MtM X "list.pop" zfe:=by
 intro pins s σ H x vs v us Q I rx rv h
 obtain⟨l,xs,y,rfl,rfl,hH,hy,q⟩:=h
 cases rx
 have hus:=rv.zero
 subst hus
 obtain⟨z,its,n,r,hl,e⟩:=I.lstM hH
 obtain⟨u,hu,ru⟩:=r.get hy
 have hy':its.toArray[its.toArray.size-1]?=aa u:=by
  show its.toArray[its.length-1]?=aa u
  rw[<-cL,<-hl]
  exact hu
 refine ic F.slot_list_pop ⟨_,e,rfl⟩ F.entry_list_pop (F.args_list_pop_1 _) (MeetsSeq.list_pop_last l its.toArray n u hy' (by rw[bF];lia)) ⟨e,?_⟩
 refine⟨y,_,I.lset (its':=its.dropLast) hH e ?_ r.dropLast ?_,ru,q⟩
 ·show its.toArray.eraseIdxIfInBounds (its.toArray.size-1)=its.dropLast.toArray
  rw[bF,ie,zaT]
 ·rw[List.length_dropLast]
  lia
def WN:R2:=λx y H Q=>∃l b xs zs,x=.ref l/\y=.ref b/\H l=aa (.lst xs)/\H b=aa (.lst zs)/\xs.length+zs.length<=Bb/\∀p,H p=ai->Q (.ref p) (upd H p (.lst (xs++zs)))
theorem kI:OpR X (binaryOp .Add) WN:=by
 intro pins s σ H x y v u Q I rx ry h
 obtain⟨l,b,xs,zs,rfl,rfl,hH,hB,hz,q⟩:=h
 cases rx
 cases ry
 obtain⟨z,its,n,r,hl,e⟩:=I.lstM hH
 obtain⟨z2,its2,n2,r2,hl2,e2⟩:=I.lstM hB
 refine PySem.P.add_list e e2 ?_ (by rw[bF,bF];lia)
 have ea:its.toArray++its2.toArray=(its++its2).toArray:=by simp
 rw[ea]
 exact⟨.ref _,_,I.lnew (t':=s.toks) (r.append r2) (by rw[bw];lia),rfl,q _ I.fresh⟩
end
section
variable {prog:aq}{w:au}{A:aw}{E:ae->ah->Prop}{s:ah}
set_option maxRecDepth 100000 in
end
section
variable {κ:Type} [DecidableEq κ]
def z4(kvs:List (κ×V))(k:κ):Option V:=(kvs.find? λkv=>decide (kv.1=k)).map (·.2)
def yA(kvs:List (κ×V))(k:κ)(v:V):List (κ×V) :=
 if (kvs.any λkv=>decide (kv.1=k))=af then kvs.map (λkv=>if kv.1=k then (kv.1,v) else kv) else kvs++[(k,v)]
def ye(kvs:List (κ×V))(k:κ):List (κ×V):=kvs.filter λkv=>decide (kv.1≠k)
theorem Qm :z4 ([]:List (κ×V)) k=ai:=rfl
theorem yG{p:κ×V}{r:List (κ×V)}(e:p.1=k):z4 (p::r) k=aa p.2:=by simp[z4,fS,e]
theorem yH{p:κ×V}{r:List (κ×V)}(e:¬ p.1=k):z4 (p::r) k=z4 r k:=by simp[z4,fS,e]
theorem wU(k:κ):∀kvs:List (κ×V),(kvs.any λkv=>decide (kv.1=k))=(z4 kvs k).isSome
 |[]=>rfl
 |p::r=>by
  rw[iP]
  by_cases e:p.1=k
  ·simp only[yG e,Bj e,Bool.true_or,Option.isSome_some]
  ·rw[yH e,Bk e,Bool.false_or];exact wU k r
theorem Qn(k j:κ)(y:V):∀kvs:List (κ×V),z4 (kvs.map λkv=>if kv.1=k then (kv.1,y) else kv) j=(z4 kvs j).map λx=>if j=k then y else x
 |[]=>rfl
 |p::r=>by
  have ih:=Qn k j y r
  rw[bo]
  by_cases h:p.1=k
  ·rw[am h]
   by_cases e:p.1=j
   ·rw[yG (p:=(p.1,y)) e,yG e,iW,am (e.symm.trans h)]
   ·rw[yH (p:=(p.1,y)) e,yH e,ih]
  ·rw[aj h]
   by_cases e:p.1=j
   ·rw[yG (p:=p) e,yG e,iW,aj (λz=>h (e.trans z))]
   ·rw[yH (p:=p) e,yH e,ih]
theorem Ji(k j:κ)(y:V):∀kvs:List (κ×V),z4 kvs k=ai->z4 (kvs++[(k,y)]) j=if j=k then aa y else z4 kvs j
 |[],_=>by
  by_cases e:k=j
  ·rw[am e.symm];exact yG (p:=(k,y)) e
  ·rw[aj (λz=>e z.symm)];exact yH (p:=(k,y)) e
 |p::r,hn=>by
  rw[cE]
  have hk:¬ p.1=k:=λz=>by rw[yG z] at hn;cases hn
  rw[yH hk] at hn
  have ih:=Ji k j y r hn
  by_cases e:p.1=j
  ·rw[yG e,yG e,aj (λz=>hk (e.trans z))]
  ·rw[yH e,yH e,ih]
theorem WO(kvs:List (κ×V))(k j:κ)(y:V):z4 (yA kvs k y) j=if j=k then aa y else z4 kvs j:=by
 unfold yA
 by_cases a:(kvs.any λkv=>decide (kv.1=k))=af
 ·rw[am a,Qn]
  rw[wU] at a
  by_cases e:j=k
  ·obtain⟨x,hx⟩:=fm.mp a
   rw[am e,e,hx,iW,am rfl]
  ·rw[aj e]
   cases z4 kvs j with
   |none=>rfl
   |some x=>rw[iW,aj e]
 ·rw[aj a]
  refine Ji k j y kvs ?_
  rw[wU] at a
  cases q:z4 kvs k with
  |none=>rfl
  |some x=>rw[q] at a;exact(a rfl).elim
theorem xS(kvs:List (κ×V))(k:κ)(v:V):(yA kvs k v).length<=kvs.length+1:=by
 unfold yA
 split
 ·rw[bd];lia
 ·rw[bw,bR,mX];lia
theorem vQ{kvs:List (κ×V)}(v:V)(h:z4 kvs k=ai):yA kvs k v=kvs++[(k,v)]:=by
 unfold yA
 rw[wU,h]
 exact aj (by lia)
theorem RelO.isSome_eq(r:RelO o u):o.isSome=u.isSome:=by
 cases o with
 |none=>cases u with
  |none=>rfl
  |some _=>exact(show False from r).elim
 |some _=>cases u with
  |none=>exact(show False from r).elim
  |some _=>rfl
theorem RelO.getD(r:RelO o u)(rd:RelV d d'):RelV (o.getD d) (u.getD d'):=by
 cases o with
 |none=>cases u with
  |none=>exact rd
  |some _=>exact(show False from r).elim
 |some _=>cases u with
  |none=>exact(show False from r).elim
  |some _=>exact r
theorem KV.val(r:KV kvs vs)(k:κ):RelO (z4 kvs k) (valueAt vs k):=by
 unfold KV at r
 induction r with
 |nil=>exact eu
 |@cons p q ps qs h t ih =>
  obtain⟨h1,h2⟩:=h
  by_cases e:p.1=k
  ·have e':q.1=k:=h1.symm.trans e
   have b:valueAt (q::qs) k=aa q.2:=by simp[valueAt,fS,e']
   rw[yG e,b];exact h2
  ·have e':¬ q.1=k:=λz=>e (h1.trans z)
   have b:valueAt (q::qs) k=valueAt qs k:=by simp[valueAt,fS,e']
   rw[yH e,b];exact ih
theorem KV.any(r:KV kvs vs)(k:κ):(kvs.any λkv=>decide (kv.1=k))=vs.any λkv=>decide (kv.1=k):=by
 unfold KV at r
 induction r with
 |nil=>rfl
 |cons h t ih=>rw[iP,iP,ih,h.1]
theorem KV.repl(r:KV kvs vs)(k:κ)(ry:RelV y u) :
  KV (kvs.map λkv=>if kv.1=k then (kv.1,y) else kv) (vs.map λkv=>if kv.1=k then (kv.1,u) else kv):=by
 unfold KV at r ⊢
 induction r with
 |nil=>exact .nil
 |@cons p q ps qs h t ih =>
  rw[bo,bo]
  refine .cons ?_ ih
  obtain⟨h1,h2⟩:=h
  by_cases e:p.1=k
  ·rw[am e,am (h1.symm.trans e)];exact⟨h1,ry⟩
  ·rw[aj e,aj (λz=>e (h1.trans z))];exact⟨h1,h2⟩
theorem KV.put(r:KV kvs vs)(k:κ)(ry:RelV y u):KV (yA kvs k y) (stored vs k u):=by
 unfold yA stored
 rw[r.any k]
 by_cases e:(vs.any λkv=>decide (kv.1=k))=af
 ·rw[am e,am e];exact r.repl k ry
 ·rw[aj e,aj e];exact Paired.snoc r ⟨rfl,ry⟩
theorem KV.drop(r:KV kvs vs)(k:κ):KV (ye kvs k) (without vs k):=by
 unfold KV at r ⊢
 unfold ye without
 induction r with
 |nil=>exact .nil
 |@cons p q ps qs h t ih =>
  obtain⟨h1,h2⟩:=h
  rw[dh,dh]
  by_cases e:p.1=k
  ·have a:¬ decide (p.1≠k)=af:=by simp[e]
   have b:¬ decide (q.1≠k)=af:=by simp[h1.symm.trans e]
   rw[aj a,aj b];exact ih
  ·have e':¬ q.1=k:=λz=>e (h1.trans z)
   have a:decide (p.1≠k)=af:=by simp[e]
   have b:decide (q.1≠k)=af:=by simp[e']
   rw[am a,am b];exact .cons ⟨h1,h2⟩ ih
theorem KV.length{vs:List (κ×ae)}(r:KV kvs vs):kvs.length=vs.length:=bL r
theorem Qo(kvs:List (κ×V))(k:κ):(ye kvs k).length<=kvs.length:=mY _ _
end
theorem XW(r:RelV (kV k) u):(yk P w).is k u=af:=by
 cases k with
 |inl i=>obtain⟨t,e⟩:=(show ∃t,u=fi i t from r);subst e;exact Qb P w i t
 |inr x=>obtain⟨t,e⟩:=(show ∃t,u=gM x t from r);subst e;exact Qc P w x t
theorem Xk{P:aq}{w:au}:∀ {ks:List Key} {us:List ae},Vals (ks.map kV) us->ItemsAre (yk P w) ks us
 |[],_,r=>by rw[lB] at r;cases r;exact .nil
 |k::ks,_,r=>by
  rw[bo] at r
  cases r with
  |cons h t=>exact .cons (XW h) (Xk t)
abbrev KT(H:Hp):List (List Key×V)->List (List Key×ac×ae)->Prop:=Paired λp q=>p.1=q.1/\H q.2.1=aa (.tup (p.1.map kV))/\RelV p.2 q.2.2
theorem KT.val{H:Hp}{kvs:List (List Key×V)}{xs:List (List Key×ac×ae)}(r:KT H kvs xs)(k:List Key):RelO (z4 kvs k) ((atKey xs k).map (·.2)):=by
 induction r with
 |nil=>exact eu
 |@cons p q ps qs h t ih =>
  obtain⟨h1,_,h2⟩:=h
  by_cases e:p.1=k
  ·have e':q.1=k:=h1.symm.trans e
   have b:atKey (q::qs) k=aa q.2:=by simp[atKey,fS,e']
   rw[yG e,b];exact h2
  ·have e':¬ q.1=k:=λz=>e (h1.trans z)
   have b:atKey (q::qs) k=atKey qs k:=by simp[atKey,fS,e']
   rw[yH e,b];exact ih
theorem KT.repl{H:Hp}(r:KT H kvs xs)(k:List Key)(ry:RelV y u) :
  KT H (kvs.map λkv=>if kv.1=k then (kv.1,y) else kv) (xs.map (putAt k u)):=by
 induction r with
 |nil=>exact .nil
 |@cons p q ps qs h t ih =>
  rw[bo,bo]
  refine .cons ?_ ih
  obtain⟨h1,h2,h3⟩:=h
  unfold putAt
  by_cases e:p.1=k
  ·rw[am e,am (h1.symm.trans e)];exact⟨h1,h2,ry⟩
  ·rw[aj e,aj (λz=>e (h1.trans z))];exact⟨h1,h2,h3⟩
theorem KT.put{H:Hp}(r:KT H kvs xs)(k:List Key)(hb:H b=aa (.tup (k.map kV)))(ry:RelV y u) :
  KT H (yA kvs k y) (storedH xs k b u):=by
 have e:(kvs.any λkv=>decide (kv.1=k))=(atKey xs k).isSome:=by
  rw[wU,(r.val k).isSome_eq,lN]
 unfold yA storedH
 rw[e]
 by_cases q:(atKey xs k).isSome=af
 ·rw[am q,am q];exact r.repl k ry
 ·rw[aj q,aj q];exact Paired.snoc r ⟨rfl,hb,ry⟩
theorem KT.keeps{H H':Hp}(r:KT H kvs xs)(ht:∀b ys,H b=aa (.tup ys)->H' b=aa (.tup ys)):KT H' kvs xs:=
 Paired.mapP r λ_ _ z=>⟨z.1,ht _ _ z.2.1,z.2.2⟩
section
variable {P:aq}{w:au}{H:Hp}{h:av}{a:ac}
theorem zgb(ok:HOk P w H h)(e:Rd H a u):ObjOk P w H h a u:=e.ok ok
theorem WP(ok:HOk P w H h)(e:Rd H a (.dK kvs)):kvs.length<=Bb/\(a==sysModules)=ak/\∃vs,KV kvs vs/\h.DictOf (yk P w) a vs:=
 show ObjOk P w H h a (.dK kvs) from zgb ok e
theorem zdl(ok:HOk P w H h)(e:H a=aa (.dK kvs)):kvs.length<=Bb/\(a==sysModules)=ak/\∃vs,KV kvs vs/\h.DictOf (yk P w) a vs:=WP ok (.inl e)
theorem kJ(ok:HOk P w H h)(e:H a=aa (.tup (ks.map kV))):(tupleKind (yk P w)).is h ks a:=by
 obtain⟨_,its,r,o,h1,h2,n,h3⟩:=(show ObjOk P w H h a (.tup (ks.map kV)) from ok a _ e)
 exact⟨o,its.toArray,n,h1,h2,h3,by simpa using Xk r⟩
theorem WQ(ok:HOk P w H h)(e:Rd H a (.dT kvs)):kvs.length<=Bb/\(a==sysModules)=ak /\
  ∃xs,KT H kvs xs/\h.DictOfH (tupleKind (yk P w)) a xs:=by
 obtain⟨z,y,xs,r,o,es,ep,h1,h2,h3,h4,h5⟩:=(show ObjOk P w H h a (.dT kvs) from zgb ok e)
 refine⟨z,y,xs,r,o,es,ep,h1,h2,h3,h4,λx hx=>?_,h5⟩
 have all:∀ {l:List (List Key×V)} {m:List (List Key×ac×ae)},KT H l m->∀x∈m,(tupleKind (yk P w)).is h x.1 x.2.1:=by
  intro l m q
  induction q with
  |nil=>intro x hx;exact nomatch hx
  |@cons p q ps qs hq t ih =>
   intro x hx
   rcases bD.mp hx with e|hx
   ·subst e
    exact kJ ok (by rw[<-hq.1];exact hq.2.1)
   ·exact ih x hx
 exact all r x hx
theorem Qp(ok:HOk P w H h)(e:H a=aa (.dT kvs)):kvs.length<=Bb/\(a==sysModules)=ak /\
  ∃xs,KT H kvs xs/\h.DictOfH (tupleKind (yk P w)) a xs:=WQ ok (.inl e)
end
def DGet(H:Hp)(a:ac)(y:V)(r:Option V):Prop :=
 (∃kvs k,Rd H a (.dK kvs)/\y=kV k/\r=z4 kvs k)\/∃kvs k b,Rd H a (.dT kvs)/\y=.ref b/\H b=aa (.tup (k.map kV))/\r=z4 kvs k
def DPut(H:Hp)(a:ac)(y v:V)(H':Hp):Prop :=
 (∃kvs k,H a=aa (.dK kvs)/\y=kV k/\kvs.length<Bb/\H'=upd H a (.dK (yA kvs k v))) \/
 ∃kvs k b,H a=aa (.dT kvs)/\y=.ref b/\H b=aa (.tup (k.map kV))/\kvs.length<Bb/\H'=upd H a (.dT (yA kvs k v))
theorem DGet.k{H:Hp}{kvs:List (Key×V)}{k:Key}(e:H a=aa (.dK kvs)):DGet H a (kV k) (z4 kvs k):=.inl ⟨kvs,k,.inl e,rfl,rfl⟩
theorem DGet.t{H:Hp}{kvs:List (List Key×V)}{k:List Key}(e:H a=aa (.dT kvs))(eb:H b=aa (.tup (k.map kV))):DGet H a (.ref b) (z4 kvs k):=.inr ⟨kvs,k,b,.inl e,rfl,eb,rfl⟩
theorem DPut.k{H:Hp}{kvs:List (Key×V)}{k:Key}(e:H a=aa (.dK kvs))(hl:kvs.length<Bb):DPut H a (kV k) v (upd H a (.dK (yA kvs k v))):=.inl ⟨kvs,k,e,rfl,hl,rfl⟩
theorem DPut.t{H:Hp}{kvs:List (List Key×V)}{k:List Key}(e:H a=aa (.dT kvs))(eb:H b=aa (.tup (k.map kV)))(hl:kvs.length<Bb) :
  DPut H a (.ref b) v (upd H a (.dT (yA kvs k v))):=.inr ⟨kvs,k,b,e,rfl,eb,hl,rfl⟩
section
variable {X:Cx}{pins:List (ac×Obj)}{σ:St}{H:Hp}{s:ah}{a:ac}{y v:V}{u r:ae}{o:Option V}{A:aw}{E:ae->ah->Prop}
theorem Inv.big(I:Inv X pins σ H s):sysModules<s.heap.objs.size:=by
 have h:Bd<s.heap.objs.size:=(I.mod.glob.keeps I.bk).lt
 exact oP (by lia) h
theorem zct{Q:ae->ah->Prop}(hu:A.units+1<cLine)(I:Inv X pins σ H s)(g:DGet H a y (aa v))(ry:RelV y u)(h:∀w' s',Inv X pins σ H s'->RelV v w'->Q w' s') :
  Bf (Bg X.prog X.w) A (getItem (.ref a) u) Q E s:=by
 rcases g with ⟨kvs,k,e,ey,l⟩|⟨kvs,k,b,e,ey,eb,l⟩
 ·subst ey
  obtain⟨z,hd,vs,rel,dd⟩:=WP I.hok e
  obtain⟨w',hw,rw'⟩:=RelO.some_of (v:=v) (o:=valueAt vs k) (by rw[l];exact rel.val k)
  exact wpAny_getItem_of (XW ry) dd.mapOf hw (h w' _ (I.tok _) rw')
 ·subst ey
  cases (show u=bG b from ry)
  obtain⟨z,hd,xs,rel,dd⟩:=WQ I.hok e
  obtain⟨w',hw,rw'⟩:=RelO.some_of (v:=v) (o:=(atKey xs k).map (·.2)) (by rw[l];exact rel.val k)
  obtain⟨p,hp,hp2⟩:=b6.mp hw
  refine wpAny_getItem_heap (dL hu) (kJ I.hok eb) dd hp ?_
  rw[hp2]
  exact h w' _ (I.tok _) rw'
theorem zhR{Q:ae->ah->Prop}(hu:A.units+1<cLine)(I:Inv X pins σ H s)(g:DGet H a y o)(ry:RelV y u)(h:∀s',Inv X pins σ H s'->Q (.bool o.isSome) s') :
  Bf (Bg X.prog X.w) A (Bi .In u (.ref a)) Q E s:=by
 rcases g with ⟨kvs,k,e,ey,l⟩|⟨kvs,k,b,e,ey,eb,l⟩
 ·subst ey
  obtain⟨z,hd,vs,rel,dd⟩:=WP I.hok e
  refine wpAny_in_of (XW ry) hd dd.mapOf ?_
  rw[<-(rel.val k).isSome_eq,<-l]
  exact h _ (I.tok _)
 ·subst ey
  cases (show u=bG b from ry)
  obtain⟨z,hd,xs,rel,dd⟩:=WQ I.hok e
  refine wpAny_in_heap (dL hu) (kJ I.hok eb) hd dd ?_
  have q:=(rel.val k).isSome_eq
  rw[lN] at q
  rw[<-q,<-l]
  exact h _ (I.tok _)
theorem zff{Q:ae->ah->Prop}(hu:A.units+1<cLine)(I:Inv X pins σ H s)(g:DGet H a y o)(ry:RelV y u)(h:∀s',Inv X pins σ H s'->Q (.bool (!o.isSome)) s') :
  Bf (Bg X.prog X.w) A (Bi .NotIn u (.ref a)) Q E s:=by
 rcases g with ⟨kvs,k,e,ey,l⟩|⟨kvs,k,b,e,ey,eb,l⟩
 ·subst ey
  obtain⟨z,hd,vs,rel,dd⟩:=WP I.hok e
  refine wpAny_notIn_of (XW ry) hd dd.mapOf ?_
  rw[<-(rel.val k).isSome_eq,<-l]
  exact h _ (I.tok _)
 ·subst ey
  cases (show u=bG b from ry)
  obtain⟨z,hd,xs,rel,dd⟩:=WQ I.hok e
  refine wpAny_notIn_heap (dL hu) (kJ I.hok eb) hd dd ?_
  have q:=(rel.val k).isSome_eq
  rw[lN] at q
  rw[<-q,<-l]
  exact h _ (I.tok _)
theorem Zy(I:Inv X pins σ H s)(mu:Mut (H a))(hs:cV a s.heap h')(he:∃q,h'.get? a=aa q)(new:ObjOk X.prog X.w (upd H a ob) h' a ob) :
  Inv X pins σ (upd H a ob) { s with heap:=h',toks:=t' }:=
 I.write (x:=a) (e:=a) mu (.inl rfl) (λb q hb z=>(hs.2 b hb).trans z) he new
theorem Xl{H':Hp}(z:kvs.length<=Bb)(hd:(a==sysModules)=ak)(rel:KV kvs vs)(dd:h'.DictOf (yk P w) a vs) :
  ObjOk P w H' h' a (.dK kvs):=⟨z,hd,vs,rel,dd⟩
theorem zcu{H':Hp}{Q:Unit->ah->Prop}(hu:A.units+1<cLine)(I:Inv X pins σ H s)(g:DPut H a y v H')(ry:RelV y u)(rv:RelV v r)(h:∀s',Inv X pins σ H' s'->Q () s') :
  Bf (Bg X.prog X.w) A (setItem (.ref a) u r) Q E s:=by
 rcases g with ⟨kvs,k,e,ey,l,eH⟩|⟨kvs,k,b,e,ey,eb,l,eH⟩
 ·subst ey eH
  obtain⟨z,hd,vs,rel,dd⟩:=zdl I.hok e
  have hz:vs.length<=Bb:=by rw[<-rel.length];exact z
  have hl:(yA kvs k v).length<=Bb:=by have:=xS kvs k v;lia
  refine wpAny_setItem_pairs (hsz:=hz) (XW ry) dd λh' dd' hs=>h _ ?_
  have he:∃q,h'.get? a=aa q:=let ⟨q,_,_,hq,_⟩:=dd';⟨q,hq⟩
  exact Zy I (by rw[e];exact eu) hs he (Xl hl hd (rel.put k rv) dd')
 ·subst ey eH
  cases (show u=bG b from ry)
  obtain⟨z,hd,xs,rel,dd⟩:=Qp I.hok e
  have hz:xs.length<=Bb:=by rw[<-bL rel];exact z
  have hl:(yA kvs k v).length<=Bb:=by have:=xS kvs k v;lia
  refine wpAny_setItem_heap (hsz:=hz) (dL hu) (kJ I.hok eb) dd λh' dd' hs=>h _ ?_
  obtain⟨q,es,ep,hq,h2,h3,h4,_,h5⟩:=dd'
  refine Zy I (by rw[e];exact eu) hs ⟨q,hq⟩ ⟨hl,hd,_,(rel.put k eb rv).keeps λc ys ec=>?_,q,es,ep,hq,h2,h3,h4,h5⟩
  rw[zi (zG ec e (by lia))]
  exact ec
end
section
variable {X:Cx}{pins:List (ac×Obj)}{σ:St}{H:Hp}{s:ah}{a:ac}{kvs:List (Key×V)}{k:Key}{u:ae}{A:aw}{E:ae->ah->Prop}
theorem zgc{Q:ae->ah->Prop}(I:Inv X pins σ H s)(e:H a=aa (.dK kvs))(ry:RelV (kV k) u)(l:z4 kvs k=aa v)(hm:more=[]\/∃x,more=[x])
  (h:∀w' s',Inv X pins σ (upd H a (.dK (ye kvs k))) s'->RelV v w'->Q w' s'):Bf (Bg X.prog X.w) A (call (.builtin "dict.pop") (.ref a::u::more)) Q E s:=by
 obtain⟨z,hd,vs,rel,dd⟩:=zdl I.hok e
 obtain⟨w',hw,rw'⟩:=RelO.some_of (v:=v) (o:=valueAt vs k) (by rw[<-l];exact rel.val k)
 have hp:(keyPart u).isSome=af:=by
  cases k with
  |inl i=>obtain⟨t,q⟩:=(show ∃t,u=fi i t from ry);subst q;rfl
  |inr x=>obtain⟨t,q⟩:=(show ∃t,u=gM x t from ry);subst q;rfl
 have ha:argsOk "dict.pop" ⟨.ref a::u::more,[]⟩:=by
  rcases hm with q|⟨x,q⟩
  ·subst q;exact mh _ _
  ·subst q;exact mj _ _ _
 refine ir ef dd.typeIs gT ha (meets_dict_pop_there (yk X.prog X.w) a (XW ry) more hm hp)
  ⟨vs,w',dd,by rw[<-rel.length];exact z,hw,λh' dd' hs=>h w' _ ?_ rw'⟩
 have he:∃q,h'.get? a=aa q:=let ⟨q,_,_,hq,_⟩:=dd';⟨q,hq⟩
 exact Zy I (by rw[e];exact eu) hs he (Xl (bK (Qo kvs k) z) hd (rel.drop k) dd')
theorem zgF{Q:ae->ah->Prop}(I:Inv X pins σ H s)(e:H a=aa (.dK kvs))(ry:RelV (kV k) u)(l:z4 kvs k=ai)(h:∀s',Inv X pins σ H s'->Q r s') :
  Bf (Bg X.prog X.w) A (call (.builtin "dict.pop") [.ref a,u,r]) Q E s:=by
 obtain⟨z,hd,vs,rel,dd⟩:=zdl I.hok e
 have hn:valueAt vs k=ai:=RelO.none_of (by rw[<-l];exact rel.val k)
 have hp:(keyPart u).isSome=af:=by
  cases k with
  |inl i=>obtain⟨t,q⟩:=(show ∃t,u=fi i t from ry);subst q;rfl
  |inr x=>obtain⟨t,q⟩:=(show ∃t,u=gM x t from ry);subst q;rfl
 exact ir ef dd.typeIs gT (mj _ _ _) (meets_dict_pop_default (yk X.prog X.w) a (XW ry) hd hp r) ⟨vs,dd,hn,h _ (I.tok _)⟩
end
def zhu(i:ay):Prop:=∀ov iv,subscripted i ak ov iv=operate [ov,iv] (getItem ov iv)
theorem zfg{E:ae->ah->Prop}{env:Env}{pos:Pos}{T id:String}{Q:ae->ah->Prop}
  (hl:typeLookup (.type T) "__getitem__"=pure (aa (.builtin id))) (hs:zhu slice)
  (h:Bf (Bg prog w) A (eval value env) (λo s₁=>Bf (Bg prog w) A (eval slice env) (λi s₂=>s₂.TypeIs o T/\Bf (Bg prog w) A (getItem o i) Q E s₂) E s₁) E s) :
  Bf (Bg prog w) A (eval (.Subscript value slice pos) env) Q E s:=by
 refine Subscript_ (dE h (λo s₁ h₁=>dE h₁ (λi s₂ h₂=>?_) λ_ _ x=>x) λ_ _ x=>x)
 obtain⟨hT,h₂⟩:=h₂
 unfold subscriptTail
 refine ba ?_
 rw[getitemInPython_of_ne hT.not_modules]
 refine ba (wpAny_specialOf hT hl ?_)
 have fin:Bf (Bg prog w) A (subscripted slice ak o i) (λr s₃=>Bf (Bg prog w) A (letTemporaryGo value o r >>= λ_=>pure r) Q E s₃) E s₂:=by
  rw[hs o i]
  exact wpAny_operating (dE h₂ (λr s₃ h₃=>ba (wpAny_letTemporaryGo (bh h₃))) λ_ _ x=>x)
 first
  |exact bh (ba fin)
  |exact ba (bh (ba fin))
  |exact ba fin
theorem Qq{pins:List (ac×Obj)}{σ:St}{H:Hp}{s:ah}{a:ac}{y:V}{o:Option V}(I:Inv X pins σ H s)(g:DGet H a y o):s.TypeIs (.ref a) "dict":=by
 rcases g with ⟨kvs,k,e,_,_⟩|⟨kvs,k,b,e,_,_,_⟩
 ·obtain⟨_,_,vs,_,dd⟩:=WP I.hok e
  exact dd.typeIs
 ·obtain⟨_,_,xs,_,dd⟩:=WQ I.hok e
  exact dd.typeIs
def jY(td ty:TE):TE:=λσ H Q=>td σ H λx H1=>ty σ H1 λy H2=>∃a v,x=.ref a/\DGet H2 a y (aa v)/\Q v H2
def jZ(td ty tv:TE):TS:=λD σ H=>tv σ H λv H1=>td σ H1 λx H2=>ty σ H2 λy H3=>∃a H4,x=.ref a/\DPut H3 a y v H4/\D.nx σ H4
section
variable {X:Cx}{o i e value:ay}{pos pos' tpos:Pos}{td ty tv:TE}
theorem vC(hu:X.A.units+1<cLine)(ho:PE X o td)(hi:PE X i ty)(hs:zhu i):PE X (.Subscript o i pos) (jY td ty):=by
 intro pins s σ H Q I h
 refine zfg PySem.F.slot_dict_getitem.lookup hs (thn (ho pins s σ H _ I h) λu s1 ⟨x,H1,I1,rx,q1⟩=>thn (hi pins s1 σ H1 _ I1 q1) λiv s2 ⟨y,H2,I2,ry,a,v,ex,g,q2⟩=>?_)
 subst ex
 obtain rfl:u=bG a:=rx
 exact⟨Qq I2 g,zct hu I2 g ry λw' s3 I3 rw'=>⟨v,H2,I3,rw',q2⟩⟩
theorem wR(hu:X.A.units+1<cLine)(ho:PE X o td)(hi:PE X i ty)(hv:PE X value tv)(hs:swapsWith value (aa (.Subscript o i pos')) pos.line X.env=pure ak) :
  PS X (.Assign [.Subscript o i pos'] value pos) (jZ td ty tv):=by
 intro pins s σ H D I h
 refine wpAny_Assign_Subscript (thn (hv pins s σ H _ I h) λr s1 ⟨v,H1,I1,rv,q1⟩=>thn (ho pins s1 σ H1 _ I1 q1) λu s2 ⟨x,H2,I2,rx,q2⟩=>thn (hi pins s2 σ H2 _ I2 q2) λiv s3 ⟨y,H3,I3,ry,a,H4,ex,g,q3⟩=>?_) hs
 subst ex
 obtain rfl:u=bG a:=rx
 exact zcu hu I3 g ry rv λs4 I4=>⟨σ,H4,I4,q3⟩
end
theorem zdm{H:Hp}(h:av)(hb:sysModules<h.objs.size):ObjOk P w H (h.push { cls:=.type "dict",data:=.dict #[] }) h.objs.size (.dK []):=
 ⟨bP _,beq_eq_false_iff_ne.mpr (eL (cq hb)),[],.nil,Heap.DictOf.new h⟩
theorem Qr{H:Hp}(h:av)(hb:sysModules<h.objs.size):ObjOk P w H (h.push { cls:=.type "dict",data:=.dict #[] }) h.objs.size (.dT []):=
 ⟨bP _,beq_eq_false_iff_ne.mpr (eL (cq hb)),[],.nil,_,#[],0,bH _ rfl,⟨rfl,rfl,rfl⟩,rfl,rfl,cU⟩
def Z8:TE:=λ_ H Q=>∀p,H p=ai->Q (.ref p) (upd H p (.dK []))
def kK:TE:=λ_ H Q=>∀p,H p=ai->Q (.ref p) (upd H p (.dT []))
section
variable {X:Cx}{pos:Pos}
theorem qH:PE X (.Dict [] [] pos) Z8:=λpins s σ H Q I h =>
 wpAny_Dict_empty ⟨.ref s.heap.objs.size,_,I.laid (a:=s.heap.objs.size) (o:=.dK []) (t':=s.toks) (λ_ _ q=>bg _ q) (bi _) (zdm s.heap I.big),rfl,h _ (I.hok.fresh (bi _))⟩
theorem j5:PE X (.Dict [] [] pos) kK:=λpins s σ H Q I h =>
 wpAny_Dict_empty ⟨.ref s.heap.objs.size,_,I.laid (a:=s.heap.objs.size) (o:=.dT []) (t':=s.toks) (λ_ _ q=>bg _ q) (bi _) (Qr s.heap I.big),rfl,h _ (I.hok.fresh (bi _))⟩
end
def zgG:List (TE×TE)->St->Hp->(List (V×V)->Hp->Prop)->Prop
 |[],_,H,Q=>Q [] H
 |(tk,tv)::r,σ,H,Q=>tk σ H λx H1=>tv σ H1 λy H2=>zgG r σ H2 λps H3=>Q ((x,y)::ps) H3
structure M1(X:Cx)(o:ay)(m:Str)(apos:Pos)(e:ay)(cpos:Pos):Prop where
 base:attributeBase o m X.env (eval o X.env)=eval o X.env
 few:((backTo cpos (Be [e] X.env)).all (λx=>!x.1)&&(backToKw cpos (keywordEach [] X.env)).all (λx=>x.1.isSome)
  && decide (([e]:List ay).length+([]:List Keyword).length+(if ([]:List Keyword).isEmpty then 0 else 1)<30))=af
 line:(apos.endLine==cpos.line)=af
 trees:backTo cpos (Be [e] X.env)=[(ak,eval e X.env)]
structure M2(X:Cx)(o:ay)(m:Str)(apos:Pos)(e f:ay)(cpos:Pos):Prop where
 base:attributeBase o m X.env (eval o X.env)=eval o X.env
 few:((backTo cpos (Be [e,f] X.env)).all (λx=>!x.1)&&(backToKw cpos (keywordEach [] X.env)).all (λx=>x.1.isSome)
  && decide (([e,f]:List ay).length+([]:List Keyword).length+(if ([]:List Keyword).isEmpty then 0 else 1)<30))=af
 line:(apos.endLine==cpos.line)=af
 trees:backTo cpos (Be [e,f] X.env)=[(ak,eval e X.env),(ak,eval f X.env)]
def IsD(H:Hp)(a:ac):Prop:=(∃kvs,Rd H a (.dK kvs))\/∃kvs,Rd H a (.dT kvs)
theorem Xm{pins:List (ac×Obj)}{σ:St}{H:Hp}{s:ah}{a:ac}(I:Inv X pins σ H s)(d:IsD H a) :
  s.TypeIs (.ref a) "dict"/\(∀b,bG a=.ref b->∃ob,s.heap.get? b=aa ob/\ob.dict=ai)/\(a==sysModules)=ak:=by
 rcases d with ⟨kvs,e⟩|⟨kvs,e⟩
 ·obtain⟨_,hd,vs,_,dd⟩:=WP I.hok e
  refine⟨dd.typeIs,λb q=>?_,hd⟩
  cases q
  obtain⟨ob,_,_,h1,h2,_⟩:=dd
  exact⟨ob,h1,h2.2.1⟩
 ·obtain⟨_,hd,xs,_,dd⟩:=WQ I.hok e
  refine⟨dd.typeIs,λb q=>?_,hd⟩
  cases q
  obtain⟨ob,_,_,h1,h2,_⟩:=dd
  exact⟨ob,h1,h2.2.1⟩
section
variable {X:Cx}{pins:List (ac×Obj)}{σ:St}{H:Hp}{s:ah}{a:ac}{y d:V}{u r:ae}{o:Option V}{A:aw}{E:ae->ah->Prop}
theorem zgH{Q:ae->ah->Prop}(hu:A.units+1<cLine)(I:Inv X pins σ H s)(g:DGet H a y o)(ry:RelV y u)(rd:RelV d r)(h:∀w' s',Inv X pins σ H s'->RelV (o.getD d) w'->Q w' s') :
  Bf (Bg X.prog X.w) A (call (.builtin "dict.get") [.ref a,u,r]) Q E s:=by
 rcases g with ⟨kvs,k,e,ey,l⟩|⟨kvs,k,b,e,ey,eb,l⟩
 ·subst ey
  obtain⟨z,hd,vs,rel,dd⟩:=WP I.hok e
  refine ir iu dd.typeIs mL (mo _ _ _) (meets_dict_get_default (yk X.prog X.w) a (XW ry) hd r) ⟨_,dd.mapOf,h _ _ (I.tok _) ?_⟩
  rw[l]
  exact(rel.val k).getD rd
 ·subst ey
  cases (show u=bG b from ry)
  obtain⟨z,hd,xs,rel,dd⟩:=WQ I.hok e
  refine ir iu dd.typeIs mL (mo _ _ _) (meetsH_dict_get_default (tupleKind (yk X.prog X.w)) a b hd r) ⟨dL hu,k,xs,kJ I.hok eb,dd,h _ _ (I.tok _) ?_⟩
  rw[l]
  exact(rel.val k).getD rd
end
def vf(td ty tx:TE):TE:=λσ H Q=>td σ H λx H1=>∃a,x=.ref a/\IsD H1 a/\ty σ H1 λy H2=>tx σ H2 λz H3=>∃o,DGet H3 a y o/\Q (o.getD z) H3
def J8(td ty:TE):TE:=λσ H Q=>td σ H λx H1=>∃a,x=.ref a/\IsD H1 a/\ty σ H1 λy H2=>∃kvs k v,H2 a=aa (.dK kvs)/\y=kV k/\z4 kvs k=aa v/\Q v (upd H2 a (.dK (ye kvs k)))
def J9(td ty tx:TE):TE:=λσ H Q=>td σ H λx H1=>∃a,x=.ref a/\IsD H1 a/\ty σ H1 λy H2=>tx σ H2 λz H3=>∃kvs k,H3 a=aa (.dK kvs)/\y=kV k /\
 (∀v,z4 kvs k=aa v->Q v (upd H3 a (.dK (ye kvs k))))/\(z4 kvs k=ai->Q z H3)
section
variable {X:Cx}{o e f:ay}{apos cpos:Pos}{td ty tx:TE}
theorem j6(hu:X.A.units+1<cLine)(ho:PE X o td)(he:PE X e ty)(hf:PE X f tx)(m:M2 X o "get" apos e f cpos):PE X (.Call (.Attribute o "get" apos) [e,f] [] cpos) (vf td ty tx):=by
 intro pins s σ H Q I h
 refine fY m.base m.few m.line dM iu PySem.F.type_dict_get (thn (ho pins s σ H _ I h) λu s1 ⟨x,H1,I1,rx,a,ex,d,q1⟩=>?_)
 subst ex
 obtain rfl:u=bG a:=rx
 obtain⟨t1,t2,_⟩:=Xm I1 d
 refine⟨t1,t2,?_⟩
 rw[m.trees]
 refine c8 rfl (dO (cS (thn (he pins s1 σ H1 _ I1 q1) λiv s2 ⟨y,H2,I2,ry,q2⟩ =>
  cS (thn (hf pins s2 σ H2 _ I2 q2) λfv s3 ⟨z,H3,I3,rz,ov,g,q3⟩=>eJ ?_))))
 exact zgH hu I3 g ry rz λw' s4 I4 rw'=>⟨_,H3,I4,rw',q3⟩
theorem WR(ho:PE X o td)(he:PE X e ty)(m:M1 X o "pop" apos e cpos):PE X (.Call (.Attribute o "pop" apos) [e] [] cpos) (J8 td ty):=by
 intro pins s σ H Q I h
 refine fY m.base m.few m.line dM ef iy (thn (ho pins s σ H _ I h) λu s1 ⟨x,H1,I1,rx,a,ex,d,q1⟩=>?_)
 subst ex
 obtain rfl:u=bG a:=rx
 obtain⟨t1,t2,_⟩:=Xm I1 d
 refine⟨t1,t2,?_⟩
 rw[m.trees]
 refine c8 rfl (dO (cS (thn (he pins s1 σ H1 _ I1 q1) λiv s2 ⟨y,H2,I2,ry,kvs,k,v,ea,ey,l,q2⟩=>eJ ?_)))
 subst ey
 exact zgc I2 ea ry l (.inl rfl) λw' s3 I3 rw'=>⟨v,_,I3,rw',q2⟩
theorem Qs(ho:PE X o td)(he:PE X e ty)(hf:PE X f tx)(m:M2 X o "pop" apos e f cpos):PE X (.Call (.Attribute o "pop" apos) [e,f] [] cpos) (J9 td ty tx):=by
 intro pins s σ H Q I h
 refine fY m.base m.few m.line dM ef iy (thn (ho pins s σ H _ I h) λu s1 ⟨x,H1,I1,rx,a,ex,d,q1⟩=>?_)
 subst ex
 obtain rfl:u=bG a:=rx
 obtain⟨t1,t2,_⟩:=Xm I1 d
 refine⟨t1,t2,?_⟩
 rw[m.trees]
 refine c8 rfl (dO (cS (thn (he pins s1 σ H1 _ I1 q1) λiv s2 ⟨y,H2,I2,ry,q2⟩ =>
  cS (thn (hf pins s2 σ H2 _ I2 q2) λfv s3 ⟨z,H3,I3,rz,kvs,k,ea,ey,q3,q4⟩=>eJ ?_))))
 subst ey
 cases l:z4 kvs k with
 |some v=>exact zgc I3 ea ry l (.inr ⟨fv,rfl⟩) λw' s4 I4 rw'=>⟨v,_,I4,rw',q3 v l⟩
 |none=>exact zgF I3 ea ry l λs4 I4=>⟨z,H3,I4,rz,q4 l⟩
end
end L2
namespace Att
open PySem PySem.W PySem.Calls PyProof.Rows
theorem Wb :∀(ns:List Int) (vs:List ae),WellAll P h vs (ns.map WData.int)->IntsAre vs ns:=by
 intro ns
 induction ns with
 |nil =>
  intro vs w
  rw[lB] at w
  cases w
  exact .nil
 |cons n ns ih =>
  intro vs w
  rw[bo] at w
  cases w with
  |cons a b =>
   cases a
   exact .cons _ _ (ih _ b)
theorem Jj{l:OpenLaw}{n:Nat}(hn:l.most=aa n){P:Params}{args:List WData}{vals:List ae}
  (hpre:l.row.toRowW.claim.pre args=af) (hwl:WellAll P h vals args) :
  ∃a vs ns,vals=[bG a]/\args=[WData.list (ns.map WData.int)]/\h.get? a=aa { cls:=.type "list",data:=.seq vs.toArray }/\IntsAre vs ns/\ns.length<=n:=by
 have hsh:WShape.hasAll [] args [.list .int]=af:=(pre_splitW hpre).1
 have hc:l.pre.holds [] { args:=args }=af:=(pre_splitW hpre).2
 obtain⟨d,r,rfl,h1,h2⟩:=hasAllW_cons hsh
 obtain rfl:=hasAllW_nil h2
 obtain⟨xs,rfl,h3⟩:=hasW_list h1
 obtain⟨ns,rfl⟩:=items_int h3
 have hlen:ns.length<=n:=by
  unfold OpenLaw.pre at hc
  have h4:(WTm.not (.lt (.lit (.int (n:Int))) (.len (.arg 0)))).holds [] { args:=[.list (ns.map .int)] }=af:=by
   have h4:=(holds_andW hc).1
   rw[hn] at h4
   exact h4
  have h5:=condW_of h4 (w_not (w_lt w_lit (w_len_list (w_arg rfl))))
  rw[bd] at h5
  refine Nat.le_of_not_lt λq=>?_
  have q':(n:Int)<((ns.length:Nat):Int):=by lia
  first
   |(rw[Bj q'] at h5;exact absurd h5 (by lia))
   |(simp at h5;lia)
 cases hwl with
 |cons w1 w2 =>
  cases w2
  cases w1 with
  |list ho hall=>exact⟨_,_,ns,rfl,rfl,ho,Wb ns _ hall,hlen⟩
theorem Jk(l:OpenLaw)(args:List WData):l.row.toRowW.claim.post args (.bool af) args=af :=
 postW_of (r:=l.row.toRowW) (X:=(af==af))
  (show WShape.has [] (.bool af) .bool=af by first|rfl|decide|simp[WShape.has,WShape.arms,WShape.armsAll])
  (show (WTm.eq .res (.lit (.bool af))).value [] { args:=args,res:=aa (.bool af),after:=args }=aa (.bool (af==af)) from w_eq_bool (w_res rfl) w_lit) rfl
theorem attach_call{l:OpenLaw}{n:Nat}{loose:List Str}{XP:(Str->Option ae)->av->Prop}{YP:au->av->Prop}{d:DefRec}
  (hn:l.most=aa n) (hdf:d.params.defaults=[])
  (call:∀(w:au) (s₀ s₁:ah) (mg mb:Str->Option ae) (fa:ac) (o:Obj) (pm cd doc:ae) (a:ac) (vs:List ae) (ns:List Int),
   Ground q loose [] XP w s₀ mg mb s₁.heap->YP w s₁.heap ->
   s₁.heap.get? fa=aa o->o.data=.func (docDef d.name d.params d.body d.scope pm cd doc)->s₁.heap.CodeRec cd d.name->mg d.name=aa (.ref fa) ->
   s₁.heap.get? a=aa { cls:=.type "list",data:=.seq vs.toArray }->IntsAre vs ns->ns.length<=n->s₁.gens=#[] ->
   codeAny (Bg l.prog w) callerA (.call (.ref fa) ⟨[.ref a],[]⟩) (λr s'=>r=.ok (.ret (.bool af))/\OldK s₁.heap s'.heap/\s'.os=s₁.os/\AllBare s'.gens) s₁) :
  WalkO q loose XP YP l.row.toRowW d [] (λf vs=>lO f vs):=by
 intro w s₀ s₁ mg mb G Y fa o pm cd doc dV kV ho hd hcd hD hmg hg args vals as hpre hlay hrd hwl hlo
 obtain rfl:dV=.none:=Dflts.none hD hdf
 obtain rfl:kV=.none:=Dflts.noKw hD
 obtain⟨a,vs,ns,rfl,rfl,hobj,hints,hlen⟩:=Jj hn hpre hwl
 refine enter_call (fQ (call w s₀ s₁ mg mb fa o pm cd doc a vs ns G Y ho (fd_plain hd) hcd hmg hobj hints hlen hg) λr s' hq=>?_)
 obtain⟨rfl,h2,h3,h4⟩:=hq
 exact⟨.inl ⟨.bool af,.bool af,[],rfl,λ_=>rfl,.bool af,Jk l _,λ_=>⟨fo,λ_ hm=>(nomatch hm)⟩⟩,h2,h3,h4⟩
section
variable {prog:aq}{w:au}{A:aw}{E:ae->ah->Prop}{s:ah}{K:Frag}
def zhS(h:av)(L d:ac):List (ac×Obj):=(da h.objs.size).filterMap λa=>if a=L\/a=d then ai else (h.get? a).map λo=>(a,o)
end
end Att
namespace L2
open PySem PySem.Spec PyProof.Rows
theorem Jl:∀ {vs:List ae} {ns:List Int},IntsAre vs ns->Vals (ns.map V.int) vs
 |_,_,.nil=>.nil
 |_,_,.cons n t h=>.cons ⟨t,rfl⟩ (Jl h)
def zaV(H:Hp):Prop:=∀b,H b=ai\/∃o xs,H b=aa (.frz o (.lst xs))
theorem Qt{P:aq}{w:au}{K:bt}{mg mb:Str->Option ae}{CX:CXT}{k:Nat}{fa a:ac}{fd:Bc}{x:Str}{sp:Sp}{s₁:ah}{vs:List ae}{ns:List Int}
  (KX:K.In s₁.heap) (hns:s₁.heap.Ns Bd mg) (hb:s₁.heap.Ns builtinsNs mb) (hbb:∀x:Str,x≠"__name__"->mb x=Bh x) (hlim:s₁.heap.NoLimit) (hg:s₁.gens=#[])
  (ha:s₁.heap.get? a=aa { cls:=.type "list",data:=.seq vs.toArray }) (hi:IntsAre vs ns) (hl:ns.length<=Bb) (hr:Room k callerA)
  (F:∀base:av,K.In base->base.Ns Bd mg->FnOk P w K mg base CX k fa fd [x] sp) (hbind:∀(s:ah) (u:ae),BindsTo s fd ⟨[u],[]⟩ [(x,u)])
  (hsp:∀H:Hp,zaV H->SqL K H a (ns.map V.int)->sp [.ref a] H (λv _=>v=.bl af) λ_ _ _=>False)
  (hCX:∀H e s',CX [] H s₁ (λ_ _ _=>False) e s'->False) :
  codeAny (Bg P w) callerA (.call (.ref fa) ⟨[.ref a],[]⟩) (λr s'=>r=.ok (.ret (.bool af))/\OldK s₁.heap s'.heap/\s'.os=s₁.os/\AllBare s'.gens) s₁:=by
 have rv:=Jl hi
 have lenV:=hi.length
 -- from an abstract heap in which nothing but the script may be tracked
 have core:∀H:Hp,zaV H->SqL K H a (ns.map V.int)->HOk P w H s₁.heap->(∀b,H b≠ai->b=a)->(H a≠ai->K.lookup a=ai) ->
   codeAny (Bg P w) callerA (.call (.ref fa) ⟨[.ref a],[]⟩) (λr s'=>r=.ok (.ret (.bool af))/\OldK s₁.heap s'.heap/\s'.os=s₁.os/\AllBare s'.gens) s₁:=by
  intro H hO hS hok hA hK
  have base_of:∀ {b:ac} {o:Obj},s₁.heap.get? b=aa o->H b=ai->(JT s₁.heap H).get? b=aa o:=λe n=>zc1 e n
  have noA:∀ {b:ac} {o:Obj} {es:Array DictEntry} {ep:Nat},s₁.heap.get? b=aa o->o.data=.dict es ep->H b=ai:=λ{b o es ep} e d=>by
   cases q:H b with
   |none=>rfl
   |some u =>
    have e':b=a:=hA b (by rw[q];simp)
    subst e'
    rw[ha] at e;cases e
    have d':Data.seq vs.toArray _=Data.dict es ep:=d
    cases d'
  have nsK:∀ {b:ac} {m:Str->Option ae},s₁.heap.Ns b m->(JT s₁.heap H).Ns b m:=λ{b m} ⟨o,es,ep,e,d,r⟩=>⟨o,es,ep,base_of e (noA e d),d,r⟩
  have hKb:K.In (JT s₁.heap H):=λb o e=>base_of (KX b o e) (by
   cases q:H b with
   |none=>rfl
   |some u =>
    have e':b=a:=hA b (by rw[q];simp)
    subst e'
    rw[hK (by rw[q];simp)] at e;cases e)
  have hM:Mod K mg (JT s₁.heap H):=⟨hKb,nsK hns,⟨mb,nsK hb,hbb⟩,let ⟨mc,h1,h2⟩:=hlim;⟨mc,nsK h1,h2⟩⟩
  have e0:Env0 P w K mg (JT s₁.heap H) callerA [] s₁ H:=⟨rfl,hM,λb o e=>ze4 e,mV (zcf _ _),trivial,λb hb=>absurd (show b∈([]:List ac) from hb) (by simp),hok,.of_eq hg⟩
  refine fQ ((F _ hKb (nsK hns)).run callerA [] s₁ H ⟨[.ref a],[]⟩ [.ref a] [.ref a] _ _ hr e0 (hbind s₁ (.ref a)) (.cons rfl .nil) (hsp H hO hS)) λr s' h=>?_
  cases r with
  |error e=>exact(hCX H e s' h).elim
  |ok fl =>
   cases fl with
   |next=>exact cY h
   |brk=>exact cY h
   |cont=>exact cY h
   |ret u =>
    obtain⟨v,H',os,bare,un,hok',r',q⟩:=h
    have q':v=.bl af:=q
    subst q'
    obtain rfl:u=gZ af:=r'
    refine⟨rfl,OldK.of_keep λb o e=>?_,os,bare⟩
    cases q:H b with
    |none=>exact un.keep b o e q (by intro z;exact absurd (show b∈([]:List ac) from z) (by simp)) (by simp)
    |some u =>
     rcases hO b with z|⟨ob,xs,z⟩
     ·rw[q] at z;cases z
     ·have z2:=un.frzs b ob _ z
      obtain⟨e1,_⟩:=hok b _ z
      obtain⟨e2,_⟩:=hok' b _ z2
      rw[e] at e1;cases e1
      exact e2
 cases hk:K.lookup a with
 |some o =>
  -- the script is one of the module's own objects
  have e:=KX a o hk
  rw[ha] at e
  cases e
  refine core (λ_=>ai) (λ_=>.inl rfl) (.inr ⟨_,vs.toArray,_,hk,rfl,rfl,rfl,by rw[bF,lenV];exact hl,by simpa using rv⟩) (λb u z=>by have z':(ai:Option HO)=aa u:=z;cases z') (λb z=>absurd rfl z) λz=>absurd rfl z
 |none =>
  refine core (λb=>if b=a then aa (.frz { cls:=.type "list",data:=.seq vs.toArray } (.lst (ns.map V.int))) else ai) (λb=>?_) (.inl (.inr ⟨{ cls:=.type "list",data:=.seq vs.toArray },am rfl⟩)) (λb u z=>?_) (λb z=>?_) λ_=>hk
  ·by_cases hb:b=a
   ·exact .inr ⟨_,_,am hb⟩
   ·exact .inl (aj hb)
  ·by_cases hb:b=a
   ·have z':=(am hb).symm.trans z
    cases z'
    subst hb
    exact⟨ha,by rw[bd];exact hl,vs,_,rv,ha⟩
   ·have z':=(aj hb).symm.trans z
    cases z'
  ·by_cases hb:b=a
   ·exact hb
   ·exact absurd (aj hb) z
abbrev KOf{K:bt}{h:av}(_:K.In h):bt:=K
theorem zbD{l:og}{n k:Nat}{q:aq}{loose:List Str}{XP:(Str->Option ae)->av->Prop}{YP:au->av->Prop}{d:DefRec}{K:Params->bt}{CX:au->CXT}{sp:au->Sp}{x:Str}
  (hn:l.most=aa n) (hn2:n<=Bb) (hdf:d.params.defaults=[]) (hr:Room k callerA)
  (hY:∀(w:au) (h:av),YP w h->(K w.params).In h)
  (F:∀(w:au) (mg:Str->Option ae) (fa:ac) (h:av),(K w.params).In h->h.Ns Bd mg->mg d.name=aa (.ref fa) ->
   ∃fd:Bc,(∀(s:ah) (u:ae),BindsTo s fd ⟨[u],[]⟩ [(x,u)]) /\
    ∀base:av,(K w.params).In base->base.Ns Bd mg->FnOk l.prog w (K w.params) mg base (CX w) k fa fd [x] (sp w))
  (hsp:∀(w:au) (H:Hp) (a:ac) (ns:List Int),ns.length<=n->zaV H->SqL (K w.params) H a (ns.map V.int)->sp w [.ref a] H (λv _=>v=.bl af) λ_ _ _=>False)
  (hCX:∀(w:au) (H:Hp) (s:ah) (e:ae) (s':ah),CX w [] H s (λ_ _ _=>False) e s'->False) :
  pI q loose XP YP l.row.toRowW d [] (λf vs=>lO f vs):=by
 refine Att.attach_call hn hdf λw s₀ s₁ mg mb fa o pm cd doc a vs ns G Y ho hd hcd hmg hobj hints hlen hg=>?_
 have KX:=hY w _ Y
 obtain⟨fd,hb,hF⟩:=F w mg fa _ KX G.T.g hmg
 exact Qt KX G.T.g G.T.b G.T.builtins G.T.nolimit hg hobj hints (bK hlen hn2) hr hF hb (λH hO hS=>hsp w H a ns hlen hO hS) λH e s'=>hCX w H s₁ e s'
theorem zhv{l:og}{n k:Nat}{q:aq}{loose:List Str}{XP:(Str->Option ae)->av->Prop}{YP:au->av->Prop}{d:DefRec}{K:Params->bt}{CX:CXT}{sp:bt->Sp}{x:Str}
  (hn:l.most=aa n) (hn2:n<=Bb) (hdf:d.params.defaults=[]) (hr:Room k callerA)
  (hY:∀(w:au) (h:av),YP w h->(K w.params).In h)
  (F:∀(w:au) (mg:Str->Option ae) (fa:ac) (h:av),(K w.params).In h->h.Ns Bd mg->mg d.name=aa (.ref fa) ->
   ∃fd:Bc,(∀(s:ah) (u:ae),BindsTo s fd ⟨[u],[]⟩ [(x,u)]) /\
    ∀base:av,(K w.params).In base->base.Ns Bd mg->FnOk l.prog w (K w.params) mg base CX k fa fd [x] (sp (K w.params)))
  (hsp:∀(K:bt) (H:Hp) (a:ac) (ns:List Int),ns.length<=n->zaV H->SqL K H a (ns.map V.int)->sp K [.ref a] H (λv _=>v=.bl af) λ_ _ _=>False)
  (hCX:∀(H:Hp) (s:ah) (e:ae) (s':ah),CX [] H s (λ_ _ _=>False) e s'->False) :
  pI q loose XP YP l.row.toRowW d [] (λf vs=>lO f vs) :=
 zbD (K:=K) (CX:=λ_=>CX) (sp:=λw=>sp (K w.params)) hn hn2 hdf hr hY F (λw H a ns h1 h2 h3=>hsp (K w.params) H a ns h1 h2 h3) λ_ H s e s'=>hCX H s e s'
def zU(s:ax)(j:Nat):ax:=match s with
 |.ClassDef _ _ _ body _ _ _ _ _ _ _=>body.getD j (.Pass ⟨0,0,0,0⟩)
 |_=>.Pass ⟨0,0,0,0⟩
def yQ(s:ax):Arguments:=match s with
 |.FunctionDef _ a _ _ _ _ _ _ _ _=>a
 |_=>{ posonlyargs:=[],args:=[],vararg:=ai,kwonlyargs:=[],kw_defaults:=[],kwarg:=ai,defaults:=[] }
def yg(s:ax):List ax:=match s with
 |.FunctionDef _ _ b _ _ _ _ _ _ _=>b
 |_=>[]
def zj(s:ax):az:=match s with
 |.FunctionDef _ _ _ _ _ _ sc _ _ _=>sc
 |_=>{ kind:=.function,names:=[],isGenerator:=ak,isCoroutine:=ak }
abbrev E0:XK:=λ_ _ _=>False
structure Fun(K:bt)(x qual:Str)(st:ax)(f:ac)(fd:Bc):Prop where
 ex:∃(oc:ae) (od:Option ac) (kV doc pm:ae) (an:Option ac) (cdv ct:ae) (osl:Array (Option ae)),
  fd=gS x qual (yQ st) (yg st) (zj st) .none kV doc pm an cdv ct/\K.lookup f=aa ⟨oc,od,.func fd,osl⟩/\gF K cdv qual=af
 kp:dJ K (.ref f)=af
section
variable {P:aq}{w:au}{K:bt}{mg:Str->Option ae}{base:av}
theorem Fun.binds{st:ax}{f:ac}{fd:Bc}{ps:List Str}(F:Fun K x qual st f fd)
  (h:∀(kV doc pm:ae) (an:Option ac) (cdv ct:ae) (us:List ae),us.length=ps.length->bindArgs (gS x qual (yQ st) (yg st) (zj st) .none kV doc pm an cdv ct) ⟨us,[]⟩=pure (ps.zip us)):Binds K fd ps []:=by
 obtain⟨oc,od,kV,doc,pm,an,cdv,ct,osl,rfl,lk,hcd⟩:=F.ex
 exact .all (h kV doc pm an cdv ct)
theorem Xn{st:ax}{f:ac}{oc:ae}{od an:Option ac}{osl:Array (Option ae)}{kV doc pm cdv ct:ae}(l:K.lookup f=aa ⟨oc,od,.func (gS x qual (yQ st) (yg st) (zj st) .none kV doc pm an cdv ct),osl⟩)
  (c:gF K cdv qual=af) (k:dJ K (.ref f)=af):Fun K x qual st f (gS x qual (yQ st) (yg st) (zj st) .none kV doc pm an cdv ct):=⟨⟨oc,od,kV,doc,pm,an,cdv,ct,osl,rfl,l,c⟩,k⟩
end
theorem yy(hr:Room k A):A.units+1<cLine:=bU (nP (by lia:1<=64) _) hr.units
section
variable {X:Cx}
theorem pv(i:Nat){pos:Pos}(hN:X.N[i]?=aa x:=by rfl)(hv:Vis X.env.scope x:=by first|exact gU rfl|exact oh (gU rfl)|exact oh (oh rfl))(hd:(x==("__debug__":Str))=ak:=by lia)
  (hcd:(x==("__classdict__":Str))=ak:=by lia):PE X (.Name x pos) (zb i):=zgv hN hv hd hcd
end
theorem xv{c A B:Prop} [Decidable c](h1:c->A)(h2:¬ c->B):if c then A else B:=by
 by_cases h:c
 ·rw[am h]
  exact h1 h
 ·rw[aj h]
  exact h2 h
def Same(H H':Hp):Prop:=∀b o,H b=aa o->H' b=aa o
theorem Same.refl(H:Hp):Same H H:=λ_ _ h=>h
theorem Same.trans{H H1 H2:Hp}(a:Same H H1)(b:Same H1 H2):Same H H2:=λc o h=>b c o (a c o h)
section
variable {κ:Type} [DecidableEq κ]
theorem Qu{kvs:List (κ×V)}{k:κ}(h:z4 kvs k=ai):¬ k∈kvs.map (·.1):=by
 intro m
 obtain⟨p,hp,e⟩:=bE.mp m
 have q:(kvs.any λkv=>decide (kv.1=k))=af:=iH.mpr ⟨p,hp,Bj e⟩
 rw[wU,h] at q
 exact absurd q (by simp)
theorem zbE{kvs:List (κ×V)}{k:κ}{v:V}(h:z4 kvs k=aa v):k∈kvs.map (·.1):=by
 have q:(kvs.any λkv=>decide (kv.1=k))=af:=by
  rw[wU,h]
  all_goals rfl
 obtain⟨p,hp,e⟩:=iH.mp q
 exact bE.mpr ⟨p,hp,of_decide_eq_true e⟩
theorem zbF:∀ {l:List κ} {k:κ},l.Nodup->¬ k∈l->(l++[k]).Nodup
 |[],k,_,_=>by simp
 |a::r,k,h,hk=>by
  obtain⟨h1,h2⟩:=bZ.mp h
  show (a::(r++[k])).Nodup
  refine bZ.mpr ⟨λm=>?_,zbF h2 λm=>hk (bD.mpr (oh m))⟩
  rcases bx.mp m with q|q
  ·exact h1 q
  ·exact hk (bD.mpr (gU (br.mp q).symm))
theorem zfh{kvs:List (κ×V)}{k:κ}(v:V)(hn:(kvs.map (·.1)).Nodup)(h:z4 kvs k=ai):((yA kvs k v).map (·.1)).Nodup:=by
 rw[vQ v h,bM]
 exact zbF hn (Qu h)
theorem Jm{p:κ×V}{r:List (κ×V)}(e:p.1=k):ye (p::r) k=ye r k:=by
 unfold ye
 rw[dh,aj (by simp[e])]
theorem Xo{p:κ×V}{r:List (κ×V)}(e:¬ p.1=k):ye (p::r) k=p::ye r k:=by
 unfold ye
 rw[dh,am (by simp[e])]
theorem zdn:∀ {kvs:List (κ×V)} {k:κ},¬ k∈kvs.map (·.1)->ye kvs k=kvs
 |[],_,_=>rfl
 |p::r,k,h=>by
  have h':¬ k∈r.map (·.1):=λm=>by
   obtain⟨q,hq,e⟩:=bE.mp m
   exact h (bE.mpr ⟨q,bD.mpr (oh hq),e⟩)
  rw[Xo λe=>h (bE.mpr ⟨p,bD.mpr (gU rfl),e⟩),zdn h']
theorem zcv{kvs:List (κ×V)}{p:κ×V}(h:p∈ye kvs k):p∈kvs:=(cH.mp h).1
end
end L2
set_option Elab.async false
set_option linter.all false
set_option maxRecDepth 100000
set_option maxHeartbeats 4000000
namespace L2
open PySem PySem.Spec PyProof.Rows
def Cx.comp(X:Cx)(scope:az)(cl:List (Str×ac))(C:ac)(N:List Str)(fp:List ac)(s:ah)(H:Hp):Cx :=
 { X with env:=compEnvC scope cl C X.env,N:=N,s₀:=s,H₀:=H,outer:=X.stack,ex:=fp,fn:=λ_=>ak,pn:=[],xe:=λ_ _=>False }
structure Zz(X:Cx)(scope:az)(cl:List (Str×ac))(ix:List Nat):Prop where
 clos:closureFor scope X.env=pure cl
 nocell:∀y∈scope.names,y.2≠.cell
 kind:scope.kind=.function
 names:∀y∈scope.names,y.2=.local->scope.names.lookup y.1=aa .local
 sub:∀y c,cl.lookup y=aa c->X.env.cells.lookup y=aa c
 has:∀y,((relabel scope X.env).names.lookup y=aa .cell\/(relabel scope X.env).names.lookup y=aa .free)->∃c,cl.lookup y=aa c
 cap:∀i∈ix,∃y,X.N[i]?=aa y/\(X.env.kindOf y=aa .cell\/X.env.kindOf y=aa .free)/\((relabel scope X.env).names.lookup y=aa .cell\/(relabel scope X.env).names.lookup y=aa .free)
def qI(scope:az)(env:Env):List (Str×ac):=scope.names.foldl (λcs y=>if y.2==.free then (y.1,(env.cells.lookup y.1).getD 0)::cs else cs) []
def zbG(osc:az)(N:List Str)(sc:az)(ix:List Nat):Bool :=
 sc.kind==.function&&sc.names.all (λy=>y.2 != .cell&&(y.2 != .local || sc.names.lookup y.1==aa .local)&&(y.2 != .free || osc.names.lookup y.1==aa .cell || osc.names.lookup y.1==aa .free)) &&
  ix.all λi=>match N[i]? with
   |some y=>sc.names.lookup y==aa .free
   |none=>ak
theorem wV{l:List (Str×NameKind)}{y:Str}(h:l.lookup y=aa k):(y,k)∈l:=eN h
theorem kL{env:Env}:∀ {names:List (Str×NameKind)} {x:Str} {k:NameKind},(names.map λ(n,k)=>if (k==c9&&env.scope.kind==.function&&env.kindOf n==aa .cell) then (n,mq) else (n,k)).lookup x=aa k ->
  ∃k',names.lookup x=aa k'/\(k'=.free\/k'=k)
 |[],_,_,h=>by simp at h
 |(n,k')::r,x,k,h=>by
  have ih:=@kL env r x k
  rw[bo] at h
  cases hx:x==n with
  |true =>
   by_cases hc:(k'==c9&&env.scope.kind==.function&&env.kindOf n==aa .cell)=af
   ·have e:k'=.free:=by
     have:=(b5 _ _ ▸ (b5 _ _ ▸ hc).1).1
     simpa using this
    exact⟨k',by simp[b7,hx],.inl e⟩
   ·simp only[aj hc,b7,hx] at h
    exact⟨k',by simp[b7,hx],.inr (bQ h)⟩
  |false =>
   have h':(r.map λ(n,k)=>if (k==c9&&env.scope.kind==.function&&env.kindOf n==aa .cell) then (n,mq) else (n,k)).lookup x=aa k:=by
    by_cases hc:(k'==c9&&env.scope.kind==.function&&env.kindOf n==aa .cell)=af
    ·simp only[am hc,b7,hx] at h;exact h
    ·simp only[aj hc,b7,hx] at h;exact h
   obtain⟨q,e,r'⟩:=ih h'
   exact⟨q,by simp only[b7,hx];exact e,r'⟩
theorem YH{env:Env}:∀ {names:List (Str×NameKind)} {x:Str},names.lookup x=aa .free ->
  ((names.map λ(n,k)=>if (k==c9&&env.scope.kind==.function&&env.kindOf n==aa .cell) then (n,mq) else (n,k)).lookup x=aa .cell \/
   (names.map λ(n,k)=>if (k==c9&&env.scope.kind==.function&&env.kindOf n==aa .cell) then (n,mq) else (n,k)).lookup x=aa .free)
 |[],_,h=>by simp at h
 |(n,k')::r,x,h=>by
  have ih:=@YH env r x
  rw[bo]
  cases hx:x==n with
  |true =>
   simp only[b7,hx] at h
   cases h
   by_cases hc:(c9==c9&&env.scope.kind==.function&&env.kindOf n==aa .cell)=af
   ·left;simp only[am hc,b7,hx]
   ·right;simp only[aj hc,b7,hx]
  |false =>
   simp only[b7,hx] at h
   by_cases hc:(k'==c9&&env.scope.kind==.function&&env.kindOf n==aa .cell)=af
   ·simp only[am hc,b7,hx];exact ih h
   ·simp only[aj hc,b7,hx];exact ih h
theorem Jn{env:Env}:∀(l:List (Str×NameKind)) (cs:List (Str×ac)),(∀y∈l,y.2=.free->∃c,env.cells.lookup y.1=aa c) ->
  (∀y c,cs.lookup y=aa c->env.cells.lookup y=aa c)->∀y c,(l.foldl (λcs y=>if y.2==.free then (y.1,(env.cells.lookup y.1).getD 0)::cs else cs) cs).lookup y=aa c->env.cells.lookup y=aa c
 |[],_,_,h,y,c,e=>h y c e
 |z::r,cs,hl,h,y,c,e=>by
  rw[eO] at e
  refine Jn r _ (λy hy=>hl y (bn _ hy)) (λy' c' e'=>?_) y c e
  by_cases hz:z.2=.free
  ·obtain⟨c0,h0⟩:=hl z bq hz
   have hb:(z.2==c9)=af:=by simpa using hz
   rw[am hb,h0,b7] at e'
   cases hq:y'==z.1 with
   |true =>
    rw[hq] at e'
    have e2:y'=z.1:=by simpa using hq
    cases e'
    rw[e2];exact h0
   |false=>rw[hq] at e';exact h _ _ e'
  ·have hb:(z.2==c9)=ak:=by simpa using hz
   rw[hb] at e'
   exact h _ _ e'
theorem Qv{env:Env}:∀(l:List (Str×NameKind)) (cs:List (Str×ac)) (y:Str),((∃c,cs.lookup y=aa c)\/(y,c9)∈l) ->
  ∃c,(l.foldl (λcs y=>if y.2==.free then (y.1,(env.cells.lookup y.1).getD 0)::cs else cs) cs).lookup y=aa c
 |[],_,_,h=>h.elim id λz=>nomatch z
 |z::r,cs,y,h=>by
  rw[eO]
  refine Qv r _ y ?_
  rcases h with ⟨c,h⟩|h
  ·left
   by_cases hz:(z.2==c9)=af
   ·rw[am hz,b7]
    cases y==z.1 with
    |true=>exact⟨_,rfl⟩
    |false=>exact⟨c,h⟩
   ·rw[aj hz];exact⟨c,h⟩
  ·rcases bD.mp h with h|h
   ·left
    subst h
    rw[am (by rfl),b7]
    simp
   ·exact .inr h
theorem Ka{env:Env}:∀(l:List (Str×NameKind)) (cs:List (Str×ac)),(∀y∈l,y.2=.free->∃c,env.cells.lookup y.1=aa c) ->
  forIn (m:=Sem) l cs (λx r=>match x with|(name,kind)=>if (kind==c9)=af then do let c <-cellOf env name;pure (fT ((name,c)::r)) else pure (fT r)) =
   pure (l.foldl (λcs y=>if y.2==.free then (y.1,(env.cells.lookup y.1).getD 0)::cs else cs) cs)
 |[],_,_=>rfl
 |(n,k)::r,cs,h=>by
  rw[List.forIn_cons,eO]
  by_cases hz:(k==c9)=af
  ·obtain⟨c,hc⟩:=h (n,k) bq (by simpa using hz)
   have e:cellOf env n=pure c:=by unfold cellOf;rw[hc]
   simp only[hz,if_true,e,pure_bind]
   rw[Ka r _ λy hy=>h y (bn _ hy)]
   simp only[hc,Option.getD_some]
  ·simp only[hz,if_false,pure_bind]
   exact Ka r _ λy hy=>h y (bn _ hy)
theorem YI(ok:X.Ok)(h:zbG osc N scope ix=af)(hs:X.env.scope=osc)(hN:X.N=N):Zz X scope (qI scope X.env) ix:=by
 subst hs hN
 unfold zbG at h
 rw[b5,b5,iI,iI] at h
 obtain⟨⟨h1,h2⟩,h3⟩:=h
 have p:∀y∈scope.names,y.2≠.cell/\(y.2=.local->scope.names.lookup y.1=aa .local)/\(y.2=.free->X.env.kindOf y.1=aa .cell\/X.env.kindOf y.1=aa .free):=λy hy=>by
  have q:=h2 y hy
  rw[b5,b5] at q
  obtain⟨⟨q1,q2⟩,q3⟩:=q
  refine⟨by simpa using q1,λe=>?_,λe=>?_⟩
  ·rw[e] at q2;simpa using q2
  ·rw[e] at q3
   have q3':X.env.scope.names.lookup y.1=aa .cell\/X.env.scope.names.lookup y.1=aa .free:=by simpa using q3
   exact q3'
 have f:∀y∈scope.names,y.2=.free->∃c,X.env.cells.lookup y.1=aa c:=λy hy e=>ok.has y.1 ((p y hy).2.2 e)
 refine⟨?_,λy hy=>(p y hy).1,by simpa using h1,λy hy=>(p y hy).2.1,λy c e=>Jn scope.names [] f (λ_ _ z=>by simp at z) y c e,λy hy=>?_,λi hi=>?_⟩
 ·have e:=Ka scope.names [] f
  unfold closureFor qI
  refine Eq.trans (congrArg (λm=>m >>= λs=>(pure s:Sem (List (Str×ac)))) e) ?_
  rw[pure_bind]
 ·refine Qv scope.names [] y (.inr ?_)
  rcases hy with hy|hy
  ·obtain⟨k',e,z|z⟩:=kL hy
   ·subst z;exact wV e
   ·subst z;exact absurd rfl (p _ (wV e)).1
  ·obtain⟨k',e,z|z⟩:=kL hy
   ·subst z;exact wV e
   ·subst z;exact wV e
 ·have q:=h3 i hi
  cases hy:X.N[i]? with
  |none=>rw[hy] at q;cases q
  |some y =>
   rw[hy] at q
   have q':scope.names.lookup y=aa .free:=by simpa using q
   exact⟨y,rfl,(p _ (wV q')).2.2 rfl,YH q'⟩
def zaW(ix:List Nat)(σ:St):St:=ix.map λi=>(σ[i]?).getD ai
def j7(ix:List Nat)(N:List Str):List Str:=ix.map λi=>(N[i]?).getD ""
section
variable {X:Cx}{pins:List (ac×Obj)}{σ:St}{H:Hp}{s:ah}{scope:az}{cl:List (Str×ac)}{ix:List Nat}{fp:List ac}{C:ac}{xs:List Str}
theorem Inv.compOk(I:Inv X pins σ H s)(S:Zz X scope cl ix)(hC:C=s.heap.objs.size)(hf:∀b∈fp,Z4 X pins H b)(hl:∀b∈fp,b<s.heap.objs.size)(N':List Str) :
  (X.comp scope cl C N' fp s H).Ok where
 mod:=I.ok.mod
 kind:=S.kind
 glob:=I.ok.glob
 blt:=I.ok.blt
 above:=mV hC.symm
 inj:=λx y c h1 h2=>I.ok.inj x y c (S.sub x c h1) (S.sub y c h2)
 has:=λx hx=>S.has x hx
 cab:=λx c h1 _=>nomatch h1
 hd:=I.ok.hd
 frames:=I.ok.frames
 stk:=.inl rfl
 exf:=λb hb=>⟨λz=>absurd (hl b hb) (by rw[z];show ¬ C<_;rw[hC];exact eS _),λx c h=>(hf b hb).2.2.2.2.1 x c (S.sub x c h)⟩
 bs:=I.bs
 bsz:=bK I.ok.bsz I.sz
 noex:=λb o e hb=>by
  rcases(hf b hb).2.2.2.1 with z|z
  ·exact I.ok.noex b o e z
  ·exact absurd (b9 (bO e) (bK I.ok.bsz z)) (eS _)
 exfs:=λb hb z=>by
  rcases bD.mp (I.stkSub b z) with e|e
  ·exact(hf b hb).2.1 e
  ·exact(hf b hb).2.2.1 e
 funs:=I.stack
 frf:=I.stkFree
theorem Inv.comp{h₁:av}{m₁:Str->Option ae}{t':Nat}(I:Inv X pins σ H s)(S:Zz X scope cl ix)(hC:C=s.heap.objs.size)(hf:∀b∈fp,Z4 X pins H b)(hl:∀b∈fp,b<s.heap.objs.size)
  (hn:h₁.Ns C m₁) (hk:∀b o,s.heap.get? b=aa o->h₁.get? b=aa o) :
  Inv (X.comp scope cl C (xs++j7 ix X.N) fp s H) [] (bY xs.length ai++zaW ix σ) H { s with heap:=h₁,toks:=t' } where
 ok:=I.compOk S hC hf hl _
 os:=rfl
 bare:=I.bare
 base:=Un.kept hk
 loc:=by
  refine⟨m₁,hn,λi y v e1 e2 e3=>?_⟩
  by_cases hi:i<xs.length
  ·rw[dX (by simpa using hi),l9,am hi] at e2
   cases e2
  ·have e1':(xs++j7 ix X.N)[i]?=aa y:=e1
   rw[gh (by lia)] at e1'
   rw[gh (by rw[fR];lia),fR] at e2
   generalize i-xs.length=j at e1' e2
   unfold j7 at e1'
   unfold zaW at e2
   rw[bp] at e1' e2
   cases hj:ix[j]? with
   |none=>rw[hj] at e1';cases e1'
   |some k =>
    rw[hj] at e1' e2
    obtain⟨y',c1,c2,c3⟩:=S.cap k (bW hj)
    have ey:y'=y:=by
     have q:(X.N[k]?).getD ""=y:=bQ e1'
     rw[c1] at q
     exact q
    subst ey
    have ev:σ[k]?=aa (aa v):=by
     have q:(σ[k]?).getD ai=aa v:=bQ e2
     cases hs:σ[k]? with
     |none=>rw[hs] at q;cases q
     |some o=>rw[hs] at q;exact congrArg aa q
    obtain⟨m,hm,hv⟩:=I.loc
    obtain⟨u,r,l⟩:=hv k y' v c1 ev (c2.elim (λz=>.inr (.inl z)) λz=>.inr (.inr z))
    refine⟨u,r,.inr ⟨c3,?_⟩⟩
    rcases l with ⟨l1,_⟩|⟨_,c,lc,⟨o,ho,hd⟩⟩
    ·rcases c2 with z|z <;> (rw[l1] at z;cases z)
    ·obtain⟨c',hc'⟩:=S.has y' c3
     have e:=S.sub _ _ hc'
     rw[lc] at e
     cases e
     exact⟨c,hc',o,hk _ _ ho,hd⟩
 cell:=λx c e=>by
  obtain⟨v,o,ho,hd⟩:=I.cell x c (S.sub x c e)
  exact⟨v,o,hk _ _ ho,hd⟩
 free:=I.hok.fresh (mV hC.symm)
 freeC:=λx c e=>I.freeC x c (S.sub x c e)
 pin:=λp hp=>absurd (show p∈([]:List (ac×Obj)) from hp) (by simp)
 hok:=I.hok.kept hk
 len:=by
  show (bY xs.length ai++zaW ix σ).length=(xs++j7 ix X.N).length
  rw[bw,bw,fR,zaW,j7,bd,bd]
theorem Inv.uncomp{σ':St}{H':Hp}{N':List Str}{h':av}(I:Inv X pins σ H s)(hC:C=s.heap.objs.size)(hf:∀b∈fp,Z4 X pins H b)
  (J:Inv (X.comp scope cl C N' fp s H) [] σ' H' s') (hb:cV C s'.heap h'):Inv X pins σ H' { s' with heap:=h' }:=by
 have lt:∀b o,s.heap.get? b=aa o->b≠C:=λb o e=>by
  rw[hC];exact cq (bO e)
 have B:Un (frs X.stack) fp H H' s.heap s'.heap:=J.base
 refine I.call' (s':={ s' with heap:=h' }) (ch:=fp) J.os ?_ ?_ J.bare ?_
 ·exact⟨λb o e n h1 h2=>(hb.2 b (lt b o e)).trans (B.keep b o e n h1 h2),λb o e n h1 h2=>by
   obtain⟨sl,q⟩:=B.slot b o e n h1 h2
   exact⟨sl,(hb.2 b (lt b o e)).trans q⟩,B.free,λb o e h1=>by
   obtain⟨o',q⟩:=B.there b o e h1
   exact⟨o',(hb.2 b (lt b o e)).trans q⟩,B.tups,B.frzs,B.tbls⟩
 ·intro b o e
  refine(J.hok b o e).stay (λc u hc q=>(hb.2 c ?_).trans q) (λ_ q=>q) λ_ _ q=>q
  have hC0:H' C=ai:=J.free
  rintro rfl
  rcases hc with rfl|hc
  ·rw[hC0] at e;cases e
  ·rw[hC0] at hc;cases hc
 ·intro b hb'
  obtain⟨f0,f1,f2,f3,f4,f5⟩:=hf b hb'
  exact⟨f3,f1,f4,f5⟩
end
def PTs(X:Cx)(ifs:List ay)(t:TT):Prop :=
 ∀(pins:List (ac×Obj)) (s:ah) (σ:St) (H:Hp) (Q:Bool->Hp->Prop),Inv X pins σ H s->t σ H Q ->
  Bf (Bg X.prog X.w) X.A (forIn ifs af λc r=>if r=af then do let ok <-isTrue c X.env (eval c X.env);pure (fT ok) else pure (fT r)) (TP X pins σ Q) X.xe s
def Xp:TT:=λ_ H Q=>Q af H
theorem ji :PTs X [] Xp:=λ_ _ _ H _ I h=>wpAny_tests_nil ⟨H,I,h⟩
section
variable {prog:aq}{w:au}{A:aw}{R:aA->ah->Prop}{s:ah}
theorem Kb{elt target iter:ay}{ifs:List ay}{scope:az}{pos:Pos}{it acc:ae}{env:Env}(W:Nat->ah->Prop){EE:ae->ah->Prop}
  (hE:∀e s',EE e s'->notedBy (Bg prog w) A env (λe s'=>R (.error e) s') e s')
  (turn:∀n s,W n s->Bf (Bg prog w) A (pyNext it) (λr s₁=>match r with
   |none=>R (.ok .next) s₁
   |some v=>Bf (Bg prog w) A (letOwnedTupleGo target it v) (λ_ t₁=>Bf (Bg prog w) A (assign target env v) (λ_ s₂ =>
     Bf (Bg prog w) A (forIn ifs af λc r=>if r=af then do let ok <-isTrue c env (eval c env);pure (fT ok) else pure (fT r)) (λok s₃ =>
      if ok=af then Bf (Bg prog w) A (eval elt env) (λx s₄=>Bf (Bg prog w) A (call (.builtin "list.append") [acc,x]) (λ_ s₅=>∃m,m<n/\W m s₅) EE s₄) EE s₃
      else ∃m,m<n/\W m s₃) EE s₂) EE t₁) EE s₁) EE s)
  (n:Nat) (h:W n s):codeAny (Bg prog w) A (.compLoop (.ListComp elt [⟨target,iter,ifs,0⟩] scope pos) 0 it acc env) R s:=by
 refine codeAny_loop rfl W (λn s hW=>?_) n h
 show Bf _ A ((compTurn (.ListComp elt [⟨target,iter,ifs,0⟩] scope pos) 0 it acc env).onRaise (λx=>do noteFrame x env;theTreesLotGoes x)) _ _ s
 refine wpAny_noted (dE ?_ (λ_ _ q=>q) hE)
 rw[compTurn_list]
 refine ba (wpAny_standAt (ba (thn (turn n s hW) λr s₁ h₁=>?_)))
 cases r with
 |none=>exact bh h₁
 |some v =>
  refine ba (thn h₁ λ_ t₁ k₁=>?_)
  refine ba (thn k₁ λ_ s₂ h₂=>ba (thn h₂ λok s₃ h₃=>?_))
  cases ok with
  |false=>exact bh ⟨rfl,h₃⟩
  |true=>exact ba (ba (thn h₃ λx s₄ h₄=>ba (thn h₄ λ_ s₅ h₅=>bh (bh ⟨rfl,h₅⟩))))
end
def vR(wi:TI)(g:TG)(tt:TT)(te:TE)(k:Nat)(ix:List Nat):TE:=λσ H Q=>wi σ H λJ H1=>∀D,H1 D=ai ->
 ∃W:Nat->Nat->List V->St->Hp->Prop,(∃m,W 0 m [] (bY k ai++zaW ix σ) (upd H1 D (.lst [])))/\∀i m ys τ H,W i m ys τ H->H D=aa (.lst ys) /\
  ((J.stop i H/\Q (.ref D) H)\/(J.go i H/\ys.length<Bb/\∃N:V->St->Hp->Prop,
   (∀v τ' H',N v τ' H'->H' D=aa (.lst ys)/\∃m',m'<m/\W (i+1) m' (ys++[v]) τ' (upd H' D (.lst (ys++[v]))))/\∃Nf:St->Hp->Prop,(∀τ' H',Nf τ' H'->∃m',m'<m/\W (i+1) m' ys τ' H') /\
   ∀x H',J.yld i H x H'->g x τ H' λτ2 H2=>tt τ2 H2 λb H3=>if b=af then te τ2 H3 λv H4=>N v τ2 H4 else Nf τ2 H3))
section
variable {X:Cx}{elt iter tg:ay}{ifs:List ay}{scope:az}{pos:Pos}{cl:List (Str×ac)}{ix:List Nat}{xs:List Str}{wi:TI}{g:TG}{tt:TT}{te:TE}
theorem WS(S:Zz X scope cl ix)(hc:X.calm=af)(hi:PI X tg iter wi)
  (hg:∀C fp s H,PG (X.comp scope cl C (xs++j7 ix X.N) fp s H) tg g) (ht:∀C fp s H,PTs (X.comp scope cl C (xs++j7 ix X.N) fp s H) ifs tt)
  (he:∀C fp s H,PE (X.comp scope cl C (xs++j7 ix X.N) fp s H) elt te)
  {s:ah} {σ:St} {H:Hp} {Q:VK} (I:Inv X pins σ H s) (h:vR wi g tt te xs.length ix σ H Q) {RR:ae->ac->aA->ah->Prop}
  (hR:∀v u s' C,RelV v u->(∃H',Q v H'/\(∃m,s'.heap.Ns C m)/\(∀h',cV C s'.heap h'->Inv X pins σ H' { s' with heap:=h' })/\Z4 X pins H' C)->RR u C (.ok .next) s') :
  Bf (Bg X.prog X.w) X.A (eval iter X.env) (λx s₁=>Bf (Bg X.prog X.w) X.A (pyIter x) (λit s₂=>Bf (Bg X.prog X.w) X.A (newList []) (λacc s₃ =>
   Bf (Bg X.prog X.w) X.A (newFunctionEnv scope X.env.globals cl [] X.env.qual ai .none (aa X.env)) (λcenv s₄ =>
    codeAny (Bg X.prog X.w) X.A (.compStart (.ListComp elt [⟨tg,iter,ifs,0⟩] scope pos) 0 it acc { cenv with scope:=relabel scope X.env }) (RR acc cenv.locals) s₄) X.xe s₃) X.xe s₂) X.xe s₁) X.xe s:=by
 refine thn (hi pins s σ H _ I h) λv s1 h1=>thn h1 λitv s2 h2=>?_
 obtain⟨it,fp,tn,J,H2,e,I2,T,st2,f2,hW⟩:=h2
 subst e
 refine dn (wpAny_newFunctionEnv S.nocell (λy hy=>nomatch hy) (λh₁ hns₁ hsb₁=>?_) S.kind)
 dsimp only at hns₁ hsb₁ ⊢
 obtain⟨W,⟨m0,w0⟩,turn⟩:=hW s2.heap.objs.size I2.fresh
 have I3:=I2.lnew (t':=s2.toks) (ys:=[]) (its:=[]) .nil (bP _)
 have hl3:∀b∈fp,b<s2.heap.objs.size:=λb hb=>by
  obtain⟨o,e,_⟩:=T.obj _ _ st2 b hb
  exact bO e
 generalize hs3:({ s2 with heap:=s2.heap.push { cls:=.type "list",data:=.seq ([]:List ae).toArray },toks:=s2.toks }:ah)=s3 at I3
 have hs3h:s3.heap=s2.heap.push { cls:=.type "list",data:=.seq ([]:List ae).toArray }:=by rw[<-hs3]
 have hsz:s3.heap.objs.size=s2.heap.objs.size+1:=by rw[hs3h,ii]
 have f3:∀b∈fp,Z4 X pins (upd H2 s2.heap.objs.size (.lst [])) b:=λb hb=>by
  obtain⟨q0,q⟩:=f2 b hb
  exact⟨by rw[zi (cq (hl3 b hb))];exact q0,q⟩
 have hl3':∀b∈fp,b<s3.heap.objs.size:=λb hb=>by rw[hsz];exact Nat.lt_succ_of_lt (hl3 b hb)
 rw[<-hs3h] at hns₁ hsb₁ ⊢
 have hk:∀b o,s3.heap.get? b=aa o->h₁.get? b=aa o:=λb o e=>(hsb₁.2 b (cq (bO e))).trans (bg _ e)
 have hk2:∀b o,s2.heap.get? b=aa o->s3.heap.get? b=aa o:=λb o e=>by rw[hs3h];exact bg _ e
 have J0:=I3.comp (xs:=xs) (t':=s2.toks) (C:=s3.heap.objs.size) S rfl f3 hl3' hns₁ hk
 have st3:tn 0 h₁:=T.keep _ _ _ st2 λb _ o e=>hk b o (hk2 b o e)
 have loop:∀tk,codeAny (Bg X.prog X.w) X.A (.compLoop (.ListComp elt [⟨tg,iter,ifs,0⟩] scope pos) 0 (.ref it) (.ref s2.heap.objs.size) (compEnvC scope cl s3.heap.objs.size X.env))
   (RR (.ref s2.heap.objs.size) s3.heap.objs.size) { s3 with heap:=h₁,toks:=tk }:=by
  intro tk
  refine Kb (EE:=λ_ _=>False) (λn s'=>∃i ys τ H',Inv (X.comp scope cl s3.heap.objs.size (xs++j7 ix X.N) fp s3 (upd H2 s2.heap.objs.size (.lst []))) [] τ H' s'/\tn i s'.heap/\(∀b∈fp,H' b=ai)/\W i n ys τ H')
   (λ_ _ z=>z.elim) ?_ m0 ⟨0,[],_,_,J0.tok tk,st3,λb hb=>(f3 b hb).1,w0⟩
  rintro n s' ⟨i,ys,τ,H',I',st',fr',w'⟩
  have stat:∀ {H':Hp},(∀b∈fp,H' b=ai)->∀b∈fp,Z4 (X.comp scope cl s3.heap.objs.size (xs++j7 ix X.N) fp s3 (upd H2 s2.heap.objs.size (.lst []))) [] H' b:=λhn b hb =>
   ⟨hn b hb,(I'.ok.exf b hb).1,I'.ok.exfs b hb,.inl hb,(I'.ok.exf b hb).2,λp hp=>absurd (show p∈([]:List (ac×Obj)) from hp) (by simp)⟩
  obtain⟨hD,⟨stop,q⟩|⟨go,hz,N,hN,Nf,hNf,step⟩⟩:=turn i n ys τ H' w'
  ·refine thn (T.done (X.comp scope cl s3.heap.objs.size (xs++j7 ix X.N) fp s3 (upd H2 s2.heap.objs.size (.lst []))) rfl rfl rfl hc i [] s' τ H' _ I' (stat fr') st' stop) λr s4 ⟨hr,I4⟩=>?_
   subst hr
   refine hR (.ref s2.heap.objs.size) _ s4 _ rfl ⟨H',q,?_,λh' hb=>I3.uncomp rfl f3 I4 hb,I3.fpOk (bi _) I4.free⟩
   obtain⟨m,hn,_⟩:=I4.loc
   exact⟨m,hn⟩
  ·refine thn (T.item (X.comp scope cl s3.heap.objs.size (xs++j7 ix X.N) fp s3 (upd H2 s2.heap.objs.size (.lst []))) rfl rfl rfl hc i [] s' τ H' _ I' (stat fr') st' go) λr s4 ⟨u,hr,h4⟩=>?_
   subst hr
   refine thn h4 λ_ s5 ⟨x,H5,I5,r5,y5,st5,fr5⟩=>?_
   have I5':=I5.pinned (stat fr5) (T.obj _ _ st5)
   refine thn (hg _ _ _ _ _ s5 τ H5 x u _ I5' r5 (step x H5 y5)) λ_ s6 ⟨τ6,H6,I6,q6⟩=>?_
   refine thn (ht _ _ _ _ _ s6 τ6 H6 _ I6 q6) λok s7 ⟨H7,I7,q7⟩=>?_
   have back:∀ {s8:ah} {H8:Hp} {m:Nat} {zs:List V},Inv (X.comp scope cl s3.heap.objs.size (xs++j7 ix X.N) fp s3 (upd H2 s2.heap.objs.size (.lst []))) ([]++WJ fp s5.heap) τ6 H8 s8->W (i+1) m zs τ6 H8 ->
     ∃i ys τ H',Inv (X.comp scope cl s3.heap.objs.size (xs++j7 ix X.N) fp s3 (upd H2 s2.heap.objs.size (.lst []))) [] τ H' s8/\tn i s8.heap/\(∀b∈fp,H' b=ai)/\W i m ys τ H':=λ{s8 H8 m zs} I8 w8=>by
    refine⟨i+1,zs,τ6,H8,I8.unpinned,T.keep _ _ _ st5 λb hb o e=>(I8.pin (b,o) (bI _ (bI _ (kF hb e)))).1,λb hb=>?_,w8⟩
    obtain⟨o,e,d⟩:=T.obj _ _ st5 b hb
    exact(I8.pin (b,o) (bI _ (bI _ (kF hb e)))).2.1
   cases ok with
   |false =>
    rw[aj bJ] at q7 ⊢
    obtain⟨m',hm,w7⟩:=hNf _ _ q7
    exact⟨m',hm,back I7 w7⟩
   |true =>
    rw[am rfl] at q7 ⊢
    refine thn (he _ _ _ _ _ s7 τ6 H7 _ I7 q7) λy s8 ⟨v8,H8,I8,r8,n8⟩=>?_
    obtain⟨hD8,m',hm,w8⟩:=hN _ _ _ n8
    refine thn (yM _ s8 τ6 H8 (.ref s2.heap.objs.size) [v8] (.ref s2.heap.objs.size) [y] (λ_ Hn=>∃m,m<n/\W (i+1) m (ys++[v8]) τ6 Hn) I8 rfl (.cons r8 .nil) ⟨_,ys,v8,rfl,rfl,hD8,hz,m',hm,w8⟩) λ_ s9 ⟨_,H9,I9,_,m9,hm9,w9⟩=>?_
    exact⟨m9,hm9,back I9 w9⟩
 have e3:∀tk,({ s3 with heap:=h₁,toks:=tk }:ah)={ s2 with heap:=h₁,toks:=tk }:=λtk=>by rw[<-hs3]
 have loop':∀tk,codeAny (Bg X.prog X.w) X.A (.compLoop (.ListComp elt [⟨tg,iter,ifs,0⟩] scope pos) 0 (.ref it) (.ref s2.heap.objs.size) (compEnvC scope cl s3.heap.objs.size X.env))
   (RR (.ref s2.heap.objs.size) s3.heap.objs.size) { s2 with heap:=h₁,toks:=tk }:=λtk=>by rw[<-e3];exact loop tk
 exact codeAny_compStart_list (loop' _) (T.self _ 0 _ _ _ st3 (loop' _))
theorem Kc(hc:X.calm=af)(hD:zbG osc N scope ix=af)(hi:PI X tg iter wi)
  (hg:∀C fp s H,PG (X.comp scope (qI scope X.env) C (xs++j7 ix X.N) fp s H) tg g) (ht:∀C fp s H,PTs (X.comp scope (qI scope X.env) C (xs++j7 ix X.N) fp s H) ifs tt)
  (he:∀C fp s H,PE (X.comp scope (qI scope X.env) C (xs++j7 ix X.N) fp s H) elt te) (hsc:X.env.scope=osc:=by rfl) (hN:X.N=N:=by rfl) (hs:∀x,foldedSetIterable iter X.env x=pure x:=by intro _;rfl) :
  PE X (.ListComp elt [⟨tg,iter,ifs,0⟩] scope pos) (vR wi g tt te xs.length ix):=by
 intro pins s σ H Q I h
 have S:=YI I.ok hD hsc hN
 rw[eval_ListComp]
 refine lP (use:=ai) rfl hs S.clos S.kind S.names (WS S hc hi hg ht he I h (RR:=λacc C=>compPost (Bg X.prog X.w) X.A X.xe ai (EP X pins σ Q) acc C) ?_)
 rintro v u s' C r ⟨H',q,⟨m,hn⟩,hI,_⟩
 exact⟨m,hn,λh' hb=>⟨v,H',hI h' hb,r,q⟩⟩
theorem vS{N:List Str}{y:Str}{py:Pos}{j:Nat}{spos:Pos}(hNd:X.N.Nodup)(hj:X.N[j]?=aa y)(hc:X.calm=af)(hy:Loc X.env.scope y)(hD:zbG osc N scope ix=af)(hi:PI X tg iter wi)
  (hg:∀C fp s H,PG (X.comp scope (qI scope X.env) C (xs++j7 ix X.N) fp s H) tg g) (ht:∀C fp s H,PTs (X.comp scope (qI scope X.env) C (xs++j7 ix X.N) fp s H) ifs tt)
  (he:∀C fp s H,PE (X.comp scope (qI scope X.env) C (xs++j7 ix X.N) fp s H) elt te) (hsc:X.env.scope=osc:=by rfl) (hN:X.N=N:=by rfl)
  (hsw:swapsWith (.ListComp elt [⟨tg,iter,ifs,0⟩] scope pos) (aa (.Name y py)) spos.line X.env=pure af:=by rfl)
  (hs:∀x,foldedSetIterable iter X.env x=pure x:=by intro _;rfl) (hf:X.fn y=af\/X.env.scope.names.lookup y=aa .local:=by first|exact .inl rfl|exact .inr rfl|assumption) :
  PS X (.Assign [.Name y py] (.ListComp elt [⟨tg,iter,ifs,0⟩] scope pos) spos) (zL (vR wi g tt te xs.length ix) (zp j)):=by
 intro pins s σ H D I h
 have S:=YI I.ok hD hsc hN
 rw[exec_Assign_Name_used _ _ _ _ hsw]
 refine ba (wpAny_standAt (ba ?_))
 show Bf _ X.A (do let _ <-comprehension (.ListComp elt [⟨tg,iter,ifs,0⟩] scope pos) scope X.env _ (newList []) ak (eval iter X.env) (aa (assign (.Name y py) X.env))) _ _ s
 refine ba (thn (lP (use:=aa (assign (.Name y py) X.env)) (Q:=λ_ s'=>SP X pins D .next s') rfl hs S.clos S.kind S.names
  (WS S hc hi hg ht he I h (RR:=λacc C=>compPost (Bg X.prog X.w) X.A X.xe (aa (assign (.Name y py) X.env)) (λ_ s'=>SP X pins D .next s') acc C) ?_)) λ_ s' hq=>bh (bh hq))
 rintro v u s' C r ⟨H',q,⟨m,hn⟩,hI,f0,f1,f2,f3,f4,f5⟩
 have I':Inv X pins σ H' s':=hI s'.heap (.refl ..)
 show Bf _ X.A (assign (.Name y py) X.env u) _ _ _
 refine wpAny_assign_Name (Jc I' hNd hj hy r (λs2 I2 hx=>?_) hf)
 obtain⟨a,hb,ha⟩:=hx
 have hCa:C≠a:=by
  rcases ha with rfl|ha
  ·exact f1
  ·exact eL (f4 _ _ ha)
 refine⟨m,hn.sameBut hb hCa,λh' hb'=>⟨_,H',?_,q⟩⟩
 exact I2.turned (t':=s2.toks) (λb o hne e=>(hb'.2 b hne).trans e) f0 f1 f3 f4 f5
end
abbrev WT:R2:=λx y H Q=>∃i j,x=.str i/\y=.str j/\i.length+j.length<=Bb/\Q (.str (i++j)) H
abbrev zgI:R2:=λx y H Q=>y=.non/\Q (.bl (decide (x=.non))) H
abbrev Jo:R2:=λx y H Q=>y=.non/\Q (.bl (!decide (x=.non))) H
abbrev RC:=List V->Hp->VK->Prop
abbrev wF(K:bt):RC:=λxs H Q=>∃x n,xs=[x]/\zcj K x H n/\Q (.int n) H
abbrev Wc(K:bt):RC:=λxs H Q=>∃x c t b,xs=[x,c]/\Z7 K H x t/\(∃T,c=.ty T/\fA K t (.type T)=aa b)/\Q (.bl b) H
abbrev RM:=V->List V->Hp->VK->Prop
theorem zfi{H:Hp}(h:H p=ai):∃H',H'=upd H p o/\Same H H'/\H' p=aa o:=
 ⟨_,rfl,λb u e=>by rw[zi (zx e h)];exact e,zh⟩
theorem isV(p:ac){H:Hp}(h:H p=ai):Same H (upd H p o):=λb u e=>by rw[zi (zx e h)];exact e
theorem yI:Bh "len"=aa (.builtin "len"):=by lia
theorem yR:Bh "isinstance"=aa (.builtin "isinstance"):=by lia
theorem Xq:Bh "sorted"=aa (.builtin "sorted"):=by lia
theorem zgJ:Bh "sum"=aa (.builtin "sum"):=by lia
theorem zdo:Bh "str"=aa (.type "str"):=by lia
theorem zdp:Bh "int"=aa (.type "int"):=by lia
theorem zbH:Bh "bool"=aa (.type "bool"):=by lia
theorem jj:Bh "list"=aa (.type "list"):=by lia
theorem Qw:Bh "tuple"=aa (.type "tuple"):=by lia
theorem zbI:Bh "dict"=aa (.type "dict"):=by lia
section
variable {X:Cx}
def big:Int:=10^200
def yu(_ j:Int):Prop:=0<j/\j<big
def CMulB(i j:Int):Prop:=(-big<i/\i<big)/\(-big<j/\j<big)
theorem WU{j:Int}(h:j.natAbs<10^200):j.natAbs.log2<700:=by
 by_cases h0:j.natAbs=0
 ·rw[h0];decide
 ·exact(Nat.log2_lt h0).mpr (b9 h (by lia))
theorem Kd{j:Int}(h:-big<j/\j<big):j.natAbs<10^200:=by
 have e:big=((10^200:Nat):Int):=by lia
 rw[e] at h
 lia
theorem CMulB.ok{i j:Int}(h:CMulB i j):IntMulOk i j:=by
 have b:∀k:Int,(-big<k/\k<big)->dz k<=2^20:=λk hk=>by
  have q:=WU (Kd hk)
  unfold dz
  split <;> lia
 exact .of_bits (b i h.1) (b j h.2)
theorem wS:OpR X (binaryOp .Mult) (rI CMulB λi j=>.int (i*j)):=opI λ_ _ _ _ _ _ _ hc q=>mul_int q hc.ok
theorem zV:OpR X (binaryOp .FloorDiv) (rI yu λi j=>.int (i/j)):=opI λi j _ _ _ _ _ hc q=>by
 have h1:(0:Int)<j:=hc.1
 refine floordiv_int (by lia) ?_ (.inl (lQ (oP (WU (Kd ⟨by have:=hc.2;lia,hc.2⟩)) (by lia))))
 rw[Int.fdiv_eq_ediv_of_nonneg i (by lia)]
 exact q
theorem vT:jW X (.builtin "isinstance") (Wc X.K):=by
 intro pins s σ H xs us Q I r h
 obtain⟨x,c,t,b,rfl,ty,⟨T,rfl,e⟩,q⟩:=h
 obtain⟨u,w',rfl,r1,r2⟩:=zhr r
 cases r2
 exact zco I r1 ty e λtk=>⟨.bl b,H,I.tok tk,rfl,q⟩
def zgK:V->Option Int->Option Int->Hp->VK->Prop:=λx lo hi H Q=>∃z,x=.str z/\z.length<=Bb/\Q (.str (gB z lo hi)) H
theorem zdq:SlR X zgK:=by
 intro pins s σ H x v vl vu lo hi sl Q I rx hs pl pu h
 obtain⟨z,rfl,hz,q⟩:=h
 obtain⟨t,rfl⟩:=rx
 obtain⟨o,ho,hc,hd⟩:=hs
 refine⟨"str",_,F.slot_str_getitem.lookup,nB _ _ _,?_⟩
 obtain⟨l,e1,e2⟩:∃l:Option (Int×Tok),vl=partValue l/\lo=l.map (·.1):=by
  cases pl with
  |none=>exact⟨ai,rfl,rfl⟩
  |int i t=>exact⟨aa (i,t),rfl,rfl⟩
 obtain⟨u,e3,e4⟩:∃l:Option (Int×Tok),vu=partValue l/\hi=l.map (·.1):=by
  cases pu with
  |none=>exact⟨ai,rfl,rfl⟩
  |int i t=>exact⟨aa (i,t),rfl,rfl⟩
 subst e1 e2 e3 e4
 exact wpAny_getItem_str_slice (l:=l) (u:=u) (st:=ai) ⟨o,ho,hc,hd⟩ rfl
  (post_val_or_str ⟨bK (Txt.slice_le z _ _) hz,λt' k=>⟨.str (gB z (l.map (·.1)) (u.map (·.1))),H,I.tok k,⟨t',rfl⟩,q⟩⟩)
end
theorem ObjOk.there{H:Hp}(x:ObjOk P w H h a o):∃u,h.get? a=aa u:=by
 cases o with
 |lst xs=>obtain⟨_,_,_,_,e⟩:=x;exact⟨_,e⟩
 |tup xs=>obtain⟨_,_,_,o,e,_⟩:=x;exact⟨_,e⟩
 |dK kvs=>obtain⟨_,_,_,_,o,_,_,e,_⟩:=x;exact⟨_,e⟩
 |dT kvs=>obtain⟨_,_,_,_,o,_,_,e,_⟩:=x;exact⟨_,e⟩
 |set S n=>obtain⟨o,_,_,_,e,_⟩:=x;exact⟨_,e⟩
 |ins C dx fs=>obtain⟨_,_,_,e,_⟩:=x;exact⟨_,e⟩
 |own y=>exact x
 |xd fs=>obtain⟨_,⟨o,_,_,e,_⟩,_⟩:=x;exact⟨_,e⟩
 |rng lo hi=>obtain⟨_,_,_,e⟩:=x;exact⟨_,e⟩
 |frz ob u=>obtain⟨e,_⟩:=x;exact⟨_,e⟩
 |tbl ps=>exact⟨_,(show h.get? a=aa _ from x)⟩
 |met f y=>exact⟨_,(show h.get? a=aa _ from x)⟩
 |ext φ=>obtain⟨_,e,_⟩:=x;exact e
def XF(g h:av)(H:Hp)(e:ac)(cls:ae):Prop :=
 ∃oe vs a0 T oT ts,h.get? e=aa oe/\(oe.cls=cls/\vs[0]?=aa a0)/\oe.data=.fields vs/\vs[1]?=aa (.ref T)/\T≠e/\h.get? T=aa oT/\oT.data=.fields ts/\ts[3]?=aa .none /\
  g.get? e=ai/\g.get? T=ai/\H e=ai/\H T=ai
def CX1(P:aq)(w:au):CXT:=λouter H s E ev s'=>∃e cls H',ev=.ref e/\s'.os=s.os/\AllBare s'.gens/\Un (frs outer) [] H H' s.heap s'.heap/\HOk P w H' s'.heap/\XF s.heap s'.heap H' e cls/\E cls ai H'
theorem j8{g h:av}(k:∀b o,g.get? b=aa o->∃o',h.get? b=aa o')(e:h.get? b=ai):g.get? b=ai:=by
 cases q:g.get? b with
 |none=>rfl
 |some o =>
  obtain⟨o',z⟩:=k b o q
  rw[e] at z;cases z
theorem XF.older{H:Hp}(x:XF g h H e cls)(k:∀b o,g'.get? b=aa o->∃o',g.get? b=aa o'):XF g' h H e cls:=by
 obtain⟨oe,vs,a0,T,oT,ts,h1,h2,h3,h4,h5,h6,h7,h8,h9,h10,h11,h12⟩:=x
 exact⟨oe,vs,a0,T,oT,ts,h1,h2,h3,h4,h5,h6,h7,h8,j8 k h9,j8 k h10,h11,h12⟩
section
variable {X:Cx}{pins:List (ac×Obj)}{σ:St}{H:Hp}{s:ah}
theorem Inv.stackFields(J:Inv X pins σ H s)(hb:b∈frs X.stack):∃o,s.heap.get? b=aa o/\∀vs,o.data≠.fields vs:=(J.stack.mem hb).2
theorem Inv.there0(hex:X.ex=[])(J:Inv X pins σ H s):∀b o,X.s₀.heap.get? b=aa o->∃o',s.heap.get? b=aa o':=λb o e=>J.base.there b o e (by rw[hex];simp)
theorem Inv.behind{cs:List ac}(hex:X.ex=[])(J:Inv X pins σ H s)(hcs:∀b∈cs,H b=ai/\X.s₀.heap.get? b=ai)
  (hB:∀b o,s.heap.get? b=aa o->b ∉ frs X.stack->b ∉ cs->h2.get? b=aa o) (hF:∀b o,s.heap.get? b=aa o->b∈frs X.stack->∃sl,h2.get? b=aa { o with slots:=sl }) :
  Un X.fs [] X.H₀ H X.s₀.heap h2/\HOk X.prog X.w H h2:=by
 have B:Un X.fs [] X.H₀ H X.s₀.heap s.heap:=by have:=J.base;rw[hex] at this;exact this
 have nL:∀b o,X.s₀.heap.get? b=aa o->b≠X.env.locals:=λb o e=>cq (b9 (bO e) J.ok.above)
 have nC:∀b o,X.s₀.heap.get? b=aa o->b ∉ cs:=λb o e z=>by rw[(hcs b z).2] at e;cases e
 have any:∀b o,s.heap.get? b=aa o->b ∉ cs->∃sl,h2.get? b=aa { o with slots:=sl }:=λb o e n=>by
  by_cases hb:b∈frs X.stack
  ·exact hF b o e hb
  ·exact⟨o.slots,hB b o e hb n⟩
 refine⟨⟨λb o e n h1 _=>?_,λb o e n h1 _=>?_,B.free,λb o e h1=>?_,B.tups,B.frzs,B.tbls⟩,λb u e=>?_⟩
 ·refine hB b o (B.keep b o e n h1 (by simp)) (λz=>?_) (nC b o e)
  rcases bD.mp (J.stkSub b z) with q|q
  ·exact nL b o e q
  ·exact h1 q
 ·obtain⟨sl,q⟩:=B.slot b o e n h1 (by simp)
  obtain⟨sl',q'⟩:=any b _ q (nC b o e)
  exact⟨sl',q'⟩
 ·obtain⟨o',q⟩:=B.there b o e (by simp)
  obtain⟨sl,q'⟩:=any b o' q (nC b o e)
  exact⟨_,q'⟩
 ·refine(J.hok b u e).stay (λc v hc q=>?_) (λ_ q=>q) λ_ _ q=>q
  have hn:H c≠ai:=by
   rcases hc with rfl|hc
   ·rw[e];simp
   ·rw[hc];simp
  exact hB c v q (λz=>hn (J.stkFree c z)) λz=>hn (hcs c z).1
theorem Inv.flown{cs:List ac}(hex:X.ex=[])(J:Inv X pins σ H s)(hcs:∀b∈cs,H b=ai/\X.s₀.heap.get? b=ai)
  (hB:∀b o,s.heap.get? b=aa o->b ∉ frs X.stack->b ∉ cs->B.get? b=aa o) (hF:∀b o,s.heap.get? b=aa o->b∈frs X.stack->∃sl,h2.get? b=aa { o with slots:=sl })
  (he:H e=ai) (he0:X.s₀.heap.get? e=ai) (kb:B.StaysIn h2) (tr:h2.TracedW B e cls a0) :
  Un X.fs [] X.H₀ H X.s₀.heap h2/\HOk X.prog X.w H h2/\XF X.s₀.heap h2 H e cls:=by
 have hk:=J.behind (h2:=h2) hex hcs (λb o q n1 n2=>kb b o (hB b o q n1 n2)) hF
 refine⟨hk.1,hk.2,?_⟩
 obtain⟨oe,vs,T,oT,ts,h1,h2',h3,h4,h5,h6,h7,h8,h9⟩:=tr
 have noT:∀o,s.heap.get? T=aa o->T∈cs:=λo q=>by
  by_cases hb:T∈frs X.stack
  ·obtain⟨o',q',nf⟩:=J.stackFields hb
   obtain⟨sl,z⟩:=hF T o' q' hb
   rw[h7] at z
   have z':oT={ o' with slots:=sl }:=bQ z
   exact absurd (by rw[<-h8,z']) (nf ts)
  ·by_cases hc:T∈cs
   ·exact hc
   ·rw[hB T o q hb hc] at h5;cases h5
 refine⟨oe,vs,a0,T,oT,ts,h1,h2',h3,h4,h6,h7,h8,h9,he0,?_,he,?_⟩
 ·cases q:X.s₀.heap.get? T with
  |none=>rfl
  |some o =>
   obtain⟨o',q'⟩:=J.there0 hex T o q
   rw[(hcs T (noT o' q')).2] at q;cases q
 ·cases q:H T with
  |none=>rfl
  |some u =>
   obtain⟨o,z⟩:=(J.hok T u q).there
   rw[(hcs T (noT o z)).1] at q;cases q
theorem zcw{h':av}{e:ac}{cls:ae}{vs:List ae}{E:XK}{EE:ae->ah->Prop}(hst:X.stack=X.env::X.outer/\X.env.frame=aa X.env.locals)(hex:X.ex=[])(J:Inv X pins σ H s)(hx:Heap.MadeExcOf s.heap h' e cls vs)(hE:E cls ai H) :
  Bf (Bg X.prog X.w) X.A (leaving X.env (.ref e)) (λ_ s2=>CX1 X.prog X.w X.outer X.H₀ X.s₀ E (.ref e) s2) EE { s with heap:=h' }:=by
 have fr:s.heap.FunFrames (gu s.heap (frs X.stack)) (X.env::X.outer):=by
  have q:=iJ (as:=frs X.stack) J.stack λenv he a ha=>fN.mpr ⟨env,he,ha⟩
  rw[hst.1] at q ⊢
  exact q
 refine wpAny_leaves_madeW (s:={ s with heap:=h' }) (base:=gu s.heap (frs X.stack)) (h:=s.heap) (by rw[J.ok.frames,hst.1]) hst.2 (λb o q=>lq _ q) fr hx λh2 t hfl _ _ hup=>?_
 obtain⟨f1,f2,f3,f4⟩:=hfl
 have hF:∀b o,s.heap.get? b=aa o->b∈frs X.stack->∃sl,h2.get? b=aa { o with slots:=sl }:=λb o q hb=>by
  obtain⟨o',q',nf⟩:=J.stackFields hb
  rw[q] at q';cases q'
  exact hup b o (hx.keeps b o q) nf
 obtain⟨r1,r2,r3⟩:=J.flown (cs:=[]) hex (λb z=>nomatch z) (λb o q n _=>iO _ q n) hF
  (by
   cases q:H e with
   |none=>rfl
   |some u =>
    obtain⟨o,z⟩:=(J.hok e u q).there
    rw[hx.new] at z;cases z)
  (j8 (J.there0 hex) hx.new) f1 f4
 exact⟨e,cls,H,rfl,J.os,J.bare,r1,r2,r3,hE⟩
theorem zdr{e:ac}{cls:ae}{E:XK}{EE:ae->ah->Prop}(hst:X.stack=X.env::X.outer/\X.env.frame=aa X.env.locals)(hex:X.ex=[])(J:Inv X pins σ H s)(xf:XF X.s₀.heap s.heap H e cls)(hE:E cls ai H) :
  Bf (Bg X.prog X.w) X.A (leaving X.env (.ref e)) (λ_ s2=>CX1 X.prog X.w X.outer X.H₀ X.s₀ E (.ref e) s2) EE s:=by
 obtain⟨oe,vs,a0,T,oT,ts,h1,h2,h3,h4,h5,h6,h7,h8,h9,h10,h11,h12⟩:=id xf
 have fr:s.heap.FunFrames (gu s.heap (frs X.stack++[e,T])) (X.env::X.outer):=by
  have q:=iJ (as:=frs X.stack++[e,T]) J.stack λenv he a ha=>cz _ (fN.mpr ⟨env,he,ha⟩)
  rw[hst.1] at q ⊢
  exact q
 refine wpAny_leaves_onW (base:=gu s.heap (frs X.stack++[e,T])) (a0:=a0) (by rw[J.ok.frames,hst.1]) hst.2
  ⟨λb o q=>lq _ q,fK _ (bI _ (by simp)),fr,oe,vs,T,oT,ts,h1,h2,h3,h4,fK _ (bI _ (by simp)),h5,h6,h7,h8⟩ λh2' hfl hup=>?_
 obtain⟨f1,f2,f3,f4⟩:=hfl
 have hF:∀b o,s.heap.get? b=aa o->b∈frs X.stack->∃sl,h2'.get? b=aa { o with slots:=sl }:=λb o q hb=>by
  obtain⟨o',q',nf⟩:=J.stackFields hb
  rw[q] at q';cases q'
  exact hup b o q nf
 obtain⟨r1,r2,r3⟩:=J.flown (cs:=[e,T]) hex (λb z=>by
   have z':b=e\/b=T:=by simpa using z
   rcases z' with rfl|rfl
   ·exact⟨h11,h9⟩
   ·exact⟨h12,h10⟩) (λb o q n n2=>iO _ q λz=>(bx.mp z).elim n n2) hF h11 h9 f1 f4
 exact⟨e,cls,H,rfl,J.os,J.bare,r1,r2,r3,hE⟩
end
def zds(X:Cx)(E:XK):Prop:=∀(pins:List (ac×Obj)) (σ:St) (H:Hp) (s:ah) (h':av) (e:ac) (cls:ae) (vs:List ae),Inv X pins σ H s->Heap.MadeExcOf s.heap h' e cls vs->E cls ai H->X.xe (.ref e) { s with heap:=h' }
section
variable {P:aq}{w:au}{K:bt}{mg:Str->Option ae}{base:av}{N:List Str}{qual:Str}{scope:az}{f:ac}{cd:ae}{A:aw}{outer:List Env}{s₀:ah}{H₀:Hp}{E:XK}
theorem vU:xX (CX1 P w) (qC (CX1 P w) P w K mg base N qual scope f cd A outer s₀ H₀ E) E:=by
 intro pins σ H s ev s' I hcx
 obtain⟨e,cls,H',rfl,os,bare,un,hok,xf,hE⟩:=hcx
 have J:=I.call' (ch:=[]) os un hok bare (λb z=>nomatch z)
 exact zdr (X:=qC (CX1 P w) P w K mg base N qual scope f cd A outer s₀ H₀ E) ⟨rfl,rfl⟩ rfl J (xf.older (I.there0 rfl)) hE
theorem zbJ:zds (qC (CX1 P w) P w K mg base N qual scope f cd A outer s₀ H₀ E) E:=by
 intro pins σ H s h' e cls vs I hx hE
 exact zcw (X:=qC (CX1 P w) P w K mg base N qual scope f cd A outer s₀ H₀ E) ⟨rfl,rfl⟩ rfl I hx hE
theorem zhT:PassesOwn (Bg P w) (qC (CX1 P w) P w K mg base N qual scope f cd A outer s₀ H₀ E).A (qC (CX1 P w) P w K mg base N qual scope f cd A outer s₀ H₀ E).env (qC (CX1 P w) P w K mg base N qual scope f cd A outer s₀ H₀ E).xe:=PassesOwn.leaving
end
abbrev Qx:List ae:=[.type "ValueError",.type "Exception",.type "BaseException",.type "object"]
abbrev Xr:String:="ValueError.__new__"
def WV(C:ac)(ta:TA)(E:XK):TS:=λ_ σ H=>ta σ H λvs H1=>vs.length<=Bb/\E (.ref C) ai H1
theorem zfj{K:bt}{h:av}{C:ac}{bmB:List ae}(X:K.In h)(q:oC K C bmB newId=af) :
  ∃bm N nm qn bs hdct sn sub ab col dd k0 k1 k2 k3 k5 mN,h.get? C=aa (excClassObj nm qn C N bs bm hdct sn sub ab col dd k0 k1 k2 k3 k5 newId)/\h.Ns N mN/\mN "__init__"=ai/\OwnTail h bmB bm:=by
 unfold oC at q
 split at q
 case h_2=>cases q
 rename_i dd cd sl ho
 split at q
 case h_2=>cases q
 rename_i C' bm k0 k1 k2 k3 n k5 hm hs
 rw[b5,b5,b5,b5,b5] at q
 obtain⟨⟨⟨⟨⟨q1,q2⟩,q3⟩,q4⟩,q5⟩,q6⟩:=q
 obtain rfl:C'=C:=by simpa using q1
 obtain rfl:n=newId:=by simpa using q2
 obtain⟨nm,bs,mro,ns,qn,hd,sn,sub,ab,col,del⟩:=cd
 have hdel:del=ak:=by simpa using q3
 have hm':mro=.ref C'::bm:=hm
 subst hdel hm'
 have hsl:sl=#[k0,k1,k2,k3,aa (.builtin n),k5]:=by
  apply Array.ext'
  exact hs
 subst hsl
 exact⟨bm,ns,nm,qn,bs,hd,sn,sub,ab,col,dd,k0,k1,k2,k3,k5,_,X _ _ ho,.of_isNs (W.isNs_of_in X q5),W.nsMap_none_of_in X q5 (by simpa using q6),W.tail_of_in X q4⟩
section
variable {X:Cx}{x:Str}{C:ac}{np cpos pos:Pos}{e₀:ay}{rest:List ay}{ta:TA}{E:XK}
theorem Qy(hc:X.calm=af)(q:oC X.K C Qx Xr=af)(hr:zds X E)(hg:Gl X x)(hm:X.mg x=aa (.ref C))(ha:PA X (e₀::rest) ta)
  (he:Be (e₀::rest) X.env=(ak,eval e₀ X.env)::Be rest X.env:=by rfl) (hp:(backTo cpos (Be rest X.env)).any (·.1)=ak:=by rfl) (hd:(x==("__debug__":Str))=ak:=by lia) :
  PS X (.Raise (aa (.Call (.Name x np) (e₀::rest) [] cpos)) ai pos) (WV C ta E):=by
 intro pins s σ H D I h
 obtain⟨tl,N,nm,qn,bs,hdct,sn,sub,ab,col,dd,k0,k1,k2,k3,k5,mN,hC,hN,hni,T⟩:=zfj I.ok.mod.kin q
 refine wpAny_Raise_call_subT (C:=C) (nm:=nm) (q:=qn) (N:=N) (bs:=bs) (bm:=tl) (hdct:=hdct) (sn:=sn) (sub:=sub) (ab:=ab) (col:=col) (dd:=dd) (k0:=k0) (k1:=k1) (k2:=k2) (k3:=k3) (k5:=k5) (newId:=Xr)
  PySem.F.excBase_ValueError (mN:=mN) (T.hasType PySem.F.excBase_ValueError.hasBase) (I.ok.hd hc) (by rw[he];exact hp) hni (wQ I hg hm ⟨rfl,?_⟩ hd)
 have hA:=ha cpos pins s σ H _ I h
 rw[he] at hA ⊢
 refine dO (thn hA λus s2 ⟨vs,H2,I2,r2,z2,q2⟩=>?_)
 exact⟨rfl,by rw[<-r2.length];exact z2,I2.bk _ _ hC,hN.keeps I2.bk,T.keeps I2.bk,λh' e hm=>hr pins σ H2 s2 h' e _ _ I2 hm q2⟩
end
def Asc(x:Str):Prop:=∀c∈x.cps.toList,c<128
section
variable {X:Cx}{e:ay}{te:TE}{a:Str}{j:Nat}{p1 p2 p3:Pos}
def Qz(te:TE):TE:=λσ H Q=>te σ H λv H1=>∃x:Str,v=.str x/\x.length<=100000/\∀y:Str,Q (.str y) H1
theorem zbK(he:PE X e te)(hl:a.length<=1000:=by lia):PE X (.JoinedStr [.FormattedValue e (-1) ai p2,.Constant (.str a) j p1] p3) (Qz te):=by
 intro pins s σ H Q I h
 refine wpAny_JoinedStr ?_
 show Bf _ _ (eval (.FormattedValue e (-1) ai p2) X.env) _ _ s
 refine wpAny_FormattedValue_plain (thn (he pins _ σ H _ I h) λv s1 ⟨x,H1,I1,r1,z,ex,hz,q⟩=>?_)
 subst ex
 obtain⟨t,rfl⟩:=r1
 have hs:Bb=16777216:=bS
 have e0:(fI++z).length=z.length:=by rw[lR];simp[fI,ib]
 have fin:∀(t':Tok) (tk:Nat),∃y u,gM z t'=gM y u/\(fI++y).length<=Bb/\Joins (Bg X.prog X.w) X.A X.xe (evalEach [.Constant (.str a) j p1] X.env) (fI++y) (λout s₁=>out.length<=Bb/\EP X pins σ Q (.str out s₁.toks) { s₁ with toks:=s₁.toks+1 }) { s1 with toks:=tk }:=λt' tk=>by
  refine⟨_,_,rfl,by rw[e0];lia,?_⟩
  show Bf _ _ (eval (.Constant (.str a) j p1) X.env) _ _ _
  have hz2:(fI++z++a).length<=Bb:=by rw[lR,e0];lia
  refine nY ⟨a,_,rfl,hz2,hz2,.str _,H1,I1.tok _,⟨_,rfl⟩,q _⟩
 exact wpAny_formatField_str (fin _ _) (fin _ _) (by lia)
end
structure ExC(K:bt)(C:ac):Prop where
 ga:bX K (.ref C) "__getattribute__"=aa (aa (.builtin "BaseException.__getattribute__"))
 gx:bX K (.ref C) "__getattr__"=aa ai
 cl:bX K (.ref C) "__class__"=aa (aa (.builtin "object.__class__"))
 ob:pH K C (.type "object")=aa af
 be:pH K C (.type "BaseException")=aa af
 ge:pz K (.builtin "object.__class__") "__get__"=aa (aa (.builtin "getset_descriptor.__get__"))
 tk:W.takesIn K (.builtin "object.__class__")=aa af
section
variable {X:Cx}{pins:List (ac×Obj)}{σ:St}{H:Hp}{s:ah}
theorem Inv.land{cs:List ac}(hex:X.ex=[])(I:Inv X pins σ H s)(hcs:∀b∈cs,H b=ai/\X.s₀.heap.get? b=ai)(hcp:∀b∈cs,∀p∈X.pn++pins,p.1≠b)
  (hB:∀b o,s.heap.get? b=aa o->b ∉ frs X.stack->b ∉ cs->h2.get? b=aa o) (sm:s.heap.UpToSlots h2):Inv X pins σ H { s with heap:=h2 }:=by
 have hF:∀b o,s.heap.get? b=aa o->b∈frs X.stack->∃sl,h2.get? b=aa { o with slots:=sl }:=λb o q hb=>by
  obtain⟨o',q',nf⟩:=I.stackFields hb
  rw[q] at q';cases q'
  exact sm b o q nf
 obtain⟨r1,r2⟩:=I.behind hex hcs hB hF
 have ce:∀c v,s.heap.IsCell c v->h2.IsCell c v:=λc v ⟨o,ho,hd⟩=>by
  obtain⟨sl,q⟩:=sm c o ho λvs z=>by rw[hd] at z;cases z
  exact⟨_,q,hd⟩
 refine⟨I.ok,I.os,I.bare,by rw[hex];exact r1,?_,λx c e=>?_,I.free,I.freeC,λp hp=>?_,r2,I.len⟩
 ·obtain⟨m,hn,hl⟩:=I.loc
  refine⟨m,sm.ns hn,λi x v e1 e2 e3=>?_⟩
  obtain⟨u,r,l⟩:=hl i x v e1 e2 e3
  refine⟨u,r,?_⟩
  rcases l with l|⟨k,c,e,z⟩
  ·exact .inl l
  ·exact .inr ⟨k,c,e,ce c _ z⟩
 ·obtain⟨v,z⟩:=I.cell x c e
  exact⟨v,ce c v z⟩
 ·obtain⟨e,n,ne,nf,d⟩:=I.pin p hp
  exact⟨hB _ _ e (λz=>(bD.mp (I.stkSub _ z)).elim ne nf) λz=>hcp _ z p hp rfl,n,ne,nf,d⟩
end
abbrev Cx.sub(X:Cx)(e:ac):Cx:={ X with A:=X.A.mark (aa (.ref e)),calm:=ak,xe:=λ_ _=>False }
section
variable {X:Cx}{pins:List (ac×Obj)}{σ:St}{H:Hp}{s:ah}{e:ac}
theorem Inv.toSub(I:Inv X pins σ H s):Inv (X.sub e) pins σ H s :=
 ⟨⟨I.ok.mod,I.ok.kind,I.ok.glob,I.ok.blt,I.ok.above,I.ok.inj,I.ok.has,I.ok.cab,(by lia),I.ok.frames,I.ok.stk,I.ok.exf,I.ok.bs,I.ok.bsz,I.ok.noex,I.ok.exfs,I.ok.funs,I.ok.frf⟩,I.os,I.bare,I.base,I.loc,I.cell,I.free,I.freeC,I.pin,I.hok,I.len⟩
theorem Inv.ofSub{J:Inv X pins σ H s}{σ':St}{H':Hp}(I:Inv (X.sub e) pins σ' H' s'):Inv X pins σ' H' s':=
 ⟨J.ok,I.os,I.bare,I.base,I.loc,I.cell,I.free,I.freeC,I.pin,I.hok,I.len⟩
end
abbrev EXK:=ae->St->Hp->Prop
def PX(X:Cx)(pins:List (ac×Obj))(EX:EXK):ae->ah->Prop:=λev s'=>∃e cls σ s1 H1 H',ev=.ref e/\Inv X pins σ H1 s1/\Inv X pins σ H' s'/\XF s1.heap s'.heap H' e cls/\EX cls σ H'
def PEX(X:Cx)(ex:ay)(t:EXK->TE):Prop :=
 ∀(pins:List (ac×Obj)) (s:ah) (σ:St) (H:Hp) (Q:VK) (EX:EXK),Inv X pins σ H s->t EX σ H Q->Bf (Bg X.prog X.w) X.A (eval ex X.env) (EP X pins σ Q) (PX X pins EX) s
def PSX(X:Cx)(st:ax)(t:EXK->TS):Prop :=
 ∀(pins:List (ac×Obj)) (s:ah) (σ:St) (H:Hp) (D:YB) (EX:EXK),Inv X pins σ H s->t EX D σ H->Bf (Bg X.prog X.w) X.A (exec st X.env) (SP X pins D) (PX X pins EX) s
section
variable {X:Cx}{ex:ay}{tx:EXK->TE}{pos p1:Pos}{i:Nat}{y:Str}
def zgd(tx:EXK->TE)(i:Nat)(EX:EXK):TS:=λD σ H=>tx EX σ H λv H1=>D.nx (σ.set i (aa v)) H1
theorem zfk(hN:X.N.Nodup)(hi:X.N[i]?=aa y)(hx:Loc X.env.scope y)(he:PEX X ex tx)(hs:swapsWith ex (aa (.Name y pos')) pos.line X.env=pure ak:=by rfl)(hf:X.fn y=af\/X.env.scope.names.lookup y=aa .local:=by first|exact .inl rfl|exact .inr rfl|assumption) :
  PSX X (.Assign [.Name y pos'] ex pos) (zgd tx i):=by
 intro pins s σ H D EX I h
 refine wpAny_Assign_Name (thn (he pins s σ H _ EX I h) λv s1 ⟨x,H1,I1,r1,q1⟩=>?_) hs
 exact YA I1 hN hi hx r1 (λs2 I2=>⟨_,H1,I2,q1⟩) hf
end
structure ExK(K:bt)(C:ac):Prop extends ExC K C where
 has:(W.clsIn K C).isSome=af
theorem zw :xX (CX1 P w) X E0:=λ_ _ _ _ _ _ _ h=>by
 obtain⟨_,_,_,_,_,_,_,_,_,z⟩:=h
 exact z.elim
section
variable {P:aq}{w:au}{K:bt}{mg:Str->Option ae}{base:av}
theorem Fun.ok1{x qual:Str}{st:ax}{f:ac}{fd:Bc}{N ps:List Str}{k:Nat}{sp:Sp}(F:Fun K x qual st f fd)(S:FnScope N ps (zj st))(len:∀vs H Q E,sp vs H Q E->vs.length=ps.length)
  (hbody:∀(cdv:ae) (A:aw) (outer:List Env) (s:ah) (H:Hp) (vs:List V) (Q:VK) (E:XK),Room k (A.deeper (envOfC qual (zj st) s.heap.objs.size f cdv))->sp vs H Q E ->
   ∃t,PSs (qC (CX1 P w) P w K mg base N qual (zj st) f cdv A outer s H E) (yg st) t/\t { nx:=λ_ H'=>Q .non H',rt:=Q } (start N vs) H):FnOk P w K mg base (CX1 P w) (k+1) f fd ps sp:=by
 obtain⟨oc,od,kV,doc,pm,an,cdv,ct,osl,rfl,lk,hcd⟩:=F.ex
 exact zga lk hcd S len λA outer s H vs Q E hr hsp=>hbody cdv A outer s H vs Q E hr hsp
theorem Fun.ok0{x qual:Str}{st:ax}{f:ac}{fd:Bc}{N ps:List Str}{k:Nat}{sp:Sp}(F:Fun K x qual st f fd)(S:FnScope N ps (zj st))(len:∀vs H Q E,sp vs H Q E->vs.length=ps.length)
  (hbody:∀(cdv:ae) (A:aw) (outer:List Env) (s:ah) (H:Hp) (vs:List V) (Q:VK) (E:XK),Room k (A.deeper (envOfC qual (zj st) s.heap.objs.size f cdv))->sp vs H Q E ->
   ∃t,PSs (qC (CX1 P w) P w K mg base N qual (zj st) f cdv A outer s H E).nox (yg st) t/\t { nx:=λ_ H'=>Q .non H',rt:=Q } (start N vs) H):FnOk P w K mg base (CX1 P w) (k+1) f fd ps sp :=
 F.ok1 S len λcdv A outer s H vs Q E hr h=>let ⟨t,a,b⟩:=hbody cdv A outer s H vs Q E hr h;⟨t,a.nox,b⟩
end
theorem zhw{l:og}{n k:Nat}{q:aq}{loose:List Str}{XP:(Str->Option ae)->av->Prop}{YP:au->av->Prop}{d:DefRec}{K:Params->bt}{sp:bt->Sp}{x:Str}
  (hn:l.most=aa n) (hn2:n<=Bb) (hdf:d.params.defaults=[]) (hr:Room k callerA)
  (hY:∀(w:au) (h:av),YP w h->(K w.params).In h)
  (F:∀(w:au) (mg:Str->Option ae) (fa:ac) (h:av),(K w.params).In h->h.Ns Bd mg->mg d.name=aa (.ref fa) ->
   ∃fd:Bc,(∀(s:ah) (u:ae),BindsTo s fd ⟨[u],[]⟩ [(x,u)]) /\
    ∀base:av,(K w.params).In base->base.Ns Bd mg->FnOk l.prog w (K w.params) mg base (CX1 l.prog w) k fa fd [x] (sp (K w.params)))
  (hsp:∀(K:bt) (H:Hp) (a:ac) (ns:List Int),ns.length<=n->zaV H->SqL K H a (ns.map V.int)->sp K [.ref a] H (λv _=>v=.bl af) λ_ _ _=>False) :
  pI q loose XP YP l.row.toRowW d [] (λf vs=>lO f vs) :=
 zbD (K:=K) (CX:=λw=>CX1 l.prog w) (sp:=λw=>sp (K w.params)) hn hn2 hdf hr hY F (λw H a ns h1 h2 h3=>hsp (K w.params) H a ns h1 h2 h3) λ_ _ _ _ _ z=>by
  obtain⟨_,_,_,_,_,_,_,_,_,y⟩:=z
  exact y
end L2
namespace L2
open PySem
section
variable {σ:St}{H:Hp}{nx:St->Hp->Prop}{B:V->St->Hp->(St->Hp->Prop)->Prop}
theorem Z9{lo:Int}(Pv:Nat->St->Hp->Prop)(h0:Pv 0 σ H)(hs:∀i σ H,i<n->Pv i σ H->B (.int (lo+i)) σ H (Pv (i+1)))(hd:∀σ H,Pv n σ H->nx σ H) :
  ∃W:Nat->Nat->St->Hp->Prop,(∃m,W 0 m σ H)/\∀i m σ H,W i m σ H->((Itr lo n).stop i H/\nx σ H)\/((Itr lo n).go i H/\∃N:St->Hp->Prop,(∀σ' H',N σ' H'->∃m',m'<m/\W (i+1) m' σ' H')/\∀x H',(Itr lo n).yld i H x H'->B x σ H' N):=by
 refine⟨λi m σ H=>m=n-i/\i<=n/\Pv i σ H,⟨n,by simp,bP _,h0⟩,?_⟩
 rintro i m σ H ⟨rfl,hi,p⟩
 by_cases hlt:i<n
 ·refine .inr ⟨hlt,Pv (i+1),λσ' H' p'=>⟨n-(i+1),by lia,rfl,hlt,p'⟩,?_⟩
  rintro x H' ⟨rfl,rfl⟩
  exact hs i σ _ hlt p
 ·obtain rfl:i=n:=by lia
  exact .inl ⟨bi _,hd σ H p⟩
theorem yU(xs:List V)(Pv:Nat->St->Hp->Prop)(h0:Pv 0 σ H)(hl:∀i σ H,Pv i σ H->SqL K H a xs)(hs:∀i x σ H,xs[i]?=aa x->Pv i σ H->B x σ H (Pv (i+1)))(hd:∀σ H,Pv xs.length σ H->nx σ H) :
  ∃W:Nat->Nat->St->Hp->Prop,(∃m,W 0 m σ H)/\∀i m σ H,W i m σ H->((Itl K a).stop i H/\nx σ H)\/((Itl K a).go i H/\∃N:St->Hp->Prop,(∀σ' H',N σ' H'->∃m',m'<m/\W (i+1) m' σ' H')/\∀x H',(Itl K a).yld i H x H'->B x σ H' N):=by
 refine⟨λi m σ H=>m=xs.length-i/\i<=xs.length/\Pv i σ H,⟨xs.length,by simp,bP _,h0⟩,?_⟩
 rintro i m σ H ⟨rfl,hi,p⟩
 have q:=hl i σ H p
 by_cases hlt:i<xs.length
 ·refine .inr ⟨⟨xs,xs[i],q,by simp[hlt]⟩,Pv (i+1),λσ' H' p'=>⟨xs.length-(i+1),by lia,rfl,hlt,p'⟩,?_⟩
  rintro x H' ⟨rfl,y⟩
  exact hs i x σ _ (y xs q) p
 ·obtain rfl:i=xs.length:=by lia
  exact .inl ⟨⟨xs,q,bi _⟩,hd σ H p⟩
theorem zdt(xs:List V)(Pv:Nat->St->Hp->Prop)(h0:Pv 0 σ H)(hl:∀i σ H,Pv i σ H->SqT K H a xs)(hs:∀i x σ H,xs[i]?=aa x->Pv i σ H->B x σ H (Pv (i+1)))(hd:∀σ H,Pv xs.length σ H->nx σ H) :
  ∃W:Nat->Nat->St->Hp->Prop,(∃m,W 0 m σ H)/\∀i m σ H,W i m σ H->((Itt K a).stop i H/\nx σ H)\/((Itt K a).go i H/\∃N:St->Hp->Prop,(∀σ' H',N σ' H'->∃m',m'<m/\W (i+1) m' σ' H')/\∀x H',(Itt K a).yld i H x H'->B x σ H' N):=by
 refine⟨λi m σ H=>m=xs.length-i/\i<=xs.length/\Pv i σ H,⟨xs.length,by simp,bP _,h0⟩,?_⟩
 rintro i m σ H ⟨rfl,hi,p⟩
 have q:=hl i σ H p
 by_cases hlt:i<xs.length
 ·refine .inr ⟨⟨xs,xs[i],q,by simp[hlt]⟩,Pv (i+1),λσ' H' p'=>⟨xs.length-(i+1),by lia,rfl,hlt,p'⟩,?_⟩
  rintro x H' ⟨rfl,y⟩
  exact hs i x σ _ (y xs q) p
 ·obtain rfl:i=xs.length:=by lia
  exact .inl ⟨⟨xs,q,bi _⟩,hd σ H p⟩
end
theorem zdu{J:It}{D:ac}{τ₀:St}{H1:Hp}{Q:Hp->Prop}{B:V->St->Hp->(V->St->Hp->Prop)->(St->Hp->Prop)->Prop}(n:Nat)(hn:n<=1000000)(C:St->Prop)(R:Nat->V->Prop)(hC:C τ₀)
  (go:∀i H,Same H1 H->i<n->J.go i H) (stop:∀H,Same H1 H->J.stop n H) (hD:H1 D=ai)
  (hs:∀i x τ H H',C τ->Same H1 H->i<n->J.yld i H x H'->B x τ H' (λv τ' H4=>C τ'/\R i v/\Same H H4) (λ_ _=>False))
  (hd:∀ys H,ys.length=n->(∀i v,ys[i]?=aa v->R i v)->Same H1 H->H D=aa (.lst ys)->Q H) :
  ∃W:Nat->Nat->List V->St->Hp->Prop,(∃m,W 0 m [] τ₀ (upd H1 D (.lst [])))/\∀i m ys τ H,W i m ys τ H->H D=aa (.lst ys) /\
  ((J.stop i H/\Q H)\/(J.go i H/\ys.length<Bb/\∃N:V->St->Hp->Prop,
   (∀v τ' H',N v τ' H'->H' D=aa (.lst ys)/\∃m',m'<m/\W (i+1) m' (ys++[v]) τ' (upd H' D (.lst (ys++[v]))))/\∃Nf:St->Hp->Prop,(∀τ' H',Nf τ' H'->∃m',m'<m/\W (i+1) m' ys τ' H') /\
   ∀x H',J.yld i H x H'->B x τ H' N Nf)):=by
 have ext:∀ {H:Hp} {o:HO},Same H1 H->Same H1 (upd H D o):=λ{H o} h b u e=>by
  rw[zi (zx e hD)];exact h b u e
 refine⟨λi m ys τ H=>m=n-i/\i<=n/\ys.length=i/\(∀j v,ys[j]?=aa v->R j v)/\Same H1 H/\H D=aa (.lst ys)/\C τ,⟨n,by simp,bP _,rfl,by simp,ext (Same.refl _),zh,hC⟩,?_⟩
 rintro i m ys τ H ⟨rfl,hi,hl,hR,hS,hy,hc⟩
 refine⟨hy,?_⟩
 by_cases hlt:i<n
 ·refine .inr ⟨go i H hS hlt,bU (by lia:ys.length<=1000000) (by lia),(λv τ' H4=>C τ'/\R i v/\Same H H4),?_,(λ_ _=>False),λ_ _ z=>z.elim,λx H' y=>hs i x τ H H' hc hS hlt y⟩
  rintro v τ' H4 ⟨c4,r4,s4⟩
  refine⟨s4 _ _ hy,n-(i+1),by lia,rfl,hlt,by simp[hl],λj u hj=>?_,ext (hS.trans s4),zh,c4⟩
  rcases Nat.lt_trichotomy j ys.length with h|h|h
  ·exact hR j u (by rwa [dX h] at hj)
  ·subst h
   simp at hj
   subst hj
   rw[hl];exact r4
  ·rw[ca (by simp;lia)] at hj;cases hj
 ·obtain rfl:i=n:=by lia
  exact .inl ⟨stop H hS,hd ys H hl hR hS hy⟩
theorem Ke(n d:Nat)(v:Int):max (0:Int) (min (if v<0 then v+n else v) n)=((HT.sIx n d (aa v):Nat):Int):=by
 show _=(((if v<0 then (v+(n:Int)).toNat else min v.toNat n):Nat):Int)
 by_cases hv:v<0
 ·simp only[am hv];lia
 ·simp only[aj hv];lia
theorem zfl(a b:Nat):sliceRange (a:Int) (b:Int) 1=(da (b-a)).map λk=>a+k:=by
 simp only[sliceRange,show ((1:Int) > 0)=True from by simp,if_true]
 by_cases hlt:(a:Int)<b
 ·have e3:(((b:Int)-a+1-1)/1).toNat=b-a:=by rw[Int.ediv_one];lia
  simp only[hlt,if_true,e3]
  refine dA λk _=>?_
  lia
 ·have:b-a=0:=by lia
  simp[hlt,this]
theorem zdv(lo hi:Option Int)(n:Nat):iX lo hi 1 n=(da (HT.sIx n n hi-HT.sIx n 0 lo)).map λk=>HT.sIx n 0 lo+k:=by
 rw[<-zfl]
 unfold iX
 simp only[show ((1:Int) > 0)=True from by simp,if_true]
 cases lo with
 |none =>
  cases hi with
  |none=>rfl
  |some v=>simp only[Ke n n v];rfl
 |some u =>
  cases hi with
  |none=>simp only[Ke n 0 u];rfl
  |some v=>simp only[Ke n n v,Ke n 0 u]
theorem Jp(x:Str)(lo hi:Option Int):(gB x lo hi).cps.toList=(x.cps.toList.drop (HT.sIx x.length 0 lo)).take (HT.sIx x.length x.length hi-HT.sIx x.length 0 lo):=by
 have hb:=HT.sIx_le x.length x.length (bi _) hi
 have hn:x.cps.toList.length=x.length:=by simp[ib]
 unfold gB
 rw[zdv]
 split
 ·rename_i h
  have h':HT.sIx x.length x.length hi-HT.sIx x.length 0 lo=x.length:=by simpa using h
  have e0:HT.sIx x.length 0 lo=0\/x.length=0:=by lia
  rcases e0 with e0|e0
  ·rw[e0,gC,cj]
   lia
  ·rw[fJ (by lia:x.cps.toList.length=0)];simp
 ·by_cases hab:HT.sIx x.length 0 lo<=HT.sIx x.length x.length hi
  ·have h:=StrLaws.picks x.cps.toList (HT.sIx x.length x.length hi-HT.sIx x.length 0 lo) (HT.sIx x.length 0 lo) (by lia)
   simpa using h
  ·have:HT.sIx x.length x.length hi-HT.sIx x.length 0 lo=0:=by lia
   rw[this];simp
theorem WW(x:Str)(k:Nat):(gB x (aa (k:Int)) ai).cps.toList=x.cps.toList.drop k:=by
 rw[Jp,HT.sIx_none,HT.sIx_nat]
 have hn:x.cps.toList.length=x.length:=by simp[ib]
 by_cases h:k<=x.length
 ·rw[dv h,cj (by rw[cK];lia)]
 ·rw[gW (by lia:x.cps.toList.length<=k),gG (by lia),gW (by lia)];simp
theorem QA(x:Str)(k:Nat):(gB x ai (aa (k:Int))).cps.toList=x.cps.toList.take k:=by
 rw[Jp,HT.sIx_none,HT.sIx_nat,gC,mZ]
 have hn:x.cps.toList.length=x.length:=by simp[ib]
 by_cases h:k<=x.length
 ·rw[dv h]
 ·rw[gG (by lia),cj (by lia),cj (by lia)]
theorem zfm{x y:Str}(h:x.cps.toList=y.cps.toList):x=y:=by
 obtain⟨a⟩:=x
 obtain⟨b⟩:=y
 have:a=b:=mF.mp h
 rw[this]
theorem zfn(x y:Str):(x++y).cps.toList=x.cps.toList++y.cps.toList:=by
 show (x.cps++y.cps).toList=_
 simp
open PySem.NumText in
section
def zhU(w:Int):Str:=bc (toString w)
def dg(m:Nat):List Nat:=(Nat.toDigits 10 m).map Char.toNat
theorem YJ(x:Str):x.length=x.cps.toList.length:=by simp[ib]
def inF(c:Nat):Bool:=!(gO "0123456789" ⟨#[c]⟩ 0 (ib "0123456789") 1).isEmpty
def zhx(x:Str):Bool:=!decide (x="")&&x.cps.toList.all inF
def inW(i:Int):Bool:=decide (-1000000000000000000000000000000<=i/\i<=1000000000000000000000000000000)
def zge(x:Str):Str:=if (x.cps.toList.take 1==[45])=af then gB x (aa 1) ai else x
def zdw(x:Str):Int:=(intText? x).getD 0
def zhy(x:Str):Bool:=!(decide (31<(zge x).length) || !zhx (zge x))&&(inW (zdw x)&&decide (zhU (zdw x)=x))
end
end L2
namespace L2
open PySem PySem.Spec PyProof.Rows
def zbL(x y:Str):Int:=match gO x y 0 x.length 1 with|i::_=>(i:Int)|[]=>-1
abbrev Xs:RM:=λx xs H Q=>∃a b,x=.str a/\xs=[.str b]/\Q (.int (zbL a b)) H
def Jq(sep:Str):List Str->Str
 |[p]=>p
 |l=>lS sep l
def zdx(sep:Str)(ls:List Str):Nat:=ls.foldl (λn p=>n+p.length+sep.length) 0
abbrev Xt(K:bt):RM:=λx xs H Q=>∃sep a ls,x=.str sep/\xs=[.ref a]/\SqL K H a (ls.map V.str)/\zdx sep ls<=Bb/\Q (.str (Jq sep ls)) H
theorem Kf(sep:Str):∀(ls:List Str) (k:Nat),ls.foldl (λn p=>n+p.length+sep.length) k=k+(ls.map (·.length)).sum+ls.length*sep.length
 |[],k=>by simp
 |p::r,k=>by
  rw[eO,Kf sep r,bo,cA,bR,Nat.add_mul,Nat.one_mul]
  lia
theorem zcx(sep:Str)(ls:List Str):(Jq sep ls).length<=zdx sep ls:=by
 unfold zdx
 rw[Kf]
 have g:(lS sep ls).length<=0+(ls.map (·.length)).sum+ls.length*sep.length:=by
  rw[size_glued]
  have:(ls.length-1)*sep.length<=ls.length*sep.length:=Nat.mul_le_mul_right _ (by lia)
  lia
 unfold Jq
 split
 ·simp only[bo,lB,cA,List.sum_nil,bR,mX];lia
 ·exact g
theorem zdy(ls:List Str):(Jq "" ls).cps.toList=(ls.map λp=>p.cps.toList).flatten:=by
 have g:∀(r:List Str) (a:Array Nat),(r.foldl (λacc p=>acc++(bc "").cps++p.cps) a).toList=a.toList++(r.map λp=>p.cps.toList).flatten:=by
  intro r
  induction r with
  |nil=>intro a;simp
  |cons p r ih =>
   intro a
   have e:(bc "").cps=#[]:=by lia
   rw[eO,ih,e]
   simp
 unfold Jq
 split
 ·simp
 ·unfold lS
  cases ls with
  |nil=>lia
  |cons p r=>exact g r p.cps
theorem Jr:∀ {ls:List Str} {us:List ae},Vals (ls.map V.str) us->∃l:List (Str×Tok),us=strValues l/\l.map (·.1)=ls
 |[],_,.nil=>⟨[],rfl,rfl⟩
 |x::r,_,.cons h t=>by
  obtain⟨l,rfl,e⟩:=Jr t
  obtain⟨k,rfl⟩:=h
  exact⟨(x,k)::l,rfl,by rw[bo,e]⟩
section
variable {X:Cx}
theorem zfo:MtR X "str.find" Xs:=by
 intro pins s σ H x xs v us Q I rx rs h
 obtain⟨a,b,rfl,rfl,q⟩:=h
 obtain⟨t,rfl⟩:=rx
 obtain⟨u,rfl,t',rfl⟩:=qt rs
 exact call_gives F.slot_str_find (nB s a t) F.entry_str_find (F.args_str_find_2 _ _) (gives_str_find a b t t') ⟨.int (zbL a b),H,I.tok _,⟨_,rfl⟩,q⟩
theorem zfp:MtR X "str.join" (Xt X.K):=by
 intro pins s σ H x xs v us Q I rx rs h
 obtain⟨sep,a,ls,rfl,rfl,hq,hl,q⟩:=h
 obtain⟨t,rfl⟩:=rx
 obtain⟨u,rfl,r1⟩:=qt rs
 cases r1
 obtain⟨its,rv,p,hz⟩:=I.list hq
 obtain⟨l,rfl,e⟩:=Jr rv
 have tl:nQ ((l.map (·.1)).toArray.foldl (· + ·.length+sep.length) 0)=ak:=by
  rw[e,List.foldl_toArray]
  unfold nQ
  exact Bk (by unfold zdx at hl;lia)
 have jl:=zcx sep ls
 refine ic F.slot_str_join (nB s sep t) F.entry_str_join (F.args_str_join_2 _ _) (meets_str_join_list sep t a l tl) ⟨p.isList,?_⟩
 subst e
 match l,q,jl,hl with
 |[],q,jl,hl=>exact⟨bK jl hl,.str _,H,I.tok _,⟨_,rfl⟩,q⟩
 |[p],q,jl,hl=>exact⟨.str p.1,H,I,⟨_,rfl⟩,q⟩
 |p::p'::r,q,jl,hl=>exact⟨bK jl hl,.str _,H,I.tok _,⟨_,rfl⟩,q⟩
end
theorem vD(x y:Str):(x++y).length=x.length+y.length:=lR x y
def zgf(_ j:Int):Prop:=j≠0/\-big<j/\j<big
section
variable {X:Cx}
theorem zdz:OpR X (binaryOp .FloorDiv) (rI zgf λi j=>.int (i.fdiv j)):=opI λi j _ _ _ _ _ hc q =>
 floordiv_int hc.1 q (.inl (lQ (oP (WU (Kd hc.2)) (by lia))))
end
theorem zdA(r:Room k A):A.units+64<cLine:=by have:=r.un;lia
def qD:V->PyData
 |.non=>.none
 |.bl b=>.bool b
 |.int i=>.int i
 |.str x=>.str x
 |_=>.none
def yB:V->Bool
 |.non=>af
 |.bl _=>af
 |.int _=>af
 |.str x=>cM x
 |_=>ak
theorem Asc.flat(h:Asc x):yB (.str x)=af:=by
 unfold yB cM
 rw[Array.all_eq_true]
 intro i hi
 have:=h x.cps[i] (by simp)
 exact Bj (by lia)
def zgL:V->V->Bool
 |.bl _,.int _=>ak
 |.int _,.bl _=>ak
 |_,_=>af
def Xu:List V->List V->Bool
 |x::xs,y::ys=>zgL x y&&Xu xs ys
 |_,_=>af
theorem vV:∀ {xs:List V} {us:List ae},xs.all yB=af->Vals xs us->CarriedAll us (xs.map qD)
 |[],_,_,.nil=>.nil
 |x::r,_,h,.cons rx t=>by
  rw[fB,b5] at h
  refine .cons ?_ (vV h.2 t)
  cases x with
  |non=>cases rx;exact .none
  |bl b=>cases rx;exact .bool b
  |int i=>obtain⟨t,rfl⟩:=rx;exact .int i t
  |str x=>obtain⟨t,rfl⟩:=rx;exact .str x t
  |byt b=>exact absurd h.1 (by simp[yB])
  |flt b=>exact absurd h.1 (by simp[yB])
  |ref a=>exact absurd h.1 (by simp[yB])
  |ty n=>exact absurd h.1 (by simp[yB])
theorem zdB(hx:yB x=af)(hy:yB y=af):pB (qD x) (qD y)=decide (x=y):=by
 cases x <;> cases y <;> simp_all [yB,qD,pB] <;> (rename_i a b;by_cases e:a=b <;> simp[e])
theorem qJ:∀ {xs ys:List V},xs.all yB=af->ys.all yB=af->lG (xs.map qD) (ys.map qD)=decide (xs=ys)
 |[],[],_,_=>by simp[lG]
 |[],_::_,_,_=>by simp[lG]
 |_::_,[],_,_=>by simp[lG]
 |x::r,y::t,hx,hy=>by
  rw[fB,b5] at hx hy
  rw[bo,bo,lG,zdB hx.1 hy.1,qJ hx.2 hy.2]
  by_cases a:x=y <;> by_cases b:r=t <;> simp[a,b]
theorem zcy(hx:yB x=af)(hy:yB y=af)(h:zgL x y=af):nR (qD x) (qD y)=af:=by
 cases x <;> cases y <;> simp_all [yB,qD,nR,zgL]
theorem kM:∀ {xs ys:List V},xs.all yB=af->ys.all yB=af->Xu xs ys=af->ik (xs.map qD) (ys.map qD)=af
 |[],[],_,_,_=>by simp[ik]
 |[],_::_,_,_,_=>by simp[ik]
 |_::_,[],_,_,_=>by simp[ik]
 |x::r,y::t,hx,hy,h=>by
  rw[fB,b5] at hx hy
  rw[Xu,b5] at h
  rw[bo,bo,ik,zcy hx.1 hy.1 h.1,kM hx.2 hy.2 h.2]
  rfl
theorem kN{xs:List V}(h:xs.all yB=af):m3 (.list (xs.map qD))=af/\m3 (.tuple (xs.map qD))=af:=by
 have a:∀x,yB x=af->(qD x).canLay0=af/\(qD x).depth=0:=λx=>by cases x <;> simp[qD,nK,m4,yB]
 have l:∀ys:List V,ys.all yB=af->oE (ys.map qD)=af/\gP (ys.map qD)=0:=by
  intro ys
  induction ys with
  |nil=>exact λ_=>⟨rfl,rfl⟩
  |cons y r ih =>
   intro h
   rw[fB,b5] at h
   exact⟨by rw[bo,oE,(a y h.1).1,(ih h.2).1];rfl,by rw[bo,gP,(a y h.1).2,(ih h.2).2];rfl⟩
 exact⟨by simp[m3,nK,m4,(l xs h).1,(l xs h).2],by simp[m3,nK,m4,(l xs h).1,(l xs h).2]⟩
abbrev zgM(K:bt)(neg:Bool):R2:=λx y H Q=>∃a b xs ys,x=.ref a/\y=.ref b/\SqL K H a xs/\SqL K H b ys/\(xs.all yB=af/\ys.all yB=af/\Xu xs ys=af)/\Q (.bl (if neg then !decide (xs=ys) else decide (xs=ys))) H
section
variable {X:Cx}
theorem zdC(hu:X.A.units+64<cLine):OpR X (Bi .Eq) (zgM X.K ak):=by
 intro pins s σ H x y v u Q I rx ry h
 obtain⟨a,b,xs,ys,rfl,rfl,ha,hb,⟨f1,f2,f3⟩,q⟩:=h
 cases rx
 cases ry
 obtain⟨us,r1,p1,_⟩:=I.list ha
 obtain⟨ws,r2,p2,_⟩:=I.list hb
 refine eq_dataH_same (mx p1.isList (vV f1 r1)) (mx p2.isList (vV f2 r2)) (kN f1).1 (kN f2).1 hu (by rw[nR];exact kM f1 f2 f3) ?_
 rw[pB,qJ f1 f2]
 exact⟨.bl _,H,I,rfl,q⟩
theorem zgN(hu:X.A.units+64<cLine):OpR X (Bi .NotEq) (zgM X.K af):=by
 intro pins s σ H x y v u Q I rx ry h
 obtain⟨a,b,xs,ys,rfl,rfl,ha,hb,⟨f1,f2,f3⟩,q⟩:=h
 cases rx
 cases ry
 obtain⟨us,r1,p1,_⟩:=I.list ha
 obtain⟨ws,r2,p2,_⟩:=I.list hb
 refine ne_dataH_same (mx p1.isList (vV f1 r1)) (mx p2.isList (vV f2 r2)) (kN f1).1 (kN f2).1 hu (by rw[nR];exact kM f1 f2 f3) ?_
 rw[pB,qJ f1 f2]
 exact⟨.bl _,H,I,rfl,q⟩
abbrev Kg(K:bt):R2:=λx y H Q=>∃a b xs,x=.ref a/\y=.ref b/\SqL K H a xs/\SqL K H b []/\Q (.bl (decide (xs=[]))) H
theorem QB(hu:X.A.units+64<cLine):OpR X (Bi .Eq) (Kg X.K):=by
 intro pins s σ H x y v u Q I rx ry h
 obtain⟨a,b,xs,rfl,rfl,ha,hb,q⟩:=h
 by_cases e:xs=[]
 ·subst e
  exact zdC hu pins s σ H _ _ v u Q I rx ry ⟨a,b,[],[],rfl,rfl,ha,hb,⟨rfl,rfl,rfl⟩,q⟩
 ·cases rx
  cases ry
  obtain⟨us,r1,p1,_⟩:=I.list ha
  obtain⟨ws,r2,p2,_⟩:=I.list hb
  cases r2
  have e1:=r1.length
  have e2:xs.length≠0:=λz=>e (fJ z)
  refine PySem.SeqAt.eq_list_lengthsAt p1.isList p2.isList (by simp;intro z;rw[z] at e1;exact e2 e1) (by lia) ?_
  rw[Bk e] at q
  exact⟨.bl ak,H,I,rfl,q⟩
end
abbrev yc:RM:=WA
abbrev qK:RM:=zfe
def jw:List V:=[.str "plus",.str "minus",.str "times",.str "over",.str "rest",.str "under",.str "same"]
def isJ(v:V):Bool:=inV v jw
inductive Er where
 |nought|great|stuck
 deriving DecidableEq
def jk(w:Str)(a b:Int):Int :=
 if w="plus" then a+b else if w="minus" then a-b else if w="times" then a*b else if w="under" then (if a<b then 1 else 0) else if w="same" then (if a=b then 1 else 0) else if w="over" then a.fdiv b else a.fmod b
def WX(w:Str):Prop:=¬ w="plus"/\¬ w="minus"/\¬ w="times"/\¬ w="under"/\¬ w="same"
instance (w:Str):Decidable (WX w):=by unfold WX;infer_instance
def vW(w:Str)(a b:Int):Except Er Int:=if WX w/\b=0 then .error .nought else if inW (jk w a b)=af then .ok (jk w a b) else .error .great
def zaX(kvs:List (Key×V)):V->Int
 |.int i=>i
 |.str x=>(match z4 kvs (.inr x) with|some (.int i)=>i|_=>0)
 |_=>0
def wB(kvs:List (Key×V))(st:List Int)(v:V):Except Er (List Int) :=
 if isJ v=af then (match v,st.reverse with|.str w,b::a::r=>(match vW w a b with|.ok c=>.ok (r.reverse++[c])|.error e=>.error e)|_,_=>.error .stuck) else .ok (st++[zaX kvs v])
def wW(kvs:List (Key×V)):List V->List Int->Except Er (List Int)
 |[],st=>.ok st
 |v::r,st=>match wB kvs st v with|.ok st'=>wW kvs r st'|.error e=>.error e
section
variable {kvs:List (Key×V)}
theorem qL:∀(p q:List V) (st:List Int),wW kvs (p++q) st=match wW kvs p st with|.ok st'=>wW kvs q st'|.error e=>.error e
 |[],q,st=>rfl
 |v::r,q,st=>by
  show (match wB kvs st v with|.ok st'=>wW kvs (r++q) st'|.error e=>.error e)=match (match wB kvs st v with|.ok st'=>wW kvs r st'|.error e=>.error e) with|.ok st'=>wW kvs q st'|.error e=>.error e
  cases wB kvs st v with
  |error e=>rfl
  |ok st'=>exact qL r q st'
def Good(kvs:List (Key×V))(ps:List V)(r:Except Er Int):Prop:=(∀st,wW kvs ps st=match r with|.ok i=>.ok (st++[i])|.error e=>.error e)/\r≠.error .stuck
theorem zcz(h:isJ v=ak):Good kvs [v] (.ok (zaX kvs v)):=by
 refine⟨λst=>?_,λz=>nomatch z⟩
 unfold wW wB
 rw[h,aj (by lia)]
 rfl
def zgg(w:Str)(r1 r2:Except Er Int):Except Er Int:=match r1 with|.error e=>.error e|.ok a=>match r2 with|.error e=>.error e|.ok b=>vW w a b
theorem zdD(w:Str)(a b:Int):vW w a b≠.error .stuck:=by
 unfold vW
 split
 ·exact λz=>nomatch z
 ·split <;> exact λz=>nomatch z
theorem zcA{r1 r2:Except Er Int}(hw:isJ (.str w)=af)(g1:Good kvs p1 r1)(g2:Good kvs p2 r2):Good kvs (p1++p2++[.str w]) (zgg w r1 r2):=by
 refine⟨λst=>?_,?_⟩
 ·rw[qL,qL,g1.1]
  cases r1 with
  |error e=>rfl
  |ok a =>
   show (match wW kvs p2 (st++[a]) with|.ok st'=>wW kvs [.str w] st'|.error e=>.error e)=_
   rw[g2.1]
   cases r2 with
   |error e=>rfl
   |ok b =>
    show wW kvs [.str w] (st++[a]++[b])=match vW w a b with|.ok i=>.ok (st++[i])|.error e=>.error e
    unfold wW wB
    rw[hw,am rfl]
    simp only[nS,oF,oW,cX,cE,cG]
    cases vW w a b with
    |error e=>rfl
    |ok c=>simp[wW]
 ·unfold zgg
  cases r1 with
  |error e=>exact g1.2
  |ok a =>
   cases r2 with
   |error e=>exact g2.2
   |ok b=>exact zdD w a b
theorem zbM{st:List Int}(h:wW kvs (ps.take i) st=.error e):wW kvs ps st=.error e:=by
 have:=qL (kvs:=kvs) (ps.take i) (ps.drop i) st
 rw[eW,h] at this
 exact this
theorem zfq{ps:List V}{i:Nat}{st st0:List Int}(h:wW kvs (ps.take i) st0=.ok st)(hv:ps[i]?=aa v):wW kvs (ps.take (i+1)) st0=wB kvs st v:=by
 rw[dU,hv]
 show wW kvs (ps.take i++[v]) st0=_
 rw[qL,h]
 show (match wB kvs st v with|.ok st'=>wW kvs [] st'|.error e=>.error e)=_
 cases wB kvs st v <;> rfl
end
def kO(v:V):Prop:=(∃i,v=.int i/\inW i=af)\/∃x:Str,v=.str x/\x.length<=1000
def yS(kvs:List (Key×V)):Prop:=∀k v,z4 kvs k=aa v->∃i,v=.int i/\inW i=af
theorem QC(h:yS kvs)(hv:kO v):inW (zaX kvs v)=af:=by
 rcases hv with ⟨i,rfl,hi⟩|⟨x,rfl,_⟩
 ·exact hi
 ·show inW (match z4 kvs (.inr x) with|some (.int i)=>i|_=>0)=af
  cases e:z4 kvs (.inr x) with
  |none=>rfl
  |some u =>
   obtain⟨i,rfl,hi⟩:=h _ _ e
   exact hi
theorem inW_iff{i:Int}:inW i=af↔-1000000000000000000000000000000<=i/\i<=1000000000000000000000000000000:=by unfold inW;rw[decide_eq_true_eq]
theorem Kh{i:Int}(h:inW i=af):-big<i/\i<big:=by
 have:=inW_iff.mp h
 have hb:(1000000000000000000000000000001:Int)<big:=by lia
 lia
abbrev zcB(K:bt):RC:=λxs H Q=>∃p ys,xs=[.ref p]/\(SqL K H p ys\/SqT K H p ys)/\∀l,H l=ai->Q (.ref l) (upd H l (.lst ys))
def inL(c:Nat):Bool:=!(gO "abcdefghijklmnopqrstuvwxyz" ⟨#[c]⟩ 0 (ib "abcdefghijklmnopqrstuvwxyz") 1).isEmpty
def wl:List V:=[.str "take",.str "give",.str "let",.str "say",.str "off",.str "if",.str "else",.str "end",.str "as"]
def yJ(x:Str):Bool:=!(decide (x="") || decide (6<x.length)) && !(inV (.str x) jw || inV (.str x) wl)&&x.cps.toList.all inL
theorem zfr(c:Nat):inL c=af->97<=c/\c<=122:=by
 unfold inL
 rw[StrLaws.found_one,decide_eq_true_eq]
 exact(by lia:∀c∈(bc "abcdefghijklmnopqrstuvwxyz").cps.toList,97<=c/\c<=122) c
theorem YK(h:yJ x=af):x.cps.toList≠[]/\x.length<=6/\isJ (.str x)=ak/\x.cps.toList.all inL=af:=by
 unfold yJ at h
 rw[b5,b5,dF,dF,iM,iM,decide_eq_false_iff_not,decide_eq_false_iff_not] at h
 refine⟨λz=>h.1.1.1 (zfm (by rw[z];lia)),by lia,h.1.2.1,h.2⟩
def zdE(w:Str):Option V:=if yJ w=af then aa (.str w) else if zhy w=af then aa (.int (zdw w)) else ai
inductive Tw where
 |leaf (w:Str)|node (w:Str) (a b:Tw)
def pre:Tw->List Str
 |.leaf w=>[w]
 |.node w a b=>w::(pre a++pre b)
def wfT:Tw->Prop
 |.leaf w=>isJ (.str w)=ak
 |.node w a b=>isJ (.str w)=af/\wfT a/\wfT b
def okT:Tw->Bool
 |.leaf w=>(zdE w).isSome
 |.node _ a b=>okT a&&okT b
def pvw(w:Str):V:=(zdE w).getD (.str w)
def pst:Tw->List V
 |.leaf w=>[pvw w]
 |.node w a b=>pst a++pst b++[.str w]
def zhz:List Str->Nat->Option Nat
 |_,0=>aa 0
 |[],_+1=>ai
 |w::r,d+1=>(zhz r (if isJ (.str w)=af then d+2 else d)).map (· + 1)
def xn(st:List (List V))(w:Str):Except Bool (List (List V)) :=
 if isJ (.str w)=af then (match st.reverse with|a::b::r=>.ok (r.reverse++[a++b++[.str w]])|_=>.error ak) else (match zdE w with|some v=>.ok (st++[[v]])|none=>.error af)
def zaY:List Str->List (List V)->Except Bool (List (List V))
 |[],st=>.ok st
 |w::r,st=>match xn st w with|.ok st'=>zaY r st'|.error e=>.error e
theorem zdF:∀(p q:List Str) (st:List (List V)),zaY (p++q) st=match zaY p st with|.ok st'=>zaY q st'|.error e=>.error e
 |[],q,st=>rfl
 |v::r,q,st=>by
  show (match xn st v with|.ok st'=>zaY (r++q) st'|.error e=>.error e)=match (match xn st v with|.ok st'=>zaY r st'|.error e=>.error e) with|.ok st'=>zaY q st'|.error e=>.error e
  cases xn st v with
  |error e=>rfl
  |ok st'=>exact zdF r q st'
theorem zaZ :Be (.Constant c j p::es) env=(ak,eval (.Constant c j p) env)::Be es env:=by
 first|rfl|simp only[Be]
theorem kP{t:TA}(hr:PA X es t):PA X (.Constant (.str x) j p::es) (zc (tC (.str x)) t):=za zE hr zaZ
section
variable {X:Cx}
theorem zdG{kvs:List (Key×V)}{k:Key}(h:z4 kvs k=aa v):∃p∈kvs,p.2=v:=by
 unfold z4 at h
 obtain⟨p,hp,e⟩:=b6.mp h
 exact⟨p,List.mem_of_find?_eq_some hp,e⟩
end
theorem zdH(h:yJ x=af):Asc x:=λc hc=>by
 have:=zfr c (List.all_eq_true.mp (YK h).2.2.2 c hc)
 lia
abbrev zhA(K:bt):RC:=λxs H Q=>∃p ys,xs=[.ref p]/\((SqL K H p ys/\∀l,H l=ai->Q (.ref l) (upd H l (.tup ys)))\/(SqT K H p ys/\Q (.ref p) H))
def zbN(st:List (List V))(v:V):Option (List (List V)):=if isJ v=af then (match st.reverse with|b::a::r=>aa (r.reverse++[v::(a++b)])|_=>ai) else aa (st++[[v]])
def za0:List V->List (List V)->Option (List (List V))
 |[],st=>aa st
 |v::r,st=>(zbN st v).bind (za0 r)
theorem zdI:∀(p q:List V) (st:List (List V)),za0 (p++q) st=(za0 p st).bind (za0 q)
 |[],q,st=>rfl
 |v::r,q,st=>by
  show (zbN st v).bind (za0 (r++q))=((zbN st v).bind (za0 r)).bind (za0 q)
  cases zbN st v with
  |none=>rfl
  |some st'=>exact zdI r q st'
end L2
namespace L2
open PySem PySem.W PyProof.Rows
section
variable {α β:Type}{lt:Nat->Nat->Bool}{n:Nat}
def kOk(lt:Nat->Nat->Bool)(n:Nat):KasT α->(α->Prop)->Prop
 |.ret a,R=>R a
 |.ask i j k,R=>i<n/\j<n/\i≠j/\kOk lt n (k (lt i j)) R
theorem j9:∀ {t:KasT α} {f:α->KasT β} {R:β->Prop},kOk lt n t (λa=>kOk lt n (f a) R)->kOk lt n (t.bind f) R
 |.ret _,_,_,h=>h
 |.ask _ _ _,_,_,h=>⟨h.1,h.2.1,h.2.2.1,j9 h.2.2.2⟩
theorem wX:∀ {t:KasT α} {R R':α->Prop},kOk lt n t R->(∀a,R a->R' a)->kOk lt n t R'
 |.ret _,_,_,h,m=>m _ h
 |.ask _ _ _,_,_,h,m=>⟨h.1,h.2.1,h.2.2.1,wX h.2.2.2 m⟩
structure SO(lt:Nat->Nat->Bool)(n:Nat):Prop where
 irr:∀i,i<n->lt i i=ak
 trans:∀i j k,i<n->j<n->k<n->lt i j=af->lt j k=af->lt i k=af
 tot:∀i j,i<n->j<n->i≠j->lt i j=ak->lt j i=af
def PP(n:Nat)(p:Array Nat):Prop:=p.Perm (da n).toArray
def gt(p:Array Nat)(k:Nat):Nat:=p.getD k 0
theorem ka(h:k<p.size):p[k]?=aa (gt p k):=by
 unfold gt
 rw[Array.getD_eq_getD_getElem?,ck h]
 rfl
theorem PP.size(h:PP n p):p.size=n:=by
 have:=h.size_eq
 simpa using this
theorem PP.blt(h:PP n p)(hk:k<n):gt p k<n:=by
 have hs:=h.size
 have m:gt p k∈p:=Array.mem_of_getElem? (ka (by lia))
 have m2:gt p k∈(da n).toArray:=(oi h).mp m
 simpa using m2
theorem PP.inj(h:PP n p)(hi:i<n)(hj:j<n)(e:gt p i=gt p j):i=j:=by
 have hs:=h.size
 have nd:p.toList.Nodup:=by
  have:p.toList.Perm (da n):=by
   have:=gj.mp h
   simpa using this
  exact this.nodup_iff.mpr oX
 have e1:=ka (p:=p) (k:=i) (by lia)
 have e2:=ka (p:=p) (k:=j) (by lia)
 rw[<-e] at e2
 have e1':p.toList[i]?=aa (gt p i):=by simpa using e1
 have e2':p.toList[j]?=aa (gt p i):=by simpa using e2
 obtain⟨a1,b1⟩:=bf.mp e1'
 obtain⟨a2,b2⟩:=bf.mp e2'
 exact(gE nd).mp (b1.trans b2.symm)
def ZF(lt:Nat->Nat->Bool)(p:Array Nat)(m:Nat):Prop:=∀i j,i<j->j<m->lt (gt p i) (gt p j)=af
def zgO(lt:Nat->Nat->Bool)(p:Array Nat)(m:Nat):Prop:=∀i j,i<j->j<m->lt (gt p j) (gt p i)=af
theorem za1(S:SO lt n){p:Array Nat}(hp:PP n p):∀(f a:Nat),1<=a->a+f<=n->ZF lt p a->kOk lt n (kas_asc p f a) λm=>a<=m/\m<=a+f/\ZF lt p m/\(m<a+f->lt (gt p m) (gt p (m-1))=af)
 |0,a,h1,h2,hr=>⟨bi _,bi _,hr,λz=>absurd z (eS _)⟩
 |f+1,a,h1,h2,hr=>by
  refine⟨hp.blt (by lia),hp.blt (by lia),(λz=>by have:=hp.inj (by lia) (by lia) z;lia),?_⟩
  show kOk lt n (if lt (gt p a) (gt p (a-1))=af then .ret a else kas_asc p f (a+1)) _
  by_cases c:lt (gt p a) (gt p (a-1))=af
  ·rw[am c]
   exact⟨bi _,by lia,hr,λ_=>c⟩
  ·rw[aj c]
   have up:lt (gt p (a-1)) (gt p a)=af:=S.tot _ _ (hp.blt (by lia)) (hp.blt (by lia)) (λz=>by have:=hp.inj (by lia) (by lia) z;lia) (lT.mpr c)
   refine wX (za1 S hp f (a+1) (by lia) (by lia) λi j hij hj=>?_) λm ⟨x1,x2,x3,x4⟩=>⟨by lia,by lia,x3,λz=>x4 (by lia)⟩
   by_cases hja:j<a
   ·exact hr i j hij hja
   ·obtain rfl:j=a:=by lia
    by_cases hi:i=j-1
    ·rw[hi];exact up
    ·exact S.trans _ _ _ (hp.blt (by lia)) (hp.blt (by lia)) (hp.blt (by lia)) (hr i (j-1) (by lia) (by lia)) up
theorem zbO(S:SO lt n){p:Array Nat}(hp:PP n p):∀(f a:Nat),1<=a->a+f<=n->zgO lt p a->kOk lt n (kas_desc f p a 0) λr=>r.1=p/\r.2.2=0/\a<=r.2.1/\r.2.1<=a+f/\zgO lt p r.2.1
 |0,a,h1,h2,hr=>⟨rfl,rfl,bi _,bi _,hr⟩
 |f+1,a,h1,h2,hr=>by
  refine⟨hp.blt (by lia),hp.blt (by lia),(λz=>by have:=hp.inj (by lia) (by lia) z;lia),?_⟩
  show kOk lt n (if lt (gt p a) (gt p (a-1))=af then (if 0 > 0 then _ else kas_desc f p (a+1) 0) else .ask (gt p (a-1)) (gt p a) λd=>if d=af then .ret (p,a,0) else kas_desc f p (a+1) (0+1)) _
  by_cases c:lt (gt p a) (gt p (a-1))=af
  ·rw[am c,aj (by lia)]
   refine wX (zbO S hp f (a+1) (by lia) (by lia) λi j hij hj=>?_) λm ⟨x1,x2,x3,x4,x5⟩=>⟨x1,x2,by lia,by lia,x5⟩
   by_cases hja:j<a
   ·exact hr i j hij hja
   ·obtain rfl:j=a:=by lia
    by_cases hi:i=j-1
    ·rw[hi];exact c
    ·exact S.trans _ _ _ (hp.blt (by lia)) (hp.blt (by lia)) (hp.blt (by lia)) c (hr i (j-1) (by lia) (by lia))
  ·rw[aj c]
   have up:lt (gt p (a-1)) (gt p a)=af:=S.tot _ _ (hp.blt (by lia)) (hp.blt (by lia)) (λz=>by have:=hp.inj (by lia) (by lia) z;lia) (lT.mpr c)
   refine⟨hp.blt (by lia),hp.blt (by lia),(λz=>by have:=hp.inj (by lia) (by lia) z;lia),?_⟩
   show kOk lt n (if lt (gt p (a-1)) (gt p a)=af then .ret (p,a,0) else _) _
   rw[am up]
   exact⟨rfl,rfl,bi _,mG _ _,hr⟩
theorem zdJ(hm:m<=p.size)(hk:k<m):gt (kas_rev p 0 m) k=gt p (m-1-k):=by
 have e:=getElem?_mirror_all (xs:=p) (i:=0) (j:=m) hm k
 rw[am ⟨bP _,hk⟩] at e
 have e1:=ka (p:=kas_rev p 0 m) (k:=k) (by unfold kas_rev;rw[mirror_size];lia)
 have e2:=ka (p:=p) (k:=m-1-k) (by lia)
 unfold kas_rev at e1 ⊢
 rw[e,show 0+m-1-k=m-1-k by lia,e2] at e1
 exact(bQ e1).symm
theorem PP.rev(h:PP n p)(m:Nat):PP n (kas_rev p 0 m):=oY (mirror_perm _ _ _ _) h
theorem zfs(S:SO lt n)(hp:PP n p)(h1:1<=m)(h2:m<=n)(hf:zgO lt p m):kOk lt n (kas_tail3 m n p) λr=>PP n r.2/\ZF lt r.2 r.1/\1<=r.1/\r.1<=n:=by
 refine j9 (wX (za1 S (hp.rev m) (n-m) m h1 (by lia) λi j hij hj=>?_) λa ⟨x1,x2,x3,_⟩=>⟨hp.rev m,x3,by lia,by lia⟩)
 have hs:=hp.size
 rw[zdJ (by lia) (by lia),zdJ (by lia) hj]
 exact hf _ _ (by lia) (by lia)
theorem zdK(S:SO lt n)(hp:PP n p)(hn:1<=n):kOk lt n (kas_count n p) λr=>PP n r.2/\ZF lt r.2 r.1/\1<=r.1/\r.1<=n:=by
 refine j9 (wX (za1 S hp (n-1) 1 (bi _) (by lia) λi j hij hj=>by lia) λm ⟨x1,x2,x3,x4⟩=>?_)
 by_cases e:(m==n)=af
 ·rw[am e]
  exact⟨hp,x3,x1,by lia⟩
 ·rw[aj e]
  have ne:m≠n:=by simpa using e
  by_cases h:m > 1
  ·rw[am h]
   refine⟨hp.blt (by lia),hp.blt (by lia),(λz=>by have:=hp.inj (by lia) (by lia) z;lia),?_⟩
   show kOk lt n (if lt (gt p 0) (gt p (m-1))=af then .ret (m,p) else _) _
   rw[am (x3 0 (m-1) (by lia) (by lia))]
   exact⟨hp,x3,x1,by lia⟩
  ·rw[aj h]
   obtain rfl:m=1:=by lia
   have c:=x4 (by lia)
   refine j9 (wX (zbO S hp (n-2) 2 (by lia) (by lia) λi j hij hj=>?_) λr ⟨y1,y2,y3,y4,y5⟩=>?_)
   ·obtain rfl:j=1:=by lia
    obtain rfl:i=0:=by lia
    exact c
   ·rw[aj (by lia),y1]
    exact zfs S hp (by lia) (by lia) y5
theorem WY(S:SO lt n){p:Array Nat}(hp:PP n p){k:Nat}(hk:k<n)(hr:ZF lt p k):∀(f l r:Nat),l<=r->r<=k->r-l<=f->(∀i,i<l->lt (gt p i) (gt p k)=af)->(∀i,r<=i->i<k->lt (gt p k) (gt p i)=af) ->
  kOk lt n (m5 p k f l r) λm=>m<=k/\(∀i,i<m->lt (gt p i) (gt p k)=af)/\∀i,m<=i->i<k->lt (gt p k) (gt p i)=af
 |0,l,r,h1,h2,h3,h4,h5=>⟨by lia,h4,λi hi hik=>h5 i (by lia) hik⟩
 |f+1,l,r,h1,h2,h3,h4,h5=>by
  unfold m5
  by_cases c:l >= r
  ·rw[am c]
   exact⟨by lia,h4,λi hi hik=>h5 i (by lia) hik⟩
  ·rw[aj c]
   refine⟨hp.blt (by lia),hp.blt (by lia),(λz=>by have:=hp.inj (by lia) (by lia) z;lia),?_⟩
   show kOk lt n (if lt (gt p k) (gt p ((l+r)/2))=af then _ else _) _
   by_cases d:lt (gt p k) (gt p ((l+r)/2))=af
   ·rw[am d]
    refine WY S hp hk hr f l ((l+r)/2) (by lia) (by lia) (by lia) h4 λi hi hik=>?_
    by_cases e:i=(l+r)/2
    ·rw[e];exact d
    ·exact S.trans _ _ _ (hp.blt (by lia)) (hp.blt (by lia)) (hp.blt (by lia)) d (hr _ i (by lia) hik)
   ·rw[aj d]
    have up:lt (gt p ((l+r)/2)) (gt p k)=af:=S.tot _ _ (hp.blt (by lia)) (hp.blt (by lia)) (λz=>by have:=hp.inj (by lia) (by lia) z;lia) (lT.mpr d)
    refine WY S hp hk hr f ((l+r)/2+1) r (by lia) (by lia) (by lia) (λi hi=>?_) h5
    by_cases e:i=(l+r)/2
    ·rw[e];exact up
    ·exact S.trans _ _ _ (hp.blt (by lia)) (hp.blt (by lia)) (hp.blt (by lia)) (hr i _ (by lia) (by lia)) up
theorem zdL(hk:k<p.size)(hd:d<=k)(hj:j<p.size):gt (bubble p k d) j=if j=k-d then gt p k else if k-d<j/\j<=k then gt p (j-1) else gt p j:=by
 have e:=getElem?_bubble hk d hd j
 rw[ka (p:=bubble p k d) (k:=j) (by rw[bubble_size];exact hj)] at e
 by_cases h1:j=k-d
 ·rw[am h1,ka hk] at e
  rw[am h1];exact bQ e
 ·rw[aj h1] at e ⊢
  by_cases h2:k-d<j/\j<=k
  ·rw[am h2,ka (by lia)] at e
   rw[am h2];exact bQ e
  ·rw[aj h2,ka hj] at e
   rw[aj h2];exact bQ e
theorem zdM(S:SO lt n):∀(f:Nat) {p:Array Nat} (k:Nat),PP n p->k+f=n->ZF lt p k->kOk lt n (kas_bin f p k) λp'=>PP n p'/\ZF lt p' n
 |0,p,k,hp,hk,hr=>⟨hp,by rw[<-hk];exact hr⟩
 |f+1,p,k,hp,hk,hr=>by
  have hs:=hp.size
  refine j9 (wX (WY S hp (by lia) hr k 0 k (bP _) (bi _) (by lia) (λi hi=>by lia) (λi h1 h2=>by lia)) λl ⟨x1,x2,x3⟩=>?_)
  refine zdM S f (k+1) (oY (bubble_perm _ _ _) hp) (by lia) λi j hij hj=>?_
  rw[zdL (by lia) (by lia) (by lia),zdL (by lia) (by lia) (by lia)]
  have e:k-(k-l)=l:=by lia
  rw[e]
  by_cases hi:i=l
  ·rw[am hi,aj (by lia),am (by lia)]
   exact x3 _ (by lia) (by lia)
  ·rw[aj hi]
   by_cases hi2:l<i/\i<=k
   ·rw[am hi2,aj (by lia),am (by lia)]
    exact hr _ _ (by lia) (by lia)
   ·rw[aj hi2]
    by_cases hj1:j=l
    ·rw[am hj1]
     exact x2 _ (by lia)
    ·rw[aj hj1]
     by_cases hj2:l<j/\j<=k
     ·rw[am hj2]
      by_cases hij2:i<j-1
      ·exact hr _ _ hij2 (by lia)
      ·lia
     ·rw[aj hj2]
      exact hr _ _ hij (by lia)
theorem zft(S:SO lt n)(hn:1<=n):kOk lt n (kas_sort n) λp=>PP n p/\ZF lt p n:=by
 refine j9 (wX (zdK S (p:=oQ (da n)) (pC _) hn) λr ⟨x1,x2,x3,x4⟩=>?_)
 by_cases h:r.1<n
 ·rw[am h,Nat.max_eq_left x3]
  exact zdM S _ _ x1 (by lia) x2
 ·rw[aj h]
  obtain e:r.1=n:=by lia
  exact⟨x1,by rw[<-e];rw[e] at x2 ⊢;exact x2⟩
end
theorem zdN{α:Type}{lt:Nat->Nat->Bool}{n:Nat}{s:ah}{cmp:Nat->Nat->(Bool->ah->Prop)->ah->Prop}(hc:∀i j C,i<n->j<n->i≠j->C (lt i j) s->cmp i j C s):∀ {t:KasT α} {R:α->Prop} {Q:α->ah->Prop},kOk lt n t R->(∀a,R a->Q a s)->t.kasWp cmp Q s
 |.ret _,_,_,h,m=>m _ h
 |.ask _ _ _,_,_,h,m=>hc _ _ _ h.1 h.2.1 h.2.2.1 (zdN hc h.2.2.2 m)
def Kp(a:ac)(h h':av):Prop:=∀b o,b≠a->h.get? b=aa o->h'.get? b=aa o
def vy(vs:List ae)(p:Array Nat):List ae:=p.toList.map λi=>vs.getD i cI
theorem QD(vs:List ae):vy vs (oQ (da vs.length))=vs:=by
 unfold vy
 apply dW
 intro i
 simp only[bp]
 by_cases h:i<vs.length
 ·rw[bb (l:=vs) h]
  simp[gH h,h]
 ·rw[ca (by lia:vs.length<=i)]
  simp
  lia
section
variable {P:aq}{w:au}{A:aw}{E:ae->ah->Prop}{s:ah}
theorem WZ{a:ac}{vs:List ae}{n:Nat}{κ:SortKind}{lt:Nat->Nat->Bool}{R:PySem.Fin->ah->Prop}(ho:s.heap.get? a=aa (seqObj "list" vs.toArray n))(h64:vs.length<64)
  (hk:2<=vs.length->∀(h:av) (Q:SortKind->ah->Prop),Kp a s.heap h->Q κ { s with heap:=h }->Bf (Bg P w) A (keyKind' vs.toArray) Q (λ_ _=>False) { s with heap:=h })
  (hc:∀(h:av) i j C,Kp a s.heap h->i<vs.length->j<vs.length->i≠j->C (lt i j) { s with heap:=h }->kas_ask P w A κ vs i j C { s with heap:=h }) (S:SO lt vs.length)
  (fin:∀h p c,Kp a s.heap h->h.get? a=aa (seqObj "list" (vy vs p).toArray c)->PP vs.length p->ZF lt p vs.length->R (.done (.ret .none)) { s with heap:=h }) :
  Bf (Bg P w) A (Builtin.«list.sort» ⟨[.ref a],[]⟩) R E s:=by
 have ha:a<s.heap.objs.size:=bO ho
 obtain⟨e1,o1⟩:∃e1,(s.heap.update a (du λ_=>(#[]:Array ae))).get? a=aa (seqObj "list" #[] e1):=⟨_,get?_update_seq ho λ_=>#[]⟩
 have k1:Kp a s.heap (((s.heap.update a (du λ_=>(#[]:Array ae))).push (seqObj "tuple" vs.toArray 0)).push (seqObj "list" #[] 0)):=λb o hb e =>
  bg _ (bg _ ((dP _ _ (eL hb)).trans e))
 have o3:(((s.heap.update a (du λ_=>(#[]:Array ae))).push (seqObj "tuple" vs.toArray 0)).push (seqObj "list" #[] 0)).get? a=aa (seqObj "list" #[] e1):=bg _ (bg _ o1)
 have last:∀out:List ae,out.length=vs.length->∃c,((((s.heap.update a (du λ_=>(#[]:Array ae))).push (seqObj "tuple" vs.toArray 0)).push (seqObj "list" #[] 0)).update a (du λ_=>out.toArray)).get? a=aa (seqObj "list" out.toArray c):=λout _=>⟨_,get?_update_seq o3 λ_=>out.toArray⟩
 have keep2:∀out:List ae,Kp a s.heap ((((s.heap.update a (du λ_=>(#[]:Array ae))).push (seqObj "tuple" vs.toArray 0)).push (seqObj "list" #[] 0)).update a (du λ_=>out.toArray)):=λout b o hb e =>
  (dP _ _ (eL hb)).trans (k1 b o hb e)
 rw[list_sort_plain];refine ba (listItems_at ho rfl ?_)
 refine ba (oj ho rfl ?_ (by rw[bF,bS];lia) (bP _));refine ba (seqEpoch_at o1 rfl ?_)
 refine ba (wpAny_newTuple ?_ (by show vs.length<=_;rw[bS];lia));refine ba (om ?_ (bP _));refine dY ?_
 show Bf (Bg P w) A _ R E { s with heap:=((s.heap.update a (du λ_=>(#[]:Array ae))).push (seqObj "tuple" vs.toArray 0)).push (seqObj "list" #[] 0) }
 generalize hH:((s.heap.update a (du λ_=>(#[]:Array ae))).push (seqObj "tuple" vs.toArray 0)).push (seqObj "list" #[] 0)=g at *
 dsimp only
 have up:∀out:List ae,out.length=vs.length->∀p,out=vy vs p->PP vs.length p->ZF lt p vs.length->R (.done (.ret .none)) { s with heap:=g.update a (du λ_=>out.toArray) }:=λout hl p e hp hr=>by
  obtain⟨c,hcc⟩:=last out hl
  refine fin _ p c (keep2 out) ?_ hp hr
  rw[<-e];exact hcc
 by_cases h2:vs.toArray.size<2
 ·have hl2:vs.length<2:=by simpa using h2
  rw[am h2,am h2];refine ba (bh ?_);rw[StateT.run_pure];refine ba (bh ?_)
  dsimp only
  have ez:((vs.toArray.zip vs.toArray).map (·.2))=vs.toArray:=by
   apply mF.mp
   rw[Array.toList_map,Array.toList_zip]
   simp[List.map_snd_zip]
  refine ba (seqEpoch_at o3 rfl ?_)
  rw[show (arrOf (SortSt.mk' general' (vs.toArray.zip vs.toArray) #[] 7 ai))=vs.toArray.zip vs.toArray from rfl,ez]
  refine ba (oj o3 rfl ?_ (bP _) (by rw[bF,bS];lia))
  simp only[bne_self_eq_false,cx,if_false]
  exact bh (up vs rfl _ (QD vs).symm (pC _) λi j hij hj=>by lia)
 ·have hl2:2<=vs.length:=by simpa using h2
  rw[aj h2,aj h2];refine ba (dE (hk hl2 g (λκ' s'=>κ'=κ/\s'={ s with heap:=g }) k1 ⟨rfl,rfl⟩) (λκ' s' hs=>?_) λ_ _ x=>x.elim)
  obtain⟨rfl,rfl⟩:=hs
  have run:=zdN (s:={ s with heap:=g }) (cmp:=kas_ask P w A κ' vs) (λi j C hi hj hij hC=>hc g i j C k1 hi hj hij hC) (zft S (by lia)) (Q:=λp s'=>s'={ s with heap:=g }/\PP vs.length p/\ZF lt p vs.length) λp hp=>⟨rfl,hp⟩
  refine ba (dE (kat_run (ks:=vs) (Q:=λst s'=>∃p:Array Nat,arrOf st=p.map (kas_item (vs.toArray.zip vs.toArray))/\failedOf st=ai/\s'={ s with heap:=g }/\PP vs.length p/\ZF lt p vs.length) rfl hl2 h64 (λp st s' _ a2 a3 a4=>⟨p,a2,a3,a4⟩) run) ?_ λ_ _ e=>e)
  rintro⟨⟨⟩,st⟩ s' ⟨p,har,hf,rfl,hp,hr⟩
  dsimp only
  have out:=kat_snds (ks:=vs) rfl har
  have ol:(vy vs p).length=vs.length:=by unfold vy;rw[bd,b8,hp.size]
  rw[out];refine ba (seqEpoch_at o3 rfl ?_)
  refine ba (oj o3 rfl ?_ (bP _) (by show (oQ (vy vs p)).size<=_;rw[bF,ol,bS];lia));rw[hf]
  simp only[bne_self_eq_false,cx,if_false]
  exact bh (up (vy vs p) ol p rfl hp hr)
theorem XX{l:ac}{vs:List ae}{κ:SortKind}{lt:Nat->Nat->Bool}{Q:ae->ah->Prop}(h64:vs.length<64)(S:SO lt vs.length)
  (coll:∀R:List ae->ah->Prop,(∀(h:av) (tk:Nat),(∀b o,s.heap.get? b=aa o->h.get? b=aa o)->R vs { s with heap:=h,toks:=tk })->Bf (Bg P w) A.in1 (collect (.ref l)) R E s)
  (hk:2<=vs.length->∀(h:av) (tk:Nat) (Q:SortKind->ah->Prop),(∀b o,s.heap.get? b=aa o->h.get? b=aa o)->Q κ { s with heap:=h,toks:=tk }->Bf (Bg P w) A.in1.in1 (keyKind' vs.toArray) Q (λ_ _=>False) { s with heap:=h,toks:=tk })
  (hc:∀(h:av) (tk:Nat) i j C,(∀b o,s.heap.get? b=aa o->h.get? b=aa o)->i<vs.length->j<vs.length->i≠j->C (lt i j) { s with heap:=h,toks:=tk }->kas_ask P w A.in1.in1 κ vs i j C { s with heap:=h,toks:=tk })
  (fin:∀(h:av) (tk:Nat) (h':av) (p:Array Nat) (c:Nat),(∀b o,s.heap.get? b=aa o->h.get? b=aa o)->(∀b o,h.get? b=aa o->h'.get? b=aa o)->h'.get? h.objs.size=aa (seqObj "list" (vy vs p).toArray c)->PP vs.length p->ZF lt p vs.length->Q (.ref h.objs.size) { s with heap:=h',toks:=tk }) :
  Bf (Bg P w) A (call (.builtin "sorted") [.ref l]) Q E s:=by
 refine lI kind_sorted plain_sorted entry_sorted (args_sorted1 _) ?_;unfold Builtin.«sorted»
 refine ba (m:=checkCount "sorted" 1 1 _) (bh ?_);refine ba (coll _ λh tk hk1=>?_)
 refine ba (om ?_ (by rw[bS];lia))
 have hoL:(h.push (seqObj "list" vs.toArray 0)).get? h.objs.size=aa (seqObj "list" vs.toArray 0):=bH _ rfl
 have kept:∀h',Kp h.objs.size (h.push (seqObj "list" vs.toArray 0)) h'->∀b o,h.get? b=aa o->h'.get? b=aa o:=λh' k b o e=>k b o (cq (bO e)) (bg _ e)
 refine ba (dY (dy slot_list_sort ⟨_,hoL,rfl⟩ entry_list_sort (WZ (s:={ s with heap:=h.push (seqObj "list" vs.toArray 0),toks:=tk }) hoL h64 (κ:=κ) (lt:=lt) (λh2 h' Q' k q=>?_) (λh' i j C k hi hj hij q=>?_) S λh' p c k ho hp hr=>?_) (args_list_sort _)))
 ·exact hk h2 h' tk Q' (λb o e=>kept h' k b o (hk1 b o e)) q
 ·exact hc h' tk i j C (λb o e=>kept h' k b o (hk1 b o e)) hi hj hij q
 ·exact⟨_,rfl,bh ⟨_,rfl,fin h tk h' p c hk1 (kept h' k) ho hp hr⟩⟩
end
section
variable {lt:Nat->Nat->Bool}{n:Nat}
theorem PP.ask(h:PP n p)(hi:i<n)(hj:j<n)(hij:i≠j):gt p i<n/\gt p j<n/\gt p i≠gt p j:=⟨h.blt hi,h.blt hj,λz=>hij (h.inj hi hj z)⟩
theorem Js{p:Array Nat}(hp:PP n p){k:Nat}(hk:k<n):∀(f l r:Nat),l<=r->r<=k->kOk lt n (m5 p k f l r) λm=>m<=k
 |0,l,r,h1,h2=>bK h1 h2
 |f+1,l,r,h1,h2=>by
  unfold m5
  split
  ·exact bK h1 h2
  ·obtain⟨x,y,z⟩:=hp.ask (i:=k) (j:=(l+r)/2) (by lia) (by lia) (by lia)
   refine⟨x,y,z,?_⟩
   show kOk lt n (if lt (gt p k) (gt p ((l+r)/2))=af then m5 p k f l ((l+r)/2) else m5 p k f ((l+r)/2+1) r) _
   split
   ·exact Js hp hk f l _ (by lia) (by lia)
   ·exact Js hp hk f _ r (by lia) (by lia)
end
def yv(a b:Str×Int):Bool:=if a.1=b.1 then decide (a.2<b.2) else decide (a.1.cps.toList<b.1.cps.toList)
def PlAt(h:av)(v:ae)(q:Str×Int):Prop:=∃a o t u n,v=.ref a/\h.get? a=aa o/\o.cls=.type "tuple"/\o.data=.seq #[.str q.1 t,.int q.2 u] n
section
variable {P:aq}{w:au}{A:aw}{E:ae->ah->Prop}{s:ah}
theorem zfu{Q:Bool->ah->Prop}(h:Q (decide (a.cps.toList<c.cps.toList)) s):Bf (Bg P w) A (oneLt' af (.str a t) (.str c u)) Q E s:=by
 rw[<-keyLt'_oneType]
 exact kas_lt_str h
theorem zfv{a c:Int}{Q:Bool->ah->Prop}(h:Q (decide (a<c)) s):Bf (Bg P w) A (oneLt' ak (.int a t) (.int c u)) Q E s:=
 kat_one _ _ (nN (show W.BoolBack Q (.bool (decide (a<c))) s from h))
theorem zcC{a b:Str×Int}{Q:Bool->ah->Prop}(hx:PlAt s.heap x a)(hy:PlAt s.heap y b)(h:Q (yv a b) s)(hn:a≠b):Bf (Bg P w) A (keyLt' (tuples' af) x y) Q E s:=by
 obtain⟨p,o,t,u,n,rfl,ho,hc,hd⟩:=hx
 obtain⟨p2,o2,t2,u2,n2,rfl,ho2,hc2,hd2⟩:=hy
 refine kat_lt ho hd ho2 hd2 (kat_cons (wpAny_eqBool_str (kat_go (λe=>kat_yes (kat_cons (wpAny_eqBool_int (kat_go (λe2=>?_) λe2=>kat_no ?_)))) λe=>kat_no ?_)))
 ·exact absurd (pJ (of_decide_eq_true e) (by simpa using e2)) hn
 ·have e:=of_decide_eq_true e
  unfold yv at h
  rw[am e] at h
  exact zfv h
 ·have e:=of_decide_eq_false e
  unfold yv at h
  rw[aj e] at h
  exact zfu h
theorem za2{vs:List ae}{qs:List (Str×Int)}{Q:SortKind->ah->Prop}(hl:vs.length=qs.length)(hv:∀(i:Nat) (v:ae) (q:Str×Int),vs[i]?=aa v->qs[i]?=aa q->PlAt s.heap v q)(h2:0<vs.length)(h:Q (tuples' af) s) :
  Bf (Bg P w) A (keyKind' vs.toArray) Q E s:=by
 have T:∀(vs:List ae) (qs:List (Str×Int)),vs.length=qs.length->(∀(i:Nat) (v:ae) (q:Str×Int),vs[i]?=aa v->qs[i]?=aa q->PlAt s.heap v q)->∃fs,KatTups s.heap vs fs/\fs.length=vs.length/\∀v∈fs,∃x t,v=gM x t:=by
  intro vs
  induction vs with
  |nil=>exact λqs _ _=>⟨[],trivial,rfl,λ_ z=>nomatch z⟩
  |cons v r ih =>
   intro qs hl hv
   match qs,hl with
   |q::qr,hl =>
    obtain⟨fs,k,kl,kf⟩:=ih qr (by simpa using hl) λi v' q' e1 e2=>hv (i+1) v' q' (by simpa using e1) (by simpa using e2)
    obtain⟨a,o,t,u,n,rfl,ho,hc,hd⟩:=hv 0 v q rfl rfl
    refine⟨.str q.1 t::fs,pN ho hc hd rfl k,by simp[kl],λz hz=>?_⟩
    rcases bD.mp hz with rfl|hz
    ·exact⟨_,_,rfl⟩
    ·exact kf z hz
 obtain⟨fs,k,kl,kf⟩:=T vs qs hl hv
 refine kat_kind (T:=.type "str") k (by lia) (λv hv=>?_) (by lia) h
 obtain⟨x,t,rfl⟩:=kf v hv
 exact Looks.of_pure rfl
end
theorem QE{x y:Str}(h:x.cps.toList=y.cps.toList):x=y:=by
 obtain⟨a⟩:=x
 obtain⟨b⟩:=y
 have:a=b:=mF.mp h
 rw[this]
theorem W0{qs:List (Str×Int)}(hn:qs.Nodup):SO (λi j=>yv (qs.getD i ("",0)) (qs.getD j ("",0))) qs.length where
 irr:=λi _=>by
  unfold yv
  rw[am rfl]
  exact Bk (by lia)
 trans:=λi j k _ _ _ h1 h2=>by
  generalize qs.getD i ("",0)=a at *
  generalize qs.getD j ("",0)=b at *
  generalize qs.getD k ("",0)=c at *
  unfold yv at *
  by_cases e1:a.1=b.1
  ·rw[am e1] at h1
   by_cases e2:b.1=c.1
   ·rw[am e2] at h2
    rw[am (e1.trans e2)]
    have h1:=of_decide_eq_true h1
    have h2:=of_decide_eq_true h2
    exact Bj (by lia)
   ·rw[aj e2] at h2
    rw[aj (by rw[e1];exact e2),e1]
    exact h2
  ·rw[aj e1] at h1
   have h1:=of_decide_eq_true h1
   by_cases e2:b.1=c.1
   ·rw[aj (by rw[<-e2];exact e1),<-e2]
    exact Bj h1
   ·rw[aj e2] at h2
    have h2:=of_decide_eq_true h2
    have h3:=List.lt_trans h1 h2
    rw[aj (λz=>by rw[z] at h3;exact List.lt_irrefl _ h3)]
    exact Bj h3
 tot:=λi j hi hj hij h=>by
  have ne:qs.getD i ("",0)≠qs.getD j ("",0):=λz=>hij (by
   rw[bB,bB,bb hi,bb hj] at z
   exact(gE hn).mp z)
  generalize qs.getD i ("",0)=a at *
  generalize qs.getD j ("",0)=b at *
  unfold yv at *
  by_cases e:a.1=b.1
  ·rw[am e] at h
   rw[am e.symm]
   have h:=of_decide_eq_false h
   have:a.2≠b.2:=λz=>ne (pJ e z)
   exact Bj (by lia)
  ·rw[aj e] at h
   rw[aj (λz=>e z.symm)]
   have h:=of_decide_eq_false h
   refine Bj ?_
   rcases List.le_iff_lt_or_eq.mp (List.not_lt.mp h) with z|z
   ·exact z
   ·exact absurd (QE z.symm) e
end L2
namespace L2
open PySem
def RawD(h:av)(d:ac)(es:Array DictEntry)(ep:Nat):Prop:=∃o,h.get? d=aa o/\o.ExactDict/\o.data=.dict es ep
section
variable {P:aq}{w:au}{A:aw}{E:ae->ah->Prop}{s:ah}
theorem RawD.type(x:RawD s.heap d es ep):s.TypeIs (.ref d) "dict":=let ⟨o,ho,hc,_⟩:=x;⟨o,ho,hc.1⟩
theorem RawD.at(x:RawD h d es ep)(e:∀o,h.get? d=aa o->h'.get? d=aa o):RawD h' d es ep:=let ⟨o,ho,r⟩:=x;⟨o,e _ ho,r⟩
theorem QH{Q:ae->ah->Prop}(lo:(d==sysModules)=ak)(hm:RawD s.heap d es ep)
  (q:Q (.ref s.heap.objs.size) { s with heap:=s.heap.push { cls:=.type "dict_keyiterator",data:=.fields #[.ref d,.int 0 0,.int es.size 0,.int ep 0] } }):Bf (Bg P w) A (pyIter (.ref d)) Q E s:=by
 have T:=hm.type
 obtain⟨o,ho,hc,hd⟩:=id hm
 refine wpAny_pyIter_slot T F.slot_dict_iter (dy F.slot_dict_iter T F.entry_dict_iter ?_ (F.args_dict_iter_1 _));unfold Builtin.«dict.__iter__»
 refine ba ?_;unfold Builtin.Dict.dictSlotNone;refine ba (eX T ?_)
 show Bf _ _ (pure (bG d)) _ _ s;refine bh ?_
 show Bf _ _ (fU d >>= _) _ _ s;unfold fU
 rw[aj (by rw[lo];exact bJ)];refine ba (bh ?_)
 refine ba (dG ho hd ?_);refine ba (fV ho hd ?_)
 refine ba (dn (bh ⟨_,rfl,"dict_keyiterator",_,⟨_,bH _ rfl,rfl⟩,F.slot_dict_keyiterator_next.lookup,?_⟩));simpa[rawInt] using q
theorem QI{Q:Option ae->ah->Prop}(hit:s.heap.IsKeyIter it d i es.size ep)(hm:RawD s.heap d es ep)(hx:es[i]?=aa e)
  (q:∀h,h.IsKeyIter it d (i+1) es.size ep->cV it s.heap h->Q (aa e.key) { s with heap:=h }):Bf (Bg P w) A (pyNext (.ref it)) Q E s:=by
 obtain⟨o,ho,hc,hd⟩:=id hit
 obtain⟨od,hod,hcd,hdd⟩:=id hm
 have lt:i<es.size:=by
  rcases iz i es.size with h|h
  ·exact h
  ·rw[gX h] at hx;cases hx
 unfold pyNext
 refine ba (mz (eE (name:=bc "__next__") hit.typeIs eG (dy eG hit.typeIs iK ?_ (iA _))))
 refine ba (bh ?_);refine ba ?_;refine ba ?_
 first|(refine ba (eB hit.typeIs (bh ?_)))|(refine ba (fq hit.typeIs (bh ?_)))
 refine ba (lJ ho hd ?_);have own:dI "dict_keyiterator"=ak:=by lia
 simp only[own,cx,if_false];show Bf _ _ (if (bG d==cI)=af then _ else _) _ _ s
 rw[aj (show ¬ ((bG d==cI)=af) from bJ)];refine ba (bh ?_);refine ba (dG hod hdd ?_)
 rw[aj (by simp)];refine ba (bh ?_);refine ba (fV hod hdd ?_);rw[aj (by simp)];refine bh ?_
 simp only[show ¬ ((i:Int)<0) from by lia,if_false,eK,hx]
 refine ba ?_
 first|(refine ba (eB hit.typeIs (bh ?_)))|(refine ba (fq hit.typeIs (bh ?_)))
 refine ba (m6 hit.typeIs ?_);show Bf _ _ (setField (.ref it) 1 (rawInt ((i:Int)+1)) >>= _) _ _ s
 refine ba (nM ho hd (by simp) ?_)
 have next:(s.heap.update it (Obj.mapFields (·.setIfInBounds 1 (rawInt ((i:Int)+1))))).IsKeyIter it d (i+1) es.size ep:=by
  refine⟨_,eY _ ho (Obj.isFreed_of_fields (on hd _)),(Obj.cls_mapFields ..).trans hc,?_⟩;rw[on hd];simp[rawInt]
 refine ba (dY ?_)
 refine ba (m6 (s:={ s with heap:=s.heap.update it (Obj.mapFields (·.setIfInBounds 1 (rawInt ((i:Int)+1)))) }) next.typeIs ?_);show Bf _ _ (pure e.key) _ _ _
 exact bh (bh ⟨_,rfl,bh (q _ next (dC ..))⟩)
theorem zbP{Q:Option ae->ah->Prop}(hh:A.handled=ai)(hit:s.heap.IsKeyIter it d i es.size ep)(hm:RawD s.heap d es ep)(hx:es.size<=i)
  (q:∀h,Heap.ExtBut it s.heap h->Q ai { s with heap:=h }):Bf (Bg P w) A (pyNext (.ref it)) Q E s:=by
 obtain⟨o,ho,hc,hd⟩:=id hit
 obtain⟨od,hod,hcd,hdd⟩:=id hm
 unfold pyNext
 refine ba (mz (eE (name:=bc "__next__") hit.typeIs eG (dy eG hit.typeIs iK ?_ (iA _))))
 refine ba (bh ?_);refine ba ?_;refine ba ?_
 first|(refine ba (eB hit.typeIs (bh ?_)))|(refine ba (fq hit.typeIs (bh ?_)))
 refine ba (lJ ho hd ?_);have own:dI "dict_keyiterator"=ak:=by lia
 simp only[own,cx,if_false];show Bf _ _ (if (bG d==cI)=af then _ else _) _ _ s
 rw[aj (show ¬ ((bG d==cI)=af) from bJ)];refine ba (bh ?_);refine ba (dG hod hdd ?_)
 rw[aj (by simp)];refine ba (bh ?_);refine ba (fV hod hdd ?_);rw[aj (by simp)];refine bh ?_
 simp only[show ¬ ((i:Int)<0) from by lia,if_false,eK,gX hx]
 refine ba ?_
 first|(refine ba (eB hit.typeIs (bh ?_)))|(refine ba (fq hit.typeIs (bh ?_)))
 show Bf _ _ (setField (.ref it) 0 .none >>= _) _ _ s;refine ba (nM ho hd (by simp) ?_)
 show Bf _ _ (newExc (.type "StopIteration") [] >>= _) _ _ _;refine ba ?_;simp only[newExc,newTuple]
 refine ba (dn ?_ (by size_fits));refine ba (m:=firstArgMember _ _) (wpAny_of_eq (a:=cI) (by first|rfl|(simp only[firstArgMember];rfl)) ?_)
 refine dn ?_ (by size_fits);simp only[raiseNew]
 refine ba (wpAny_handled ?_);rw[show A.in1.handled=ai from hh];refine ba (bh (wpAny_throw ?_))
 exact ba (wpAny_isInstance (T:="StopIteration") (b:=af) ⟨_,bH _ rfl,rfl⟩ isSubtype_stop (bh (q _ (((dC ..).extBut.push _).push _))))
theorem zcD(hh:A.handled=ai)(I d:ac)(hne:d≠I)(es:Array DictEntry)(ep:Nat) :
  Walks P w A I [I,d] [I] es.size (λi v=>∃e,es[i]?=aa e/\v=e.key) (λi h=>h.IsKeyIter I d i es.size ep/\RawD h d es ep) where
 sub:=λb hb=>by simp at hb;simp[hb]
 frame:=λ_ _ _ st hk=>⟨st.1.at λo e=>hk I (by simp) o e,st.2.at λo e=>hk d (by simp) o e⟩
 item:=λi s Q E hi st hQ=>by
  refine QI st.1 st.2 (ck hi) λh' hit' hs'=>?_
  exact hQ _ h' s.toks ⟨_,ck hi,rfl⟩ ⟨hit',st.2.at λo e=>hs'.extBut d o hne e⟩ λb o hb e=>hs'.extBut b o (λh=>hb (by simp[h])) e
 done:=λs Q E st hQ=>zbP hh st.1 st.2 (bi _) λh' he'=>hQ h' s.toks λb o hb e=>he' b o (λh=>hb (by simp[h])) e
 self:=λ_ _ _ _ st hQ=>nF st.1 hQ
end
end L2
namespace L2
open PySem PySem.Spec PyProof.Rows
section
open PySem.SeqAt
open PySem.AutoSeq1 (wpAny_loadPart')
open PySem.MeetsSeq PySem.MeetsSeq2 PySem.MeetsSeq3
theorem W1(l b:ac)(x y:Str)(i j:Int)(t u t2 u2:Tok)(n n2:Nat)(dd dd2:Option ac)(sl sl2:Array (Option ae)) :
  Meets (Builtin.«tuple.__lt__» ⟨[.ref l,.ref b],[]⟩) (λ_ R s=>s.heap.get? l=aa { cls:=.type "tuple",dict:=dd,data:=.seq #[.str x t,.int i u] n,slots:=sl } /\
   s.heap.get? b=aa { cls:=.type "tuple",dict:=dd2,data:=.seq #[.str y t2,.int j u2] n2,slots:=sl2 }/\R (.ok (.ret (.bool (yv (x,i) (y,j))))) s) :=
 .of_wp λprog w A R s h=>by
  obtain⟨hp,g,d,tk,os⟩:=s;obtain⟨hl,hb,h⟩:=h
  have f2:=AutoSeq1.sub_tuple_tuple
  have lt1:∀(E:ae->ah->Prop) (Q:ae->ah->Prop) (s:ah),Q (.bool (decide (x.cps.toList<y.cps.toList))) s->Bf (Bg prog w) A.in1 (richCompare .Lt (.str x t) (.str y t2)) Q E s:=λE Q s q=>(PyProof.Rows.lt_str q:Bf (Bg prog w) A.in1 (Bi .Lt (.str x t) (.str y t2)) Q E s)
  have lt2:=HT.rcLt_int A.in1 ⟨hp,g,d,tk,os⟩ i u j u2 prog w
  by_cases e:x=y
  ·subst e
   have eq1:=lF (A:=A.in1) (s:=⟨hp,g,d,tk,os⟩) x t x t2 prog w
   rw[beq_self_eq_true] at eq1
   unfold yv at h
   rw[am rfl] at h
   by_cases e2:i=j
   ·subst e2
    have eq2:=lE (A:=A.in1) (s:=⟨hp,g,d,tk,os⟩) i u i u2 prog w
    rw[beq_self_eq_true] at eq2
    wp_walk using fW hl,fW hb,eq1,eq2
    exact⟨_,rfl,by simpa[Builtin.Tuple.tupleCompareSizes] using h⟩
   ·have eq2:=lE (A:=A.in1) (s:=⟨hp,g,d,tk,os⟩) i u j u2 prog w
    rw[show (i==j)=ak from by simpa using e2] at eq2
    wp_walk using fW hl,fW hb,eq1,eq2,lt2
    exact⟨_,rfl,by simpa using h⟩
  ·have eq1:=lF (A:=A.in1) (s:=⟨hp,g,d,tk,os⟩) x t y t2 prog w
   rw[show (x==y)=ak from by simpa using e] at eq1
   unfold yv at h
   rw[aj e] at h
   wp_walk using fW hl,fW hb,eq1,lt1
   exact⟨_,rfl,by simpa using h⟩
end
section
variable {P:aq}{w:au}{A:aw}{E:ae->ah->Prop}{s:ah}
theorem RawD.lt(x:RawD h d es ep):d<h.objs.size:=let ⟨_,ho,_⟩:=x;bO ho
theorem Ki{d:ac}{es:Array DictEntry}{ep:Nat}(lo:(d==sysModules)=ak):W.KdlSrc P w "dict" d d es.size (λi v=>∃e,es[i]?=aa e/\v=e.key) (λh=>RawD h d es ep) where
 type:=λ_ hm=>hm.type
 there:=λ_ hm=>⟨hm.lt,hm.lt⟩
 keep:=λ_ _ hm hk=>hm.at λo e=>hk d (.inl rfl) o e
 notList:=by lia
 notTuple:=by lia
 hint:=λ_ _ _ _ hm hq=>W.kdl_hint_dict hm.type hq
 iter:=λ_ _ hh hm=>⟨_,_,(λ_ _ hq=>QH lo hm hq),zcD hh _ d (cq hm.lt) es ep,⟨⟨_,bH _ rfl,rfl,rfl⟩,hm.at λo e=>bg _ e⟩⟩
theorem XY{G:Nat->ae->Prop}{OK:av->Prop}{R:List ae->ah->Prop}(K:W.KdlSrc P w T r d n G OK)(hh:A.handled=ai)(hok:OK s.heap)(hn:n<=Bb)
  (h:∀(h':av) (tk:Nat) (vs:List ae),(∀b o,s.heap.get? b=aa o->h'.get? b=aa o)->vs.length=n->(∀j v,vs[j]?=aa v->G j v)->R vs { s with heap:=h',toks:=tk }) :
  Bf (Bg P w) A (collect (.ref r)) R E s:=by
 obtain⟨lr,ld⟩:=K.there _ hok
 unfold collect
 refine ba (wpAny_runValue (eP nG ?_));rw[dq iY _]
 show Bf _ A.in1 (newList [] >>= λl=>again (.builtin "list.__iadd__" ⟨[l,.ref r],[]⟩)) _ _ s;refine ba (dn ?_)
 refine bh ⟨fZ fC _,eP entry_list_iadd' ?_⟩;rw[dq fC _]
 have hS:(s.heap.push { cls:=.type "list",data:=.seq ([]:List ae).toArray }).get? s.heap.objs.size=aa { cls:=.type "list",data:=.seq #[] }:=bH _ rfl
 show Bf _ A.in1 (de (.ref s.heap.objs.size) (.ref r) (.ref s.heap.objs.size)) _ _ _
 have key:=W.kdl_extend (A:=A) (s:={ s with heap:=s.heap.push { cls:=.type "list",data:=.seq ([]:List ae).toArray } }) (R:=λ(q:aA) (s':ah)=>∃(h':av) (tk:Nat) (acc:Array ae) (c:Nat),q=.ok (.ret (.ref s.heap.objs.size))/\s'={ s with heap:=h',toks:=tk } /\
   (∀b o,s.heap.get? b=aa o->h'.get? b=aa o)/\h'.get? s.heap.objs.size=aa { cls:=.type "list",dict:=ai,data:=.seq acc c,slots:=#[] }/\ItemsOf G acc n) K hh (K.keep _ _ hok λb _ o e=>bg _ e) s.heap.objs.size (eT lr) (eT ld) (.ref s.heap.objs.size) 0 hS
  (λh' tk acc c hk hS' hacc=>⟨h',tk,acc,c,rfl,rfl,λb o e=>hk b o (cq (bO e)) (bg _ e),hS',hacc⟩) hn
 refine dE key (λfin s' x=>?_) λe s' x=>?_
 ·cases fin with
  |done f =>
   obtain⟨h',tk,acc,c,e,rfl,hk,hS',hacc⟩:=x
   cases e
   show Bf _ A (load s.heap.objs.size >>= _) _ _ _;refine ba (nA hS' ?_)
   exact bh (h h' tk acc.toList hk (by rw[b8];exact hacc.1) λj v e=>hacc.2 j v (by rw[<-cL];exact e))
  |again c =>
   refine⟨x.1,fQ x.2 λq s' x=>?_⟩
   obtain⟨h',tk,acc,c,rfl,rfl,hk,hS',hacc⟩:=x
   show Bf _ A (load s.heap.objs.size >>= _) _ _ _;refine ba (nA hS' ?_)
   exact bh (h h' tk acc.toList hk (by rw[b8];exact hacc.1) λj v e=>hacc.2 j v (by rw[<-cL];exact e))
 ·obtain⟨h',tk,acc,c,e',_⟩:=x
  cases e'
end
def zC(q:Str×Int):List Key:=[.inr q.1,.inl q.2]
abbrev zdO:RC:=λxs H Q=>∃(a:ac) (kvs:List (List Key×V)) (qs:List (Str×Int)),xs=[.ref a]/\H a=aa (.dT kvs)/\kvs.map (·.1)=qs.map zC/\kvs.length<64 /\
 ∀(l:ac) (ps:List (ac×(Str×Int))),H l=ai->(ps.map (·.2)).Perm qs->(ps.map (·.2)).Pairwise (λa b=>yv a b=af)->(∀n∈ps,H n.1=aa (.tup [.str n.2.1,.int n.2.2]))->Q (.ref l) (upd H l (.lst (ps.map λn=>V.ref n.1)))
theorem yn{α β:Type}{F:α->β->Prop}:∀ {l₁:List α} {l₂:List β},Paired F l₁ l₂->∀ {i:Nat} {a:α} {b:β},l₁[i]?=aa a->l₂[i]?=aa b->F a b
 |_,_,.nil,i,a,b,h,_=>by simp at h
 |_,_,.cons x r,0,a,b,h1,h2=>by
  simp only[bj,bC] at h1 h2
  subst h1 h2
  exact x
 |_,_,.cons x r,i+1,a,b,h1,h2=>yn r (by simpa using h1) (by simpa using h2)
theorem PlAt.keep{q:Str×Int}(x:PlAt h v q)(k:∀b o,h.get? b=aa o->h'.get? b=aa o):PlAt h' v q:=by
 obtain⟨a,o,t,u,n,e,ho,r⟩:=x
 exact⟨a,o,t,u,n,e,k _ _ ho,r⟩
section
variable {X:Cx}
theorem QJ{σ:St}{H:Hp}{s:ah}{a:ac}{q:Str×Int}(I:Inv X pins σ H s)(h:H a=aa (.tup [.str q.1,.int q.2])):PlAt s.heap (.ref a) q:=by
 obtain⟨its,rv,⟨o,ho,hc,n,hd⟩,_⟩:=I.tuple (SqT.of h)
 cases rv with
 |cons r1 rr =>
  cases rr with
  |cons r2 rn =>
   cases rn
   obtain⟨t,rfl⟩:=r1
   obtain⟨u,rfl⟩:=r2
   exact⟨a,o,t,u,n,rfl,ho,hc,hd⟩
theorem xG{α β:Type}{f:α->β}:∀ {l:List α},(l.map f).Nodup->l.Nodup
 |[],_=>cU
 |a::r,h=>by
  rw[bo,bZ] at h
  exact bZ.mpr ⟨λz=>h.1 (bu z),xG h.2⟩
theorem Kj(hc:X.calm=af):jW X (.builtin "sorted") zdO:=by
 intro pins s σ H xs us Q I r h
 obtain⟨a,kvs,qs,rfl,ha,hk,h64,q⟩:=h
 obtain⟨u,rfl,ru⟩:=qt r
 cases ru
 obtain⟨hz,lo,xs,rel,o,es,ep,ho,hx,hd,he,hn⟩:=(show ObjOk X.prog X.w H s.heap a (.dT kvs) from I.hok a _ ha)
 have hh:X.A.handled=ai:=I.ok.hd hc
 have lk:kvs.length=qs.length:=by have:=congrArg cg hk;simpa using this
 have lx:kvs.length=xs.length:=bL rel
 have les:es.size=xs.length:=by rw[<-b8,he,bd]
 -- the keys in their order
 have key:∀(i:Nat) (x:List Key×ac×ae),xs[i]?=aa x->∃q,qs[i]?=aa q/\x.1=zC q/\H x.2.1=aa (.tup [.str q.1,.int q.2]):=λi x hx=>by
  have hi:=(bf.mp hx).1
  obtain⟨kv,hkv⟩:∃kv,kvs[i]?=aa kv:=⟨_,bb (by lia)⟩
  obtain⟨q,hq⟩:∃q,qs[i]?=aa q:=⟨_,bb (by lia)⟩
  have rl:=yn rel hkv hx
  have e1:kv.1=zC q:=by
   have e1:(kvs.map (·.1))[i]?=aa kv.1:=by rw[bp,hkv];rfl
   have e2:(qs.map zC)[i]?=aa (zC q):=by rw[bp,hq];rfl
   rw[hk,e2] at e1
   exact(bQ e1).symm
  refine⟨q,hq,by rw[<-rl.1,e1],?_⟩
  have:=rl.2.1
  rw[e1] at this
  exact this
 have nq:qs.Nodup:=by
  refine xG (f:=zC) ?_
  have e:xs.map (·.1)=qs.map zC:=by
   rw[<-hk]
   apply dW
   intro i
   rw[bp,bp]
   cases hx:xs[i]? with
   |none =>
    have:xs.length<=i:=by simpa using hx
    rw[ca (by lia:kvs.length<=i)]
    rfl
   |some x =>
    have hi:=(bf.mp hx).1
    have hkv:kvs[i]?=aa kvs[i]:=bb (by lia)
    rw[hkv]
    have:=(yn rel hkv hx).1
    simp[this]
  rw[<-e];exact hn
 have vv:∀(i:Nat) (v:ae) (q:Str×Int),(xs.map λx=>bG x.2.1)[i]?=aa v->qs[i]?=aa q->PlAt s.heap v q:=λi v q hv hq=>by
  rw[bp] at hv
  obtain⟨x,hx,rfl⟩:=b6.mp hv
  obtain⟨q',hq',_,hH⟩:=key i x hx
  rw[hq] at hq'
  cases hq'
  exact QJ I hH
 have lv:(xs.map λx=>bG x.2.1).length=qs.length:=by rw[bd];lia
 have vat:∀i,i<qs.length->PlAt s.heap ((xs.map λx=>bG x.2.1).getD i cI) (qs.getD i ("",0)):=λi hi=>by
  refine vv i _ _ ?_ ?_
  ·rw[bB,bb (by rw[lv];exact hi)];rfl
  ·rw[bB,bb hi];rfl
 have S:=W0 nq
 rw[<-lv] at S
 refine XX (vs:=xs.map λx=>bG x.2.1) (κ:=tuples' af) (by rw[bd];lia) S (λR hR=>?_) (λh2 h tk Q' kp q'=>?_) (λh tk i j C kp hi hj hij q'=>?_) λh tk h' p c k1 k2 hD hp hr=>?_
 ·refine XY (Ki (ep:=ep) (es:=es) lo) hh ⟨o,ho,hx,hd⟩ (by rw[les];lia) λh' tk vs kp hl hG=>?_
  have ev:vs=xs.map λx=>bG x.2.1:=by
   apply dW
   intro i
   by_cases hi:i<vs.length
   ·obtain⟨e,hes,ek⟩:=hG i vs[i] (bb hi)
    have e2:es.toList[i]?=aa e:=by rw[cL];exact hes
    rw[he,bp] at e2
    obtain⟨x,hxx,ex⟩:=b6.mp e2
    rw[bb hi,ek,bp,hxx,<-ex]
    rfl
   ·rw[ca (by lia),ca (by rw[bd];lia)]
  rw[ev]
  exact hR h' tk kp
 ·exact za2 (s:={ s with heap:=h,toks:=tk }) lv (λi v q hv hq=>(vv i v q hv hq).keep kp) (by lia) q'
 ·rw[lv] at hi hj
  refine zcC (s:={ s with heap:=h,toks:=tk }) ((vat i hi).keep kp) ((vat j hj).keep kp) q' λz=>hij ?_
  rw[bB,bB,bb hi,bb hj] at z
  exact(gE nq).mp z
 ·have I1:Inv X pins σ H { s with heap:=h,toks:=tk }:=I.kept k1
  have ps:∃ps:List (ac×(Str×Int)),ps.map (λn=>bG n.1)=vy (xs.map λx=>bG x.2.1) p/\ps.map (·.2)=p.toList.map (λi=>qs.getD i ("",0))/\∀n∈ps,H n.1=aa (.tup [.str n.2.1,.int n.2.2]):=by
   have pl:∀i∈p.toList,i<xs.length:=λi hi=>by
    have:i∈p:=by simpa using hi
    have:=(oi hp).mp this
    rw[bd] at this
    simpa using this
   refine⟨p.toList.map λi=>((xs.getD i ([],0,.none)).2.1,qs.getD i ("",0)),?_,by rw[df];rfl,λn hn=>?_⟩
   ·unfold vy
    rw[df]
    refine dA λi hi=>?_
    have:=pl i hi
    simp[bB,bp,bb this]
   ·obtain⟨i,hi,rfl⟩:=bE.mp hn
    have hl:=pl i hi
    obtain⟨q,hq,_,hH⟩:=key i xs[i] (bb hl)
    have e1:xs.getD i ([],0,.none)=xs[i]:=by rw[bB,bb hl];rfl
    have e2:qs.getD i ("",0)=q:=by rw[bB,hq];rfl
    show H (xs.getD i ([],0,.none)).2.1=aa (.tup [.str (qs.getD i ("",0)).1,.int (qs.getD i ("",0)).2])
    rw[e1,e2]
    exact hH
  obtain⟨ps,e1,e2,hps⟩:=ps
  have vr:Vals (ps.map λn=>V.ref n.1) (ps.map λn=>bG n.1):=by
   clear e1 e2 hps
   induction ps with
   |nil=>exact .nil
   |cons n r ih=>exact .cons rfl ih
  have psz:p.size=xs.length:=by have:=hp.size;rw[bd] at this;exact this
  have pln:ps.length=xs.length:=by have:=congrArg cg e1;unfold vy at this;simpa[psz] using this
  have I2:Inv X pins σ (upd H h.objs.size (.lst (ps.map λn=>V.ref n.1))) { s with heap:=h',toks:=tk }:=I1.laid (s:={ s with heap:=h,toks:=tk }) (a:=h.objs.size) (o:=.lst (ps.map λn=>V.ref n.1)) (t':=tk) k2 (bi _)
   ⟨by rw[bd];lia,ps.map λn=>bG n.1,c,vr,by rw[e1];exact hD⟩
  refine⟨.ref h.objs.size,_,I2,rfl,q _ ps (I1.hok.fresh (bi _)) ?_ ?_ hps⟩
  ·rw[e2]
   have pr:p.toList.Perm (da qs.length):=by
    have:=gj.mp hp
    rw[lv] at this
    simpa using this
   refine(pr.map _).trans ?_
   have:(da qs.length).map (λi=>qs.getD i ("",0))=qs:=by
    apply dW
    intro i
    rw[bp]
    by_cases hi:i<qs.length
    ·rw[gH hi,bb hi]
     simp[bB,bb hi]
    ·rw[ca (by simpa using hi),ca (by lia)]
     rfl
   rw[this]
  ·rw[e2,gb,e9]
   intro i j hi hj hij
   rw[b8] at hi hj
   have g1:=ka hi
   have g2:=ka hj
   have r:=hr i j hij (by rw[bd];lia)
   have x1:p.toList[i]=gt p i:=by
    rw[ck hi] at g1
    simpa using g1
   have x2:p.toList[j]=gt p j:=by
    rw[ck hj] at g2
    simpa using g2
   rw[x1,x2]
   exact r
end
def Itd(a:ac)(o:Obj)(kvs:List (List Key×V)):It :=
 ⟨λi H=>H a=aa (.frz o (.dT kvs))/\i<kvs.length,λi H x H'=>H'=H/\∃k v p,kvs[i]?=aa (k,v)/\x=.ref p/\H p=aa (.tup (k.map kV)),λi H=>H a=aa (.frz o (.dT kvs))/\kvs.length<=i⟩
section
variable {X:Cx}
theorem Kk{σ:St}{H:Hp}{s:ah}{a:ac}{o:Obj}{kvs:List (List Key×V)}(I:Inv X pins σ H s)(ha:H a=aa (.frz o (.dT kvs))) :
  (a==sysModules)=ak/\∃(es:Array DictEntry) (ep:Nat),o.data=.dict es ep/\RawD s.heap a es ep/\es.size=kvs.length/\∀(i:Nat) (e:DictEntry),es[i]?=aa e->∃(k:List Key) (v:V) (p:ac),kvs[i]?=aa (k,v)/\e.key=bG p/\H p=aa (.tup (k.map kV)):=by
 obtain⟨hg,hz,lo,xs,rel,o',es,ep,ho,hx,hd,he,hn⟩:=(show ObjOk X.prog X.w H s.heap a (.frz o (.dT kvs)) from I.hok a _ ha)
 rw[hg] at ho
 cases ho
 have lx:kvs.length=xs.length:=bL rel
 have les:es.size=xs.length:=by rw[<-b8,he,bd]
 refine⟨lo,es,ep,hd,⟨o,hg,hx,hd⟩,by lia,λi e hi=>?_⟩
 have e2:es.toList[i]?=aa e:=by rw[cL];exact hi
 rw[he,bp] at e2
 obtain⟨x,hxx,ex⟩:=b6.mp e2
 have hl:=(bf.mp hxx).1
 have hk:kvs[i]?=aa kvs[i]:=bb (by lia)
 have rl:=yn rel hk hxx
 refine⟨kvs[i].1,kvs[i].2,x.2.1,hk,by rw[<-ex];rfl,rl.2.1⟩
theorem za3{P:aq}{w:au}{K:bt}{tg:ay}{a it:ac}{o:Obj}{kvs:List (List Key×V)}{es:Array DictEntry}{ep:Nat}(hd:o.data=.dict es ep) :
  zc6 P w K tg (Itd a o kvs) [it] it (λi h=>h.IsKeyIter it a i es.size ep) where
 mem:=by simp
 obj:=λi h st b hb=>by
  have e:b=it:=by simpa using hb
  subst e
  obtain⟨o,e,c,d⟩:=st
  exact⟨o,e,λv z=>by rw[d] at z;cases z⟩
 keep:=λi h h' st k=>st.at λo e=>k it (by simp) o e
 item:=by
  intro X hP hw hK hc i pins s σ H E I hf st hg
  subst hP hw hK
  obtain⟨ha,hi⟩:=hg
  obtain⟨lo,es',ep',hd',raw,hs,key⟩:=Kk I ha
  rw[hd] at hd'
  cases hd'
  obtain⟨f0,f1,f2,f3,f4,f5⟩:=hf it (by simp)
  have hx:es[i]?=aa es[i]:=ck (by lia)
  obtain⟨k,v,p,hk,ek,hp⟩:=key i _ hx
  refine QI st raw hx λh' st' sb=>?_
  have I1:Inv X pins σ H { s with heap:=h' }:=I.turned (t':=s.toks) (λb o hb e=>(sb.2 b hb).trans e) f0 f1 f3 f4 f5
  obtain⟨o',e,c,d⟩:=id st'
  exact⟨_,rfl,zbu (s:={ s with heap:=h' }) e c d (by lia) ⟨.ref p,H,I1,by rw[ek];rfl,⟨rfl,k,v,p,hk,rfl,hp⟩,st',λb hb=>(hf b hb).1⟩⟩
 done:=by
  intro X hP hw hK hc i pins s σ H E I hf st hg
  subst hP hw hK
  obtain⟨ha,hi⟩:=hg
  obtain⟨lo,es',ep',hd',raw,hs,key⟩:=Kk I ha
  rw[hd] at hd'
  cases hd'
  obtain⟨f0,f1,f2,f3,f4,f5⟩:=hf it (by simp)
  exact zbP (I.ok.hd hc) st raw (by lia) λh' eb=>⟨rfl,I.turned (t':=s.toks) (λb o hb e=>eb b o hb e) f0 f1 f3 f4 f5⟩
 self:=λ_ _ _ _ _ st h=>nF st h
def iDT(tl:TE):TI:=λσ H R=>tl σ H λx H1=>∃a o kvs,x=.ref a/\H1 a=aa (.frz o (.dT kvs))/\R (Itd a o kvs) H1
theorem zdP{tl:TE}(hl:PE X l tl):PI X tg l (iDT tl):=by
 intro pins s σ H R I h
 refine thn (hl pins s σ H _ I h) λv s1 ⟨x,H1,I1,r1,q1⟩=>?_
 obtain⟨a,o,kvs,e,ha,q⟩:=q1
 subst e
 cases r1
 obtain⟨lo,es,ep,hd,raw,hs,key⟩:=Kk I1 ha
 refine QH lo raw ?_
 refine⟨s1.heap.objs.size,[s1.heap.objs.size],_,_,H1,rfl,I1.kept (t':=s1.toks) λb o e=>bg _ e,za3 hd,⟨_,bH _ rfl,rfl,rfl⟩,λb hb=>?_,q⟩
 have e:b=s1.heap.objs.size:=by simpa using hb
 subst e
 exact I1.fpOk (bi _) (I1.hok.fresh (bi _))
def zdQ:HO->Prop
 |.tup _=>False
 |.own _=>False
 |.tbl _=>False
 |_=>True
theorem Inv.relab{σ:St}{H:Hp}{s:ah}{a:ac}{u u':HO}(I:Inv X pins σ H s)(ha:H a=aa u)(hp:zdQ u)(hf:∀o z,X.H₀ a≠aa (.frz o z))(ho:ObjOk X.prog X.w (upd H a u') s.heap a u'):Inv X pins σ (upd H a u') s:=by
 have nn:∀b,H b=ai->b≠a:=λb n z=>by subst z;rw[n] at ha;cases ha
 have ntup:∀b xs,H b=aa (.tup xs)->b≠a:=λb xs q z=>by subst z;rw[ha] at q;cases q;exact hp
 have nown:∀b y,H b=aa (.own y)->b≠a:=λb y q z=>by subst z;rw[ha] at q;cases q;exact hp
 have ntbl:∀b y,H b=aa (.tbl y)->b≠a:=λb y q z=>by subst z;rw[ha] at q;cases q;exact hp
 refine⟨I.ok,I.os,I.bare,⟨I.base.keep,I.base.slot,λb o q n hb=>?_,I.base.there,λb xs q=>?_,λb o z q=>?_,λb ps q=>?_⟩,I.loc,I.cell,?_,λx c e=>?_,λp hp=>?_,λb v q=>?_,I.len⟩
 ·have:=I.base.free b o q n hb
  rw[zi (nn b this)];exact this
 ·have:=I.base.tups b xs q
  rw[zi (ntup b xs this)];exact this
 ·have:=I.base.frzs b o z q
  rw[zi (λe=>hf o z (by rw[<-e];exact q))];exact this
 ·obtain⟨m,e⟩:=I.base.tbls b ps q
  exact⟨m,by rw[zi (ntbl b _ e)];exact e⟩
 ·rw[zi (nn _ I.free)];exact I.free
 ·have:=I.freeC x c e
  rw[zi (nn _ this)];exact this
 ·obtain⟨h1,h2,h3⟩:=I.pin p hp
  exact⟨h1,by rw[zi (nn _ h2)];exact h2,h3⟩
 ·by_cases hb:b=a
  ·subst hb
   rw[zh] at q;cases q;exact ho
  ·rw[zi hb] at q
   exact(I.hok b v q).stay (λ_ _ _ r=>r) (λc r=>by rw[zi (nown c b r)];exact r) λc xs r=>by rw[zi (ntup c xs r)];exact r
def zgP(t:TS):TS:=λD σ H=>∃a u0 kvs,H a=aa u0/\(u0=.dT kvs\/∃o,u0=.frz o (.dT kvs))/\∀o,t
 ⟨λσ' H'=>H' a=aa (.frz o (.dT kvs))/\D.nx σ' (upd H' a u0),λv H'=>H' a=aa (.frz o (.dT kvs))/\D.rt v (upd H' a u0),λσ' H'=>H' a=aa (.frz o (.dT kvs))/\D.bk σ' (upd H' a u0),λσ' H'=>H' a=aa (.frz o (.dT kvs))/\D.ct σ' (upd H' a u0)⟩ σ (upd H a (.frz o (.dT kvs)))
theorem ObjOk.upd_dT{H:Hp}(ha:H a=aa u)(hp:zdQ u)(x:ObjOk P w H h a (.dT kvs)):ObjOk P w (upd H a u') h a (.dT kvs):=by
 refine x.stay (λ_ _ _ r=>r) (λc r=>?_) λc xs r=>?_
 ·rw[zi λz=>by subst z;rw[ha] at r;cases r;exact hp];exact r
 ·rw[zi λz=>by subst z;rw[ha] at r;cases r;exact hp];exact r
theorem zgQ{st:ax}{t:TS}(hst:PS X st t):PS X st (zgP t):=by
 rintro pins s σ H D I ⟨a,u0,kvs,ha,hu,h⟩
 have pl:zdQ u0:=by rcases hu with rfl|⟨o,rfl⟩ <;> trivial
 -- the object as it stands
 have ob:∃o,s.heap.get? a=aa o/\(u0=.dT kvs\/u0=.frz o (.dT kvs)):=by
  rcases hu with rfl|⟨o,rfl⟩
  ·obtain⟨hz,lo,xs,rel,o,es,ep,ho,_⟩:=(show ObjOk X.prog X.w H s.heap a (.dT kvs) from I.hok a _ ha)
   exact⟨o,ho,.inl rfl⟩
  ·exact⟨o,(show ObjOk X.prog X.w H s.heap a (.frz o (.dT kvs)) from I.hok a _ ha).1,.inr rfl⟩
 obtain⟨o,ho,hu⟩:=ob
 have I1:Inv X pins σ (upd H a (.frz o (.dT kvs))) s:=by
  rcases hu with rfl|rfl
  ·refine I.relab ha trivial (λo' z q=>?_) ⟨ho,ObjOk.upd_dT ha trivial (I.hok a _ ha)⟩
   have:=I.base.frzs a o' z q
   rw[ha] at this;cases this
  ·have e:upd H a (.frz o (.dT kvs))=H:=by
    funext b;unfold upd;split
    ·next z=>rw[z];exact ha.symm
    ·rfl
   rw[e];exact I
 have back:∀ {σ':St} {H':Hp} {s':ah},Inv X pins σ' H' s'->H' a=aa (.frz o (.dT kvs))->Inv X pins σ' (upd H' a u0) s':=λ{σ' H' s'} I' ha'=>by
  rcases hu with rfl|rfl
  ·refine I'.relab ha' trivial (λo' z q=>?_) (ObjOk.upd_dT ha' trivial (show ObjOk X.prog X.w H' s'.heap a (.frz o (.dT kvs)) from I'.hok a _ ha').2)
   have:=I.base.frzs a o' z q
   rw[ha] at this;cases this
  ·have e:upd H' a (.frz o (.dT kvs))=H':=by
    funext b;unfold upd;split
    ·next z=>rw[z];exact ha'.symm
    ·rfl
   rw[e];exact I'
 refine thn (hst pins s σ _ _ I1 (h o)) λf s' q=>?_
 cases f with
 |next=>obtain⟨σ',H',I',ha',q⟩:=q;exact⟨σ',_,back I' ha',q⟩
 |brk=>obtain⟨σ',H',I',ha',q⟩:=q;exact⟨σ',_,back I' ha',q⟩
 |cont=>obtain⟨σ',H',I',ha',q⟩:=q;exact⟨σ',_,back I' ha',q⟩
 |ret v=>obtain⟨x,σ',H',I',r,ha',q⟩:=q;exact⟨x,σ',_,back I' ha',r,q⟩
end
section
variable {σ:St}{H:Hp}{nx:St->Hp->Prop}{B:V->St->Hp->(St->Hp->Prop)->Prop}
theorem za4(Pv:Nat->St->Hp->Prop)(h0:Pv 0 σ H)(hl:∀i σ H,Pv i σ H->H a=aa (.frz o (.dT kvs)))
  (hs:∀i k v p σ H,kvs[i]?=aa (k,v)->H p=aa (.tup (k.map kV))->Pv i σ H->B (.ref p) σ H (Pv (i+1))) (hd:∀σ H,Pv kvs.length σ H->nx σ H) :
  ∃W:Nat->Nat->St->Hp->Prop,(∃m,W 0 m σ H)/\∀i m σ H,W i m σ H->((Itd a o kvs).stop i H/\nx σ H)\/((Itd a o kvs).go i H/\∃N:St->Hp->Prop,(∀σ' H',N σ' H'->∃m',m'<m/\W (i+1) m' σ' H')/\∀x H',(Itd a o kvs).yld i H x H'->B x σ H' N):=by
 refine⟨λi m σ H=>m=kvs.length-i/\i<=kvs.length/\Pv i σ H,⟨kvs.length,by simp,bP _,h0⟩,?_⟩
 rintro i m σ H ⟨rfl,hi,pv⟩
 by_cases hlt:i<kvs.length
 ·refine .inr ⟨⟨hl i σ H pv,hlt⟩,Pv (i+1),λσ' H' p'=>⟨kvs.length-(i+1),by lia,rfl,hlt,p'⟩,?_⟩
  rintro x H' ⟨rfl,k,v,p,hk,rfl,hp⟩
  exact hs i k v p σ _ hk hp pv
 ·obtain rfl:i=kvs.length:=by lia
  exact .inl ⟨⟨hl _ σ H pv,bi _⟩,hd σ H pv⟩
end
mutual
inductive Dat (K:bt) (H:Hp):V->PyData->Prop
 |non:Dat K H .non .none
 |bl (b:Bool):Dat K H (.bl b) (.bool b)
 |int (i:Int):Dat K H (.int i) (.int i)
 |str (x:Str):Dat K H (.str x) (.str x)
 |lst {a:ac} {xs:List V} {ds:List PyData}:SqL K H a xs->Xv K H xs ds->Dat K H (.ref a) (.list ds)
 |tup {a:ac} {xs:List V} {ds:List PyData}:SqT K H a xs->Xv K H xs ds->Dat K H (.ref a) (.tuple ds)
inductive Xv (K:bt) (H:Hp):List V->List PyData->Prop
 |nil:Xv K H [] []
 |cons {x:V} {d:PyData} {xs:List V} {ds:List PyData}:Dat K H x d->Xv K H xs ds->Xv K H (x::xs) (d::ds)
end
section
variable {K:bt}{H H':Hp}
theorem SqL.mono(k:Same H H')(h:SqL K H a xs):SqL K H' a xs:=by
 rcases h with (h|⟨o,h⟩)|h
 ·exact .inl (.inl (k _ _ h))
 ·exact .inl (.inr ⟨o,k _ _ h⟩)
 ·exact .inr h
end
mutual
def za5:PyData->Bool
 |.none=>af
 |.int _=>af
 |.str x=>cM x
 |.list xs=>ZA xs
 |.tuple xs=>ZA xs
 |.bool _=>ak
 |.dict _=>ak
def ZA:List PyData->Bool
 |[]=>af
 |x::xs=>za5 x&&ZA xs
end
abbrev Kl(neg:Bool):R2:=λx y H Q=>∃a o,y=.ref a/\DGet H a x o/\Q (.bl (if neg then !o.isSome else o.isSome)) H
section
variable {X:Cx}
theorem WB(hu:X.A.units+1<cLine):OpR X (Bi .In) (Kl ak):=by
 intro pins s σ H x y v u Q I rx ry h
 obtain⟨a,o,rfl,g,q⟩:=h
 cases ry
 exact zhR hu I g rx λs' I'=>⟨.bl _,H,I',rfl,q⟩
theorem W2(hu:X.A.units+1<cLine):OpR X (Bi .NotIn) (Kl af):=by
 intro pins s σ H x y v u Q I rx ry h
 obtain⟨a,o,rfl,g,q⟩:=h
 cases ry
 exact zff hu I g rx λs' I'=>⟨.bl _,H,I',rfl,q⟩
end
end L2
namespace L2
open PySem
abbrev Pl:=Str×Int
abbrev Row:=Pl×Int
def zI:List Row->Pl->Option Int
 |[],_=>ai
 |r::t,p=>(zI t p).or (if r.1=p then aa r.2 else ai)
def YL(kvs:List (List Key×V))(q:Row):List (List Key×V):=yA kvs (zC q.1) (.int q.2)
def dOf(rows:List Row):List (List Key×V):=rows.foldl YL []
theorem yV{p q:Pl}(h:zC p=zC q):p=q:=by
 unfold zC at h
 simp only[bT,Sum.inr.injEq,Sum.inl.injEq,and_true] at h
 exact pJ h.1 h.2
theorem QK:∀(rows:List Row) (kvs:List (List Key×V)) (p:Pl),z4 (rows.foldl YL kvs) (zC p)=((zI rows p).map V.int).or (z4 kvs (zC p))
 |[],_,_=>rfl
 |r::t,kvs,p=>by
  rw[eO,QK t,zI]
  show _=_
  rw[YL,WO]
  cases zI t p with
  |some w=>rfl
  |none =>
   by_cases e:r.1=p
   ·subst e;simp
   ·rw[aj (λz=>e (yV z).symm)];simp[e]
theorem xY(rows:List Row)(p:Pl):z4 (dOf rows) (zC p)=(zI rows p).map V.int:=by
 unfold dOf
 rw[QK,Qm]
 cases zI rows p <;> rfl
theorem qM(rows:List Row)(q:Row):dOf (rows++[q])=yA (dOf rows) (zC q.1) (.int q.2):=by
 unfold dOf
 rw[List.foldl_append];rfl
def OkKv(kvs:List (List Key×V)):Prop:=(kvs.map (·.1)).Nodup/\∀kv∈kvs,∃(p:Pl) (w:Int),kv=(zC p,.int w)
theorem OkKv.put(h:OkKv kvs)(p:Pl)(w:Int):OkKv (yA kvs (zC p) (.int w)):=by
 cases e:z4 kvs (zC p) with
 |none =>
  refine⟨zfh _ h.1 e,λkv hk=>?_⟩
  rw[vQ _ e] at hk
  rcases bx.mp hk with hk|hk
  ·exact h.2 kv hk
  ·exact⟨p,w,br.mp hk⟩
 |some v =>
  have q:(kvs.any λkv=>decide (kv.1=zC p))=af:=by rw[wU,e];rfl
  unfold yA
  rw[am q]
  constructor
  ·rw[df]
   have:((λx:List Key×V=>x.1) ∘ λkv:List Key×V=>if kv.1=zC p then (kv.1,V.int w) else kv)=λx=>x.1:=by
    funext kv
    show (if kv.1=zC p then (kv.1,V.int w) else kv).1=kv.1
    split <;> rfl
   rw[this];exact h.1
  ·intro kv hk
   obtain⟨z,hz,rfl⟩:=bE.mp hk
   by_cases e:z.1=zC p
   ·exact⟨p,w,by rw[am e,e]⟩
   ·rw[aj e];exact h.2 z hz
theorem Jt:∀(rows:List Row) (kvs:List (List Key×V)),OkKv kvs->OkKv (rows.foldl YL kvs)
 |[],_,h=>h
 |r::t,kvs,h=>Jt t _ (h.put r.1 r.2)
theorem kg(rows:List Row):OkKv (dOf rows):=Jt rows [] ⟨cU,λ_ h=>nomatch h⟩
theorem zfw(kvs:List (List Key×V))(k:List Key)(v:V):(yA kvs k v).length<=kvs.length+1:=by
 unfold yA
 split
 ·rw[bd];lia
 ·rw[bw];simp
theorem QL:∀(rows:List Row) (kvs:List (List Key×V)),(rows.foldl YL kvs).length<=kvs.length+rows.length
 |[],_=>by simp
 |r::t,kvs=>by
  have:=QL t (YL kvs r)
  have:=zfw kvs (zC r.1) (.int r.2)
  rw[eO,bR]
  unfold YL at *
  lia
theorem jm(rows:List Row):(dOf rows).length<=rows.length:=by have:=QL rows [];simpa[dOf] using this
theorem Km{kvs:List (List Key×V)}:(kvs.map (·.1)).Nodup->∀kv∈kvs,z4 kvs kv.1=aa kv.2:=by
 induction kvs with
 |nil=>exact λ_ kv h=>nomatch h
 |cons a r ih =>
  intro hn kv hk
  rw[bo,bZ] at hn
  rcases bD.mp hk with rfl|hk
  ·exact yG rfl
  ·rw[yH λz=>hn.1 (by rw[z];exact bu hk)]
   exact ih hn.2 kv hk
theorem mem_dOf :kv∈dOf rows↔∃p w,kv=(zC p,.int w)/\zI rows p=aa w:=by
 constructor
 ·intro h
  obtain⟨p,w,rfl⟩:=(kg rows).2 kv h
  have:=Km (kg rows).1 _ h
  rw[xY] at this
  obtain⟨w',e1,e2⟩:=b6.mp this
  cases e2
  exact⟨p,w,rfl,e1⟩
 ·rintro⟨p,w,rfl,h⟩
  have e:z4 (dOf rows) (zC p)=aa (.int w):=by rw[xY,h];rfl
  obtain⟨kv,hk,e1⟩:=bE.mp (zbE e)
  have:=Km (kg rows).1 _ hk
  rw[e1,e] at this
  have e2:kv=(zC p,V.int w):=pJ e1 (bQ this).symm
  rw[<-e2];exact hk
theorem QN(a:Pl):yv a a=ak:=by
 unfold yv
 rw[am rfl]
 exact Bk (by lia)
def Rising(l:List Row):Prop:=l.Pairwise λa b=>yv a.1 b.1=af
def zgh(rows out:List Row):Prop:=Rising out/\∀p w,(p,w)∈out↔zI rows p=aa w/\w≠0
theorem Rising.nd(h:Rising l):(l.map (·.1)).Nodup:=by
 unfold gc
 rw[gb]
 exact lU (λ{a b} h z=>by rw[z,QN] at h;cases h) h
theorem Ju{p:Pl}:∀ {l:List Row},(∀r∈l,r.1≠p)->zI l p=ai
 |[],_=>rfl
 |r::t,h=>by
  rw[zI,Ju λr hr=>h r (bn _ hr),aj (h r bq)];rfl
theorem WC{p:Pl}{w:Int}:∀ {l:List Row},(l.map (·.1)).Nodup->(zI l p=aa w↔(p,w)∈l)
 |[],_=>by simp[zI]
 |r::t,hn=>by
  rw[bo,bZ] at hn
  have ih:=WC (p:=p) (w:=w) hn.2
  by_cases e:r.1=p
  ·have z:zI t p=ai:=Ju λq hq zz=>hn.1 (by rw[e,<-zz];exact bu hq)
   rw[zI,z,am e]
   constructor
   ·intro h
    have:r.2=w:=by simpa using h
    rw[<-e,<-this];exact bq
   ·intro h
    rcases bD.mp h with h|h
    ·rw[<-h];rfl
    ·exact absurd (bu (f:=(·.1)) h) (by rw[<-e];exact hn.1)
  ·rw[zI,aj e,Option.or_none,ih,bD]
   constructor
   ·exact .inr
   ·rintro(h|h)
    ·exact absurd (by rw[<-h]) e
    ·exact h
theorem wG{α:Type} [DecidableEq α]:∀ {a b:List α},a.Nodup->(∀x∈a,x∈b)->a.length<=b.length
 |[],_,_,_=>bP _
 |x::a,b,hn,h=>by
  rw[bZ] at hn
  have hx:=h x bq
  have:=wG (a:=a) (b:=b.erase x) hn.2 λy hy=>(nH λz=>hn.1 (by rw[<-z];exact hy)).mpr (h y (bn _ hy))
  rw[List.length_erase_of_mem hx] at this
  have:0<b.length:=List.length_pos_of_mem hx
  rw[bR];lia
end L2
namespace L2
open PySem PySem.Spec PyProof.Rows
theorem ZB:plainId "dict.update.loop"=af:=by lia
theorem Jv:entryFor table "dict.update.loop"=aa Builtin.«dict.update.loop»:=entryFor_of_fast (by kernel_rfl)
section
variable {X:Cx}{A:aw}{R:aA->ah->Prop}
def PrAt(H:Hp)(v:V)(q:Row):Prop:=∃r p,v=.ref r/\H r=aa (.tup [.ref p,.int q.2])/\H p=aa (.tup [.str q.1.1,.int q.1.2])
theorem zcE{σ:St}{H:Hp}{s:ah}{d b:ac}{kvs:List (List Key×V)}{k:List Key}{v:V}{u:ae}{E:ae->ah->Prop}{Q:Unit->ah->Prop}(hu:A.units+1<cLine)(I:Inv X pins σ H s)(e:H d=aa (.dT kvs))(eb:H b=aa (.tup (k.map kV)))(l:kvs.length<Bb)(rv:RelV v u)
  (h:∀h' tk,Inv X pins σ (upd H d (.dT (yA kvs k v))) { s with heap:=h',toks:=tk }->cV d s.heap h'->Q () { s with heap:=h',toks:=tk }):Bf (Bg X.prog X.w) A.in1 (dictSet d (.ref b) u) Q E s:=by
 obtain⟨z,hd,xs,rel,dd⟩:=Qp I.hok e
 have hz:xs.length<=Bb:=by rw[<-bL rel];exact z
 have hl:(yA kvs k v).length<=Bb:=by have:=xS kvs k v;lia
 refine wpAny_dictSet_heap (hsz:=hz) (dL hu) (kJ I.hok eb) dd λh' dd' hs=>h _ _ ?_ hs
 obtain⟨q,es,ep,hq,h2,h3,h4,_,h5⟩:=dd'
 refine Zy I (by rw[e];exact eu) hs ⟨q,hq⟩ ⟨hl,hd,_,(rel.put k eb rv).keeps λc ys ec=>?_,q,es,ep,hq,h2,h3,h4,h5⟩
 rw[zi (zG ec e (by lia))]
 exact ec
theorem zdR{σ:St}{H:Hp}{d it l:ac}{xs:List V}{rows:List Row}{res:ae}(hu:A.units+1<cLine)(hh:A.handled=ai)(hd:H d=ai)(hl:H l=aa (.lst xs))(hr:Paired (PrAt H) xs rows)(h63:rows.length<=1000)(dit:it≠d)(lit:l≠it) :
  ∀(k i:Nat) (s:ah),rows.length-i=k->i<=rows.length->Inv X pins σ (upd H d (.dT (dOf (rows.take i)))) s->s.heap.IsListIter it l i->(∀u,Z4 X pins (upd H d u) it) ->
  (∀s',Inv X pins σ (upd H d (.dT (dOf rows))) s'->R (.ok (.ret res)) s') ->
  codeAny (Bg X.prog X.w) A (.builtin "dict.update.loop" ⟨[.ref d,.ref it,rawInt i,res],[]⟩) R s:=by
 have lx:xs.length=rows.length:=bL hr
 have S:∀u:HO,Same H (upd H d u):=λu=>isV (o:=u) d hd
 intro k
 induction k with
 |zero =>
  intro i s hk hi I st hf fin
  have e:i=rows.length:=by lia
  subst e
  refine eP Jv ?_
  rw[dq ZB _]
  show Bf _ A.in1 (pyNext (.ref it) >>= _) _ _ s
  obtain⟨its,rv,p,hz⟩:=I.list (SqL.of (S _ _ _ hl))
  obtain⟨f0,f1,f2,f3,f4,f5⟩:=hf (.dT (dOf (rows.take rows.length)))
  have hl2:=rv.length
  refine ba (mU hh st p.isList (by simp;lia) λh' eb=>?_)
  have I1:=I.turned (t':=s.toks) (λb o hb e=>eb b o hb e) f0 f1 f3 f4 f5
  rw[eR] at I1
  show Bf _ A.in1 (Builtin.Dict.addKeywords d [] >>= _) _ _ _
  exact ba (bh (bh (fin _ I1)))
 |succ k ih =>
  intro i s hk hi I st hf fin
  have hlt:i<rows.length:=by lia
  refine eP Jv ?_
  rw[dq ZB _]
  show Bf _ A.in1 (pyNext (.ref it) >>= _) _ _ s
  obtain⟨its,rv,p,hz⟩:=I.list (SqL.of (S _ _ _ hl))
  obtain⟨f0,f1,f2,f3,f4,f5⟩:=hf (.dT (dOf (rows.take i)))
  have hx:xs[i]?=aa xs[i]:=bb (by lia)
  have hq:rows[i]?=aa rows[i]:=bb hlt
  obtain⟨r,pl,e1,t1,u1⟩:=yn hr hx hq
  obtain⟨u,hu',ru⟩:=rv.get hx
  rw[e1] at ru
  cases ru
  refine ba (mI st p.isList (x:=.ref r) (by simpa using hu') λh' st' sb=>?_)
  have I1:=I.turned (t':=s.toks) (λb o hb e=>(sb.2 b hb).trans e) f0 f1 f3 f4 f5
  obtain⟨tis,tv,⟨o,ho,hc,n,hdt⟩,_⟩:=I1.tuple (SqT.of (S _ _ _ t1))
  cases tv with
  |cons r1 rr =>
   cases rr with
   |cons r2 rn =>
    cases rn
    cases r1
    obtain⟨tk,rfl⟩:=r2
    refine ba (dY ?_)
    have T:({ s with heap:=h' }:ah).TypeIs (.ref r) "tuple":=⟨o,ho,hc⟩
    refine ba (wpAny_tryCatch ?_)
    unfold Builtin.Dict.pairItems
    refine ba (oR T ?_)
    rw[am (by lia)]
    refine ba ?_
    unfold seqItems?
    refine ba (nA ho ?_)
    rw[hdt]
    refine bh (bh ?_)
    show Bf _ _ (holding [.ref pl,.int rows[i].2 tk] (dictSet d (.ref pl) (.int rows[i].2 tk))) _ _ _
    refine dY ?_
    have tk2:dOf (rows.take (i+1))=yA (dOf (rows.take i)) (zC rows[i].1) (.int rows[i].2):=by rw[dU,hq,<-qM];rfl
    have l2:(dOf (rows.take i)).length<Bb:=by
     have h1:=jm (rows.take i)
     have h2:=List.length_take_le' i rows
     exact bU (by lia:_<=1000) (by lia)
    refine zcE (k:=zC rows[i].1) (v:=.int rows[i].2) hu I1 zh (S _ _ _ u1) l2 ⟨tk,rfl⟩ λh2 tk3 I2 sb2=>?_
    rw[Yz,<-tk2] at I2
    refine bh ⟨fZ ZB _,ih (i+1) _ (by lia) hlt I2 (st'.at λo e=>(sb2.2 it dit).trans e) hf fin⟩
end
theorem Kn:typeLookup (.type "list") "keys"=pure ai:=by rw[typeLookup_type,builtinLookup_eq_fast];kernel_rfl
section
variable {prog:aq}{w:au}{A:aw}{E:ae->ah->Prop}{s:ah}{a:ac}{o:Obj}{xs:Array ae}{k:Nat}
theorem W3{Q:Option ae->ah->Prop}(hx:s.heap.get? a=aa o)(hc:o.cls=.type "list")(hdat:o.data=.seq xs k)(hd:o.dict=ai)(hA:A.handled=ai)
  (h:∀h' tk,(∀b ob,s.heap.get? b=aa ob->h'.get? b=aa ob)->Q ai { s with heap:=h',toks:=tk }):Bf (Bg prog w) A (getAttr? (.ref a) "keys") Q E s:=by
 obtain⟨c,dct,dat,sl⟩:=o;simp only at hc hdat hd;subst hc hdat hd
 obtain⟨hp,g,d,tk,os⟩:=s;have hT:∀tk',(⟨hp,g,d,tk',os⟩:ah).TypeIs (.ref a) "list":=λ_=>⟨_,hx,rfl⟩
 have f1:=sub_AttributeError;have f3:=F.slot_list_getattribute.lookup;have f4:=F.slot_list_getattribute.bind (.ref a);have f5:=am_list_getattr_none
 unfold getAttr? getAttrBy? getAttrBy
 repeat (any_goals (first|assumption|exact hT _|((with_reducible show Bf _ _ (call (Value.builtin "list.__getattribute__") _ _) _ _ _);refine ic F.slot_list_getattribute (hT _) am_entry_list_getattribute (F.args_list_getattribute_2 _ _) (meets_getattribute_miss_list a xs k sl "keys" _ Kn (by lia) (by lia)) ⟨hx,hA,λh' tk' e hx'=>?_⟩)|wp_step))
 obtain⟨t',u',he⟩:=hx'.there;have kp:=hx'.keeps
 show Bf _ _ (getattributeRaised _ _ _ _ _ _ _) _ _ _;unfold getattributeRaised
 repeat (any_goals (first|assumption|wp_step))
 all_goals exact h _ _ λb ob e=>kp b ob e
end
theorem hu3(r:Room k A):A.units+3<cLine:=by have:=zdA r;lia
abbrev QO:RC:=λvs H Q=>∃(a:ac) (xs:List V) (rows:List Row),vs=[.ref a]/\H a=aa (.lst xs)/\Paired (PrAt H) xs rows/\rows.length<=1000/\∀p,H p=ai->Q (.ref p) (upd H p (.dT (dOf rows)))
section
variable {X:Cx}
theorem qu(hc:X.calm=af)(hu:X.A.units+3<cLine):jW X (.type "dict") QO:=by
 intro pins s σ H vs us Q I r h
 obtain⟨a,xs,rows,rfl,ha,hr,hl,q⟩:=h
 obtain⟨u,rfl,ru⟩:=qt r
 cases ru
 have hh:X.A.handled=ai:=I.ok.hd hc
 refine callType_codes (Q₁:=λobj s₁=>obj=.ref s.heap.objs.size/\s₁={ s with heap:=s.heap.push { cls:=.type "dict",data:=.dict #[] } }) F.kt_called_dict (F.kt_typeCall_dict_1 _) F.entry_dict_init (kt_code_dict_new _ ⟨rfl,rfl⟩) ?_;rintro obj s₁ ⟨rfl,rfl⟩
 have T0:({ s with heap:=s.heap.push { cls:=.type "dict",data:=.dict #[] } }:ah).TypeIs (.ref s.heap.objs.size) "dict":=⟨_,bH _ rfl,rfl⟩
 refine⟨T0,F.args_dict_init_2 _ _,?_⟩;unfold Builtin.«dict.__init__»;refine ba ?_;unfold Builtin.Dict.selfAndRest
 refine ba (eX T0 ?_);show Bf _ _ (pure (s.heap.objs.size,[bG a])) _ _ _;refine bh ?_
 show Bf _ _ (mC "dict.__init__" s.heap.objs.size (.ref a) [] .none) _ _ _;unfold mC
 have hn:H s.heap.objs.size=ai:=I.hok.fresh (bi _)
 have S:∀u:HO,Same H (upd H s.heap.objs.size u):=λu=>isV (o:=u) _ hn
 have I1:Inv X pins σ (upd H s.heap.objs.size (.dT [])) { s with heap:=s.heap.push { cls:=.type "dict",data:=.dict #[] } } :=
  I.laid (a:=s.heap.objs.size) (o:=.dT []) (t':=s.toks) (λb o z=>bg _ z) (bi _) (Qr s.heap I.big)
 obtain⟨its,rv,pl,_⟩:=I1.list (SqL.of (S _ _ _ ha))
 obtain⟨o,n,ho,oc,od,odat⟩:=id pl
 have T1:({ s with heap:=s.heap.push { cls:=.type "dict",data:=.dict #[] } }:ah).TypeIs (.ref a) "list":=⟨o,ho,oc⟩
 refine ba (oR T1 ?_);rw[am (by lia)]
 refine ba (W3 ho oc odat od (by exact hh) λh2 tk2 k2=>?_);rw[am (show (ai:Option ae).isNone=af from rfl)]
 refine ba (oG ?_)
 have I2:Inv X pins σ (upd H s.heap.objs.size (.dT [])) { s with heap:=h2,toks:=tk2 }:=I1.kept k2
 obtain⟨its2,rv2,pl2,_⟩:=I2.list (SqL.of (S _ _ _ ha))
 refine ba (wpAny_pyIter_list pl2.isList ?_)
 have I3:Inv X pins σ (upd H s.heap.objs.size (.dT (dOf (rows.take 0)))) { s with heap:=h2.push { cls:=.type "list_iterator",data:=.fields #[.ref a,.int 0 0] },toks:=tk2 }:=I2.kept (t':=tk2) λb o e=>bg _ e
 refine bh ⟨fZ ZB _,?_⟩
 have lt:s.heap.objs.size<h2.objs.size:=bO (k2 s.heap.objs.size _ (bH _ rfl))
 have la:a<h2.objs.size:=by obtain⟨_,_,z,_⟩:=pl2;exact bO z
 refine zdR (A:=X.A.in1) (H:=H) (d:=s.heap.objs.size) (it:=h2.objs.size) (l:=a) (xs:=xs) (rows:=rows) (res:=.none) ?_ hh hn ha hr hl (eT lt) (cq la) rows.length 0 _ (by lia) (bP _) I3 ⟨_,bH _ rfl,rfl,rfl⟩ (λu=>?_) λs' I'=>⟨rfl,.ref s.heap.objs.size,_,I',rfl,q _ hn⟩
 ·have e:X.A.in1.units=X.A.units+1:=rfl
  lia
 ·refine I2.fpOk (bi _) ?_
  rw[zi (eT lt)]
  have:=I2.hok.fresh (bi h2.objs.size)
  rw[zi (eT lt)] at this
  exact this
end
section
variable {X:Cx}{k:Nat}{f C:ac}{fd:Bc}{ps:List Str}{sp:Sp}{m:Str}{pos apos:Pos}{e o:ay}{es:List ay}{ta:TE}{t:TA}
def za6(C:ac)(m:Str)(sp:Sp)(ta:TE)(t:TA)(EX:EXK):TE:=λσ H Q=>ta σ H λx H1=>∃a dx fs,x=.ref a/\H1 a=aa (.ins C dx fs)/\fs.lookup m=ai /\
 t σ H1 λvs H2=>sp (x::(vs++[])) H2 Q λcls _ H3=>EX cls σ H3
theorem QP{pl:Sem Bool}(he:PE X.nox o ta)(c:Cls X.K C)(hm:JZ X.K C m f)(F:FnOk X.prog X.w X.K X.mg X.base (CX1 X.prog X.w) k f fd ps sp)(hr:Room k X.A)(hb:Binds X.K fd ps [])(ha:PA X.nox (e::es) t)
  (hst:Be (e::es) X.env=(ak,eval e X.env)::Be es X.env:=by rfl) (hpl:(backTo pos (Be es X.env)).any (·.1)=ak:=by rfl)
  (ht:eval (.Call (.Attribute o m apos) (e::es) [] pos) X.env=(do
   let ov <-eval o X.env
   standAt apos.atName
   let (f,first) <-holding [ov] (getMethod ov m pl)
   callWith pos f first (backTo pos (Be (e::es) X.env)) (backToKw pos (keywordEach [] X.env))):=by rfl) :
  PEX X (.Call (.Attribute o m apos) (e::es) [] pos) (za6 C m sp ta t):=by
 intro pins s σ H Q EX I h
 refine iV (pl:=pl) (dE (he pins s σ H _ (I.wish _) h) (λu s1 ⟨x,H1,I1',rx,a,dx,fs,ex,ea,l,q⟩=>?_) λ_ _ z=>cY z) ht
 subst ex
 obtain rfl:u=bG a:=rx
 have I1:=I1'.unwish
 refine kG I1 ea c hm l ?_
 refine lA (first:=[.ref a]) (h₀:=X.base) I.ok.mod.kin hm.kp (dE (ha pos pins s1 σ H1 _ (I1.wish _) q) (λus s2 ⟨vs,H2,I2',r,q2⟩=>⟨I2'.kIn,?_⟩) λ_ _ z=>cY z) hst hpl
 have I2:=I2'.unwish
 have r2:Vals (V.ref a::(vs++[])) (bG a::(us++[])):=.cons rfl (r.append .nil)
 have hl:((bG a::us)++[]).length=ps.length:=by
  have e:=r2.length
  rw[F.len _ _ _ _ q2] at e
  exact e.symm
 refine oA (fQ (F.run X.A X.stack s2 H2 ⟨.ref a::us,[]⟩ ((.ref a::us)++[]) (.ref a::(vs++[])) _ _ hr I2.env0 (hb s2 (.ref a::us) I2.kIn hl) r2 q2) λr s' hq=>?_)
 cases r with
 |error ev =>
  obtain⟨e,cls,H',rfl,os,bare,un,hok,xf,hE⟩:=hq
  exact⟨e,cls,σ,s2,H2,H',rfl,I2,I2.call' (ch:=[]) os un hok bare (λb z=>nomatch z),xf,hE⟩
 |ok fl =>
  cases fl with
  |ret u=>exact I2.after hq
  |next=>exact cY hq
  |brk=>exact cY hq
  |cont=>exact cY hq
end
def zdS(K:bt)(tb:EXK->TS)(C1:ac)(th1:TS)(C2:ac)(th2:TS):TS:=λD σ H=>tb (λcls σ1 H1=>∃C,cls=.ref C /\
 ((iq K (.ref C) (.ref C1)=aa af/\th1 D σ1 H1)\/(iq K (.ref C) (.ref C1)=aa ak/\iq K (.ref C) (.ref C2)=aa af/\th2 D σ1 H1))) D σ H
section
variable {X:Cx}{st b₀ b₁:ax}{suite suite1:List ax}{tb:EXK->TS}{th1 th2:TS}{c1 c2:Str}{C1 C2:ac}{np hpos np2 hpos2 pos:Pos}
theorem zdT(hst:X.stack=X.env::X.outer/\X.env.frame=aa X.env.locals)(hex:X.ex=[])(hb:PSX X st tb)(hg1:Gl X c1)(hm1:X.mg c1=aa (.ref C1))(hg2:Gl X c2)(hm2:X.mg c2=aa (.ref C2))
  (hs1:∀e,PSs (X.sub e) (b₀::suite) th1) (hs2:∀e,PSs (X.sub e) (b₁::suite1) th2) (hdb1:(c1==("__debug__":Str))=ak:=by lia) (hdb2:(c2==("__debug__":Str))=ak:=by lia) :
  PS X (.Try [st] [.ExceptHandler (aa (.Name c1 np)) ai (b₀::suite) hpos,.ExceptHandler (aa (.Name c2 np2)) ai (b₁::suite1) hpos2] [] [] pos) (zdS X.K tb C1 th1 C2 th2):=by
 intro pins s σ H D I h
 refine wpAny_Try_except (iF (dE (hb pins s σ H D _ I h) (λf s1 q=>?_) λev s1 q=>?_))
 ·cases f with
  |next=>exact eM (eM q)
  |ret v=>exact q
  |brk=>exact q
  |cont=>exact q
 obtain⟨e,cls,σ1,s0,H0,H1,rfl,I0,I1,xf,C,rfl,hth⟩:=q
 obtain⟨oe,vs,a0,T,oT,ts,h1,h2,h3,h4,h5,h6,h7,h8,h9,h10,h11,h12⟩:=xf
 have fr:s1.heap.FunFrames (gu s1.heap (frs X.stack++[e,T])) (X.env::X.outer):=by
  have q:=iJ (as:=frs X.stack++[e,T]) I1.stack λenv he a ha=>cz _ (fN.mpr ⟨env,he,ha⟩)
  rw[hst.1] at q ⊢
  exact q
 have two:∀b∈[e,T],s0.heap.get? b=ai/\H1 b=ai:=λb z=>by
  have z':b=e\/b=T:=by simpa using z
  rcases z' with rfl|rfl
  ·exact⟨h9,h11⟩
  ·exact⟨h10,h12⟩
 have hcs:∀b∈[e,T],H1 b=ai/\X.s₀.heap.get? b=ai:=λb z=>⟨(two b z).2,j8 (I0.there0 hex) (two b z).1⟩
 have hcp:∀b∈[e,T],∀p∈X.pn++pins,p.1≠b:=λb z p hp q=>by
  have:=(I0.pin p hp).1
  rw[q,(two b z).1] at this;cases this
 refine wpAny_looks_onW (base:=gu s1.heap (frs X.stack++[e,T])) (a0:=a0) (cls:=.ref C) (by rw[I1.ok.frames,hst.1]) hst.2
  ⟨λb o q=>lq _ q,fK _ (bI _ (by simp)),fr,oe,vs,T,oT,ts,h1,h2,h3,h4,fK _ (bI _ (by simp)),h5,h6,h7,h8⟩ λg4 held4 sm4=>?_
 refine wpAny_landsW held4 λg5 fly5 sm5=>?_
 have hB:∀ {g:av},(gu s1.heap (frs X.stack++[e,T])).StaysIn g->∀b o,s1.heap.get? b=aa o->b ∉ frs X.stack->b ∉ [e,T]->g.get? b=aa o :=
  λ{g} k b o q n1 n2=>k b o (iO _ q λz=>(bx.mp z).elim n1 n2)
 have I5:Inv X pins σ1 H1 { s1 with heap:=g5 }:=I1.land hex hcs hcp (hB fly5.1) (sm4.trans sm5)
 have K5:=I5.kIn
 have ty5:pG (Bg X.prog X.w) g5 (typeOf (.ref e)) (.ref C):=by
  obtain⟨o,p1,p2⟩:=fly5.there
  exact p2 ▸ (oH p1).andThen .now
 have run:∀ {b₂:ax} {su:List ax} {th:TS} {hp:Pos} {R:aA->ah->Prop},(∀e,PSs (X.sub e) (b₂::su) th)->th D σ1 H1->(∀f s',SP X pins D f s'->R (.ok f) s') ->
   codeAny (Bg X.prog X.w) (X.A.mark (aa (.ref e))) (.handlers (.ref e) [.ExceptHandler ai ai (b₂::su) hp] X.env) R { s1 with heap:=g5 }:=λ{b₂ su th hp R} hs hth hR=>by
  refine mM (lands_againW fly5 λg6 fly6 sm6=>?_)
  have I6:Inv X pins σ1 H1 { s1 with heap:=g6 }:=I1.land hex hcs hcp (hB fly6.1) ((sm4.trans sm5).trans sm6)
  refine dE (hs e pins _ σ1 H1 D I6.toSub hth) (λf s9 q=>hR f s9 ?_) λ_ _ z=>cY z
  cases f with
  |next=>obtain⟨σ9,H9,J,z⟩:=q;exact⟨σ9,H9,Inv.ofSub (J:=I) J,z⟩
  |brk=>obtain⟨σ9,H9,J,z⟩:=q;exact⟨σ9,H9,Inv.ofSub (J:=I) J,z⟩
  |cont=>obtain⟨σ9,H9,J,z⟩:=q;exact⟨σ9,H9,Inv.ofSub (J:=I) J,z⟩
  |ret u=>obtain⟨v,σ9,H9,J,r,z⟩:=q;exact⟨v,σ9,H9,Inv.ofSub (J:=I) J,r,z⟩
 refine iZ (iB ?_) (by intro q;cases q)
 refine wQ (X:=X.sub e) (I5.toSub (e:=e)) hg1 hm1 ?_ hdb1
 rcases hth with ⟨hx,ht⟩|⟨hx,hx2,ht⟩
 ·refine(W.exm_one K5 ty5 hx).here ?_
  exact run hs1 ht λf s' q=>q
 ·refine(W.exm_one K5 ty5 hx).here ?_
  show Bf _ _ (handleBy (.ref e) X.env _) _ _ _
  refine iZ (iB ?_) (by intro q;cases q)
  refine wQ (X:=X.sub e) (I5.toSub (e:=e)) hg2 hm2 ?_ hdb2
  refine(W.exm_one K5 ty5 hx2).here ?_
  exact run hs2 ht λf s' q=>q
end
end L2
namespace L2
open PySem
def rk(kvs:List (Key×V))(ps:List V):Except Er Int:=match wW kvs ps [] with
 |.ok [i]=>.ok i
 |.ok _=>.error .stuck
 |.error e=>.error e
theorem Good.rk{r:Except Er Int}(h:Good kvs ps r):L2.rk kvs ps=r:=by
 unfold L2.rk
 rw[h.1 []]
 cases r <;> rfl
theorem zdU(hs:yS kvs)(hv:kO v){st st':List Int}(h:∀x∈st,inW x=af)(e:wB kvs st v=.ok st'):∀x∈st',inW x=af:=by
 unfold wB at e
 split at e
 ·split at e
  ·rename_i w b a r hr hj
   unfold vW at e
   by_cases c1:WX w/\b=0
   ·rw[am c1] at e;cases e
   ·rw[aj c1] at e
    by_cases c2:inW (jk w a b)=af
    ·rw[am c2] at e
     cases e
     intro x hx
     rcases bx.mp hx with hx|hx
     ·refine h x (oZ.mp ?_)
      rw[hr]
      exact bn _ (bn _ (oZ.mp hx))
     ·rw[br.mp hx];exact c2
    ·rw[aj c2] at e;cases e
  ·cases e
 ·cases e
  intro x hx
  rcases bx.mp hx with hx|hx
  ·exact h x hx
  ·rw[br.mp hx];exact QC hs hv
theorem zbQ{kvs:List (Key×V)}(hs:yS kvs):∀ {ps:List V} {st st':List Int},(∀v∈ps,kO v)->(∀x∈st,inW x=af)->wW kvs ps st=.ok st'->∀x∈st',inW x=af
 |[],st,st',_,h,e=>by cases e;exact h
 |v::r,st,st',hp,h,e=>by
  unfold wW at e
  split at e
  ·rename_i st1 e1
   exact zbQ hs (λv hv=>hp v (bn _ hv)) (zdU hs (hp v bq) h e1) e
  ·cases e
theorem zdV(hs:yS kvs)(hp:∀v∈ps,kO v){i:Int}(e:rk kvs ps=.ok i):inW i=af:=by
 unfold rk at e
 split at e
 ·rename_i j hj
  cases e
  exact zbQ hs hp (λ_ z=>absurd z pb) hj i bq
 ·cases e
 ·cases e
def TermOk(e:List V):Prop:=(∀kvs,∃r,Good kvs e r)/\(∀v∈e,kO v)/\e.length<=1000
theorem TermOk.good(h:TermOk e)(kvs:List (Key×V)):Good kvs e (rk kvs e):=by
 obtain⟨r,g⟩:=h.1 kvs
 rw[g.rk];exact g
mutual
inductive Rw where
 |take (sh:Str) (e:List V) (sl:Str)
 |give (sh:Str) (e f:List V)
 |lt (sl:Str) (e:List V)
 |say (e:List V)
 |off (e:List V)
 |iff (e:List V) (a b:Rws)
inductive Rws where
 |nil
 |cons (r:Rw) (rs:Rws)
end
set_option genSizeOf false in
set_option genInjectivity false in
structure Sta where
 sl:List (Key×V)
 wo:List Row
 sa:List Int
inductive Res where
 |go (s:Sta)
 |off
 |er (e:Er)
mutual
def goR:Rw->Sta->Res
 |.take sh e sl,s=>match rk s.sl e with
  |.ok n=>.go { s with sl:=yA s.sl (.inr sl) (.int ((zI s.wo (sh,n)).getD 0)) }
  |.error x=>.er x
 |.give sh e f,s=>match rk s.sl e with
  |.ok n=>(match rk s.sl f with
   |.ok w=>.go { s with wo:=s.wo++[((sh,n),w)] }
   |.error x=>.er x)
  |.error x=>.er x
 |.lt sl e,s=>match rk s.sl e with
  |.ok n=>.go { s with sl:=yA s.sl (.inr sl) (.int n) }
  |.error x=>.er x
 |.say e,s=>match rk s.sl e with
  |.ok n=>.go { s with sa:=s.sa++[n] }
  |.error x=>.er x
 |.off e,s=>match rk s.sl e with
  |.ok n=>if n=0 then .go s else .off
  |.error x=>.er x
 |.iff e a b,s=>match rk s.sl e with
  |.ok n=>if n=0 then zfx b s else zfx a s
  |.error x=>.er x
def zfx:Rws->Sta->Res
 |.nil,s=>.go s
 |.cons r rs,s=>match goR r s with
  |.go s'=>zfx rs s'
  |x=>x
end
mutual
def RwAt(F:ac->Prop)(H:Hp)(v:V):Rw->Prop
 |.take sh e sl=>∃r te,v=.ref r/\F r/\F te/\H r=aa (.tup [.str "take",.str sh,.ref te,.str sl])/\H te=aa (.tup e)
 |.give sh e f=>∃r te tf,v=.ref r/\F r/\F te/\F tf/\H r=aa (.tup [.str "give",.str sh,.ref te,.ref tf])/\H te=aa (.tup e)/\H tf=aa (.tup f)
 |.lt sl e=>∃r te,v=.ref r/\F r/\F te/\H r=aa (.tup [.str "let",.str sl,.ref te])/\H te=aa (.tup e)
 |.say e=>∃r te,v=.ref r/\F r/\F te/\H r=aa (.tup [.str "say",.ref te])/\H te=aa (.tup e)
 |.off e=>∃r te,v=.ref r/\F r/\F te/\H r=aa (.tup [.str "off",.ref te])/\H te=aa (.tup e)
 |.iff e a b=>∃r te la lb xs ys,v=.ref r/\F r/\F te/\F la/\F lb/\H r=aa (.tup [.str "if",.ref te,.ref la,.ref lb])/\H te=aa (.tup e)/\H la=aa (.lst xs)/\RwsAt F H xs a/\H lb=aa (.lst ys)/\RwsAt F H ys b
def RwsAt(F:ac->Prop)(H:Hp)(vs:List V):Rws->Prop
 |.nil=>vs=[]
 |.cons r rs=>∃v ws,vs=v::ws/\RwAt F H v r/\RwsAt F H ws rs
end
mutual
theorem RwAt.to_{F G:ac->Prop}{H H':Hp}(g:∀b o,F b->H b=aa o->G b)(s:∀b o,F b->H b=aa o->H' b=aa o):∀ {v:V} (r:Rw),RwAt F H v r->RwAt G H' v r
 |v,.take sh e sl,h=>by
  unfold RwAt at h ⊢
  obtain⟨r,te,e1,f1,f2,e2,e3⟩:=h
  exact⟨r,te,e1,g _ _ f1 e2,g _ _ f2 e3,s _ _ f1 e2,s _ _ f2 e3⟩
 |v,.give sh e f,h=>by
  unfold RwAt at h ⊢
  obtain⟨r,te,tf,e1,f1,f2,f3,e2,e3,e4⟩:=h
  exact⟨r,te,tf,e1,g _ _ f1 e2,g _ _ f2 e3,g _ _ f3 e4,s _ _ f1 e2,s _ _ f2 e3,s _ _ f3 e4⟩
 |v,.lt sl e,h=>by
  unfold RwAt at h ⊢
  obtain⟨r,te,e1,f1,f2,e2,e3⟩:=h
  exact⟨r,te,e1,g _ _ f1 e2,g _ _ f2 e3,s _ _ f1 e2,s _ _ f2 e3⟩
 |v,.say e,h=>by
  unfold RwAt at h ⊢
  obtain⟨r,te,e1,f1,f2,e2,e3⟩:=h
  exact⟨r,te,e1,g _ _ f1 e2,g _ _ f2 e3,s _ _ f1 e2,s _ _ f2 e3⟩
 |v,.off e,h=>by
  unfold RwAt at h ⊢
  obtain⟨r,te,e1,f1,f2,e2,e3⟩:=h
  exact⟨r,te,e1,g _ _ f1 e2,g _ _ f2 e3,s _ _ f1 e2,s _ _ f2 e3⟩
 |v,.iff e a b,h=>by
  unfold RwAt at h ⊢
  obtain⟨r,te,la,lb,xs,ys,e1,f1,f2,f3,f4,e2,e3,e4,e5,e6,e7⟩:=h
  exact⟨r,te,la,lb,xs,ys,e1,g _ _ f1 e2,g _ _ f2 e3,g _ _ f3 e4,g _ _ f4 e6,s _ _ f1 e2,s _ _ f2 e3,s _ _ f3 e4,RwsAt.to_ g s a e5,s _ _ f4 e6,RwsAt.to_ g s b e7⟩
theorem RwsAt.to_{F G:ac->Prop}{H H':Hp}(g:∀b o,F b->H b=aa o->G b)(s:∀b o,F b->H b=aa o->H' b=aa o):∀ {vs:List V} (r:Rws),RwsAt F H vs r->RwsAt G H' vs r
 |vs,.nil,h=>by
  unfold RwsAt at h ⊢
  exact h
 |vs,.cons r rs,h=>by
  unfold RwsAt at h ⊢
  obtain⟨v,ws,e1,e2,e3⟩:=h
  exact⟨v,ws,e1,RwAt.to_ g s r e2,RwsAt.to_ g s rs e3⟩
end
theorem RwAt.to{F G:ac->Prop}{H H':Hp}(r:Rw)(g:∀b o,F b->H b=aa o->G b)(s:∀b o,F b->H b=aa o->H' b=aa o)(h:RwAt F H v r):RwAt G H' v r:=RwAt.to_ g s r h
theorem RwsAt.to{F G:ac->Prop}{H H':Hp}(r:Rws)(g:∀b o,F b->H b=aa o->G b)(s:∀b o,F b->H b=aa o->H' b=aa o)(h:RwsAt F H vs r):RwsAt G H' vs r:=RwsAt.to_ g s r h
theorem RwAt.mono{F:ac->Prop}{H H':Hp}(s:Same H H')(h:RwAt F H v r):RwAt F H' v r:=h.to r (λ_ _ f _=>f) (λb o _ e=>s b o e)
theorem RwsAt.mono{F:ac->Prop}{H H':Hp}(s:Same H H')(h:RwsAt F H vs r):RwsAt F H' vs r:=h.to r (λ_ _ f _=>f) (λb o _ e=>s b o e)
def RlAt(F:ac->Prop)(H:Hp)(v:V)(r:Rws):Prop:=∃a xs,v=.ref a/\F a/\H a=aa (.lst xs)/\RwsAt F H xs r
theorem RlAt.to{F G:ac->Prop}{H H':Hp}(g:∀b o,F b->H b=aa o->G b)(s:∀b o,F b->H b=aa o->H' b=aa o)(h:RlAt F H v r):RlAt G H' v r:=by
 obtain⟨a,xs,e,f,e1,e2⟩:=h
 exact⟨a,xs,e,g _ _ f e1,s _ _ f e1,RwsAt.to r g s e2⟩
abbrev Ko:ac->Prop:=λ_=>True
theorem RlAt.any{F:ac->Prop}{H:Hp}(h:RlAt F H v r):RlAt Ko H v r:=h.to (λ_ _ _ _=>trivial) λb o _ e=>e
mutual
def qO:Rw->Prop
 |.take _ e _=>TermOk e
 |.give _ e f=>TermOk e/\TermOk f
 |.lt _ e=>TermOk e
 |.say e=>TermOk e
 |.off e=>TermOk e
 |.iff e a b=>TermOk e/\ZM a/\ZM b
def ZM:Rws->Prop
 |.nil=>True
 |.cons r rs=>qO r/\ZM rs
end
mutual
def Rw.deep:Rw->Nat
 |.iff _ a b=>max a.deep b.deep+1
 |_=>0
def Rws.deep:Rws->Nat
 |.nil=>0
 |.cons r rs=>max r.deep rs.deep
end
mutual
def Rw.cnt:Rw->Nat
 |.iff _ a b=>max a.cnt b.cnt+1
 |_=>1
def Rws.cnt:Rws->Nat
 |.nil=>0
 |.cons r rs=>r.cnt+rs.cnt
end
abbrev ItA(h:av)(it d:ac)(i n ep:Nat)(o0:ae)(f:Bool)(ok ov:ae):Prop :=
 h.get? it=aa { cls:=.type "dict_itemiterator",dict:=ai,data:=.fields #[o0,.bool f,.ref d,.int i 0,.int n 0,.int ep 0,ok,ov],slots:=#[] }
section
variable {P:aq}{w:au}{A:aw}{E:ae->ah->Prop}{s:ah}
theorem zdW{Q:ae->ah->Prop}(hv:s.heap.IsItemsView v d)(hm:RawD s.heap d es ep)
  (q:Q (.ref s.heap.objs.size) { s with heap:=s.heap.push { cls:=.type "dict_itemiterator",data:=.fields #[.none,.bool ak,.ref d,.int 0 0,.int es.size 0,.int ep 0,.none,.none] } }):Bf (Bg P w) A (pyIter (.ref v)) Q E s:=by
 obtain⟨ov,hov,hcv,hdv⟩:=id hv;obtain⟨o,ho,hc,hdat⟩:=id hm
 refine wpAny_pyIter_slot hv.typeIs mO (dy mO hv.typeIs F.entry_dict_items_iter ?_ (F.args_dict_items_iter_1 _));unfold Builtin.«dict_items.__iter__»
 refine ba (bh ?_);refine ba ?_;unfold Builtin.Dict_items.dictOf
 refine ba (i0 hov hdv (x:=.ref d) rfl (bh ?_));refine ba ?_;unfold Builtin.Dict_items.newIterator
 refine ba (dG ho hdat ?_);refine ba (fV ho hdat ?_)
 have own:dI "dict_itemiterator"=af:=by lia
 simp only[own,if_true];refine dn (bh ⟨_,rfl,"dict_itemiterator",_,⟨_,bH _ rfl,rfl⟩,F.slot_dict_itemiterator_next.lookup,?_⟩) (by simp only[sizeOk,gI,bF,bw,bR,mX,bS];lia)
 simpa[rawInt,gI] using q
theorem zdX{Q:Option ae->ah->Prop}(hit:ItA s.heap it d i es.size ep o0 f ok ov)(hm:RawD s.heap d es ep)(hx:es[i]?=aa e)
  (ho0:(o0=.none/\f=ak)\/∃(a:ac) (oa:Obj),o0=rawInt (a:Nat)/\s.heap.get? a=aa oa/\a≠it)
  (q:∀h' o1 f1 k1 v1,ItA h' it d (i+1) es.size ep o1 f1 k1 v1->((o1=.none/\f1=ak)\/∃(a:ac) (oa:Obj),o1=rawInt (a:Nat)/\h'.get? a=aa oa/\a≠it)->h'.get? s.heap.objs.size=aa { cls:=.type "tuple",data:=.seq #[e.key,e.val] }->h'.objs.size=s.heap.objs.size+1 ->
   (∀b o,b≠it->s.heap.get? b=aa o->h'.get? b=aa o)->(∀a:ac,o1=rawInt (a:Nat)->a=s.heap.objs.size\/o0=rawInt (a:Nat))->Q (aa (.ref s.heap.objs.size)) { s with heap:=h' }):Bf (Bg P w) A (pyNext (.ref it)) Q E s:=by
 obtain⟨hp,g,dr,tk,os⟩:=s;obtain⟨od,hod,hcd,hdd⟩:=id hm
 have T:pK ⟨hp,g,dr,tk,os⟩ (.ref it) "dict_itemiterator":=⟨_,hit,rfl⟩
 unfold pyNext;refine ba (mz (eE (name:=bc "__next__") T eC (dy eC T iC ?_ (ig _))))
 refine ba (bh ?_);refine ba ?_;refine ba ?_
 first|(refine ba (eo T (bh ?_)))|(refine ba (fc T (bh ?_)))
 refine ba (lJ hit rfl ?_);have own:dI "dict_itemiterator"=af:=by lia
 simp only[own,if_true];show Bf _ _ (if (bG d==cI)=af then _ else _) _ _ _
 rw[aj (show ¬ ((bG d==cI)=af) from bJ)];refine ba (bh ?_);refine ba (dG hod hdd ?_)
 rw[aj (by simp)];refine ba (bh ?_);refine ba (fV hod hdd ?_);rw[aj (by simp)];refine bh ?_
 simp only[show ¬ ((i:Int)<0) from by lia,if_false,eK,hx];refine ba ?_
 first|(refine ba (eo T (bh ?_)))|(refine ba (fc T (bh ?_)))
 refine ba (gY T ?_);show Bf _ _ (setField (.ref it) 3 (rawInt ((i:Int)+1)) >>= _) _ _ ⟨hp,g,dr,tk,os⟩
 refine ba (eZ hit (by simp) λh₁ e1 s1=>?_)
 replace s1:cV it hp h₁:=s1
 replace e1:ItA h₁ it d (i+1) es.size ep o0 f ok ov:=by
  have z:((i+1:Nat):Int)=(i:Int)+1:=by lia
  unfold ItA;rw[z];simpa[rawInt] using e1
 have T1:pK ⟨h₁,g,dr,tk,os⟩ (.ref it) "dict_itemiterator":=⟨_,e1,rfl⟩
 refine ba (dY ?_);refine ba (gY T1 ?_);refine ba (gY T1 ?_)
 show Bf _ _ (gR (.ref it) 6 e.key e.val) _ _ ⟨h₁,g,dr,tk,os⟩
 unfold gR;refine ba (wpAny_newTuple ?_)
 have e2:ItA (h₁.push { cls:=.type "tuple",data:=.seq #[e.key,e.val] }) it d (i+1) es.size ep o0 f ok ov:=bg _ e1
 generalize hg:h₁.push { cls:=.type "tuple",data:=.seq #[e.key,e.val] }=h₂ at e2
 have z1:h₁.objs.size=hp.objs.size:=s1.1;have il:it<hp.objs.size:=bO hit
 have t2:h₂.get? hp.objs.size=aa { cls:=.type "tuple",data:=.seq #[e.key,e.val] }:=by rw[<-hg,<-z1];exact bH _ rfl
 have z2:h₂.objs.size=hp.objs.size+1:=by rw[<-hg,ii,z1]
 have k2:∀b o,b≠it->hp.get? b=aa o->h₂.get? b=aa o:=λb o hb z=>by rw[<-hg];exact bg _ (s1.extBut b o hb z)
 show Bf _ _ (gJ (.ref it) >>= _) _ _ ⟨h₂,g,dr,tk,os⟩;rw[z1]
 clear hg e1 s1 T1 z1 h₁;refine ba ?_;unfold gJ
 rcases ho0 with ⟨rfl,rfl⟩|⟨a,oa,rfl,ha,hai⟩
 ·refine ba (i0 e2 rfl (x:=.none) rfl (bh ?_));simp only[if_true]
  refine ba (i0 e2 rfl (x:=ok) rfl ?_);refine ba (i0 e2 rfl (x:=ov) rfl ?_)
  refine ba (eZ e2 (by simp) λh₃ e3 s3=>?_);replace s3:cV it h₂ h₃:=s3;replace e3:ItA h₃ it d (i+1) es.size ep .none ak e.key ov:=e3
  refine ba (eZ e3 (by simp) λh₄ e4 s4=>?_);replace s4:cV it h₃ h₄:=s4;replace e4:ItA h₄ it d (i+1) es.size ep .none ak e.key e.val:=e4
  refine ba (eZ e4 (by simp) λh₅ e5 s5=>?_);replace s5:cV it h₄ h₅:=s5;replace e5:ItA h₅ it d (i+1) es.size ep (rawInt (hp.objs.size:Nat)) ak e.key e.val:=e5
  refine ba (eZ e5 (by simp) λh₆ e6 s6=>?_);replace s6:cV it h₅ h₆:=s6;replace e6:ItA h₆ it d (i+1) es.size ep (rawInt (hp.objs.size:Nat)) ak e.key e.val:=e6
  have k6:∀b o,b≠it->h₂.get? b=aa o->h₆.get? b=aa o:=λb o hb z=>s6.extBut b o hb (s5.extBut b o hb (s4.extBut b o hb (s3.extBut b o hb z)))
  have t6:=k6 _ _ (eT il) t2
  refine ba (wpAny_letGo (bh (bh ⟨_,rfl,bh (q h₆ _ _ _ _ e6 (.inr ⟨_,_,rfl,t6,eT il⟩) t6 ?_ (λb o hb z=>k6 b o hb (k2 b o hb z)) λa z=>?_)⟩)))
  ·show h₆.objs.size=hp.objs.size+1;rw[s6.1,s5.1,s4.1,s3.1,z2]
  ·refine .inl ?_
   have z':(fi (hp.objs.size:Nat) 0:ae)=fi (a:Nat) 0:=z
   have z'':((hp.objs.size:Nat):Int)=((a:Nat):Int):=by injection z'
   exact(pL z'').symm
 ·refine ba (i0 e2 rfl (x:=rawInt (a:Nat)) rfl ?_);show Bf _ _ (loadIfAlive (((a:Nat):Int).toNat) >>= _) _ _ _;rw[eK]
  have a2:h₂.get? a=aa oa:=k2 a oa hai ha
  refine ba (W.kdx_alive a2 ?_);simp only[oo,cx,if_false];refine ba (i0 e2 rfl (x:=.bool f) rfl ?_)
  cases f with
  |true =>
   rw[aj (show ¬ ((gZ af != gZ af)=af) from bJ)];refine bh ?_;simp only[cx,if_false]
   exact bh (bh ⟨_,rfl,bh (q h₂ _ _ _ _ e2 (.inr ⟨_,_,rfl,a2,hai⟩) t2 z2 k2 λa z=>.inr z)⟩)
  |false =>
   rw[am (show (gZ ak != gZ af)=af from rfl)];refine ba (eZ e2 (by simp) λh₃ e3 s3=>?_)
   replace s3:cV it h₂ h₃:=s3;replace e3:ItA h₃ it d (i+1) es.size ep (rawInt (a:Nat)) af ok ov:=e3
   refine bh ?_;simp only[cx,if_false]
   exact bh (bh ⟨_,rfl,bh (q h₃ _ _ _ _ e3 (.inr ⟨_,_,rfl,s3.extBut _ _ hai a2,hai⟩) (s3.extBut _ _ (eT il) t2) (by show h₃.objs.size=_;rw[s3.1,z2]) (λb o hb z=>s3.extBut b o hb (k2 b o hb z)) λa z=>.inr z)⟩)
theorem zfy{Q:Option ae->ah->Prop}(hh:A.handled=ai)(hit:ItA s.heap it d i es.size ep o0 f ok ov)(hm:RawD s.heap d es ep)(hx:es.size<=i)
  (q:∀h',Heap.ExtBut it s.heap h'->Q ai { s with heap:=h' }):Bf (Bg P w) A (pyNext (.ref it)) Q E s:=by
 obtain⟨od,hod,hcd,hdd⟩:=id hm;have T:s.TypeIs (.ref it) "dict_itemiterator":=⟨_,hit,rfl⟩
 unfold pyNext;refine ba (mz (eE (name:=bc "__next__") T eC (dy eC T iC ?_ (ig _))))
 refine ba (bh ?_);refine ba ?_;refine ba ?_
 first|(refine ba (eo T (bh ?_)))|(refine ba (fc T (bh ?_)))
 refine ba (lJ hit rfl ?_);have own:dI "dict_itemiterator"=af:=by lia
 simp only[own,if_true];show Bf _ _ (if (bG d==cI)=af then _ else _) _ _ s
 rw[aj (show ¬ ((bG d==cI)=af) from bJ)];refine ba (bh ?_);refine ba (dG hod hdd ?_)
 rw[aj (by simp)];refine ba (bh ?_);refine ba (fV hod hdd ?_);rw[aj (by simp)];refine bh ?_
 simp only[show ¬ ((i:Int)<0) from by lia,if_false,eK,gX hx];refine ba ?_
 first|(refine ba (eo T (bh ?_)))|(refine ba (fc T (bh ?_)))
 show Bf _ _ (setField (.ref it) 2 .none >>= _) _ _ s;refine ba (nM hit rfl (by simp) ?_)
 show Bf _ _ (newExc (.type "StopIteration") [] >>= _) _ _ _;refine ba ?_;simp only[newExc,newTuple];refine ba (dn ?_ (by size_fits))
 refine ba (m:=firstArgMember _ _) (wpAny_of_eq (a:=cI) (by first|rfl|(simp only[firstArgMember];rfl)) ?_);refine dn ?_ (by size_fits)
 simp only[raiseNew];refine ba (wpAny_handled ?_);rw[show A.in1.handled=ai from hh];refine ba (bh (wpAny_throw ?_))
 refine ba (wpAny_isInstance (T:="StopIteration") (b:=af) ⟨_,bH _ rfl,rfl⟩ isSubtype_stop ?_);exact bh (q _ (((dC ..).extBut.push _).push _))
end
end L2
namespace L2
open PySem PySem.Spec PyProof.Rows
def ZN(r d:ac):HO:=.ext λh=>h.IsItemsView r d
def Kq(td:TE):TE:=λσ H Q=>td σ H λx H1=>∃d kvs,x=.ref d/\H1 d=aa (.dT kvs)/\∀r,H1 r=ai->Q (.ref r) (upd H1 r (ZN r d))
section
variable {X:Cx}{o:ay}{apos cpos:Pos}{td:TE}
theorem QQ(ho:PE X o td)(hbase:attributeBase o "items" X.env (eval o X.env)=eval o X.env:=by rfl)(hline:(apos.endLine==cpos.line)=af:=by rfl):PE X (.Call (.Attribute o "items" apos) [] [] cpos) (Kq td):=by
 intro pins s σ H Q I h
 refine mf hbase hline (thn (ho pins s σ H _ I h) λv s1 ⟨x,H1,I1,r1,d,kvs,ex,hd,q1⟩=>?_)
 subst ex
 obtain rfl:v=bG d:=r1
 obtain⟨t1,t2,t3⟩:=Xm I1 (.inr ⟨kvs,.inl hd⟩)
 refine⟨"dict","dict.items",dM,mD,PySem.F.type_dict_items,t1,t2,c8 rfl (nO ?_)⟩
 refine dy mD t1 PySem.F.entry_dict_items ?_ (PySem.F.args_dict_items_1 _)
 unfold Builtin.«dict.items»;refine ba ?_;unfold Builtin.Dict.noArgs;refine ba (eX t1 ?_)
 show Bf _ _ (pure d) _ _ s1;refine bh ?_
 show Bf _ _ (fU d >>= _) _ _ s1;unfold fU
 rw[aj (by rw[t3];exact bJ)];refine ba (bh ?_)
 refine ba (dn (bh ⟨_,rfl,?_⟩))
 have hn:H1 s1.heap.objs.size=ai:=I1.hok.fresh (bi _)
 have at0:(s1.heap.push { cls:=.type "dict_items",data:=.fields #[.ref d] }).get? s1.heap.objs.size=aa { cls:=.type "dict_items",data:=.fields #[.ref d] }:=bH _ rfl
 refine⟨.ref s1.heap.objs.size,_,I1.laid (a:=s1.heap.objs.size) (o:=ZN s1.heap.objs.size d) (t':=s1.toks) (λb u e=>bg _ e) (bi _) ?_,rfl,q1 _ hn⟩
 exact⟨⟨_,at0,rfl,rfl⟩,⟨_,at0⟩,λh1 h2 ⟨o,e1,e2⟩ k=>⟨o,k o e1,e2⟩⟩
end
def YM(H:Hp)(v:V)(kv:List Key×V):Prop:=∃r p,v=.ref r/\H r=aa (.tup [.ref p,kv.2])/\H p=aa (.tup (kv.1.map kV))
theorem QR{H H':Hp}(s:∀b ys,H b=aa (.tup ys)->H' b=aa (.tup ys)):∀ {vs:List V} {kvs:List (List Key×V)},Paired (YM H) vs kvs->Paired (YM H') vs kvs
 |_,_,.nil=>.nil
 |_,_,.cons ⟨r,p,e,h1,h2⟩ t=>.cons ⟨r,p,e,s _ _ h1,s _ _ h2⟩ (QR s t)
theorem QS{H:Hp}{v:V}{q:List Key×V}:∀ {ys:List V} {kvs:List (List Key×V)},Paired (YM H) ys kvs->YM H v q->Paired (YM H) (ys++[v]) (kvs++[q])
 |_,_,.nil,h=>.cons h .nil
 |_,_,.cons a r,h=>.cons a (QS r h)
section
variable {X:Cx}{A:aw}{R:aA->ah->Prop}
theorem zdY{σ:St}{H:Hp}{S it d:ac}{kvs:List (List Key×V)}{es:Array DictEntry}{ep:Nat}{res:ae}(hh:A.handled=ai)(hS:H S=ai)(hd:H d=aa (.dT kvs))(Sit:S≠it)(dit:d≠it)(hz:kvs.length<=1000)
  (hes:es.size=kvs.length) (hen:∀(i:Nat) (e:DictEntry) (kv:List Key×V),es[i]?=aa e->kvs[i]?=aa kv->∃p,e.key=.ref p/\H p=aa (.tup (kv.1.map kV))/\RelV kv.2 e.val) (fin:∀s' H' ys,Inv X pins σ H' s'->Same H H'->H' S=aa (.lst ys)->Paired (YM H') ys kvs->R (.ok (.ret res)) s') :
  ∀(k i:Nat) (s:ah) (Hi:Hp) (ys:List V) (o0 ok ov:ae) (f:Bool),kvs.length-i=k->i<=kvs.length->Inv X pins σ Hi s->Same H Hi->Hi S=aa (.lst ys)->Paired (YM Hi) ys (kvs.take i)->RawD s.heap d es ep->ItA s.heap it d i es.size ep o0 f ok ov ->
  ((o0=.none/\f=ak)\/∃(a:ac) (oa:Obj),o0=rawInt (a:Nat)/\s.heap.get? a=aa oa/\a≠it/\a≠S)->Z4 X pins Hi it ->
  codeAny (Bg X.prog X.w) A (.builtin "list.extend.loop" ⟨[.ref S,.ref it,res],[]⟩) R s:=by
 intro k
 induction k with
 |zero =>
  intro i s Hi ys o0 ok ov f hk hi I sm hy pr rd hit ho0 hf
  have e:i=kvs.length:=by lia
  subst e
  refine eP lK ?_;rw[dq dZ _]
  show Bf _ A.in1 (pyNext (.ref it) >>= _) _ _ s
  obtain⟨f0,f1,f2,f3,f4,f5⟩:=hf
  refine ba (zfy (A:=A.in1) hh hit rd (by lia) λh' eb=>?_)
  have I1:=I.turned (t':=s.toks) (λb o hb e=>eb b o hb e) f0 f1 f3 f4 f5
  rw[eR] at pr
  exact bh (fin _ Hi ys I1 sm hy pr)
 |succ k ih =>
  intro i s Hi ys o0 ok ov f hk hi I sm hy pr rd hit ho0 hf
  have hlt:i<kvs.length:=by lia
  have hx:es[i]?=aa es[i]:=ck (by lia)
  have hkv:kvs[i]?=aa kvs[i]:=bb hlt
  obtain⟨p,ek,hp,rv⟩:=hen i _ _ hx hkv
  refine eP lK ?_;rw[dq dZ _]
  show Bf _ A.in1 (pyNext (.ref it) >>= _) _ _ s
  obtain⟨f0,f1,f2,f3,f4,f5⟩:=id hf
  have ho0':(o0=.none/\f=ak)\/∃(a:ac) (oa:Obj),o0=rawInt (a:Nat)/\s.heap.get? a=aa oa/\a≠it:=by
   rcases ho0 with z|⟨a,oa,z1,z2,z3,_⟩
   ·exact .inl z
   ·exact .inr ⟨a,oa,z1,z2,z3⟩
  refine ba (zdX (A:=A.in1) hit rd hx ho0' λh' o1 f1' k1 v1 hit' ho1 ht hz' kp own=>?_)
  have Sl:S<s.heap.objs.size:=by
   obtain⟨_,_,_,_,e⟩:=(show ObjOk X.prog X.w Hi s.heap S (.lst ys) from I.hok S _ hy)
   exact bO e
  have tn:s.heap.objs.size≠it:=eT (bO hit)
  have hTn:Hi s.heap.objs.size=ai:=I.hok.fresh (bi _)
  have STn:S≠s.heap.objs.size:=cq Sl
  generalize hT:s.heap.objs.size=T at *
  have I6:Inv X pins σ (upd Hi T (.tup [.ref p,kvs[i].2])) { s with heap:=s.heap.push { cls:=.type "tuple",data:=.seq #[es[i].key,es[i].val] } } :=
   I.laid (a:=T) (o:=.tup [.ref p,kvs[i].2]) (t':=s.toks) (λb u e=>bg _ e) (by rw[hT];exact bi _) ⟨by show 2<=Bb;decide,[es[i].key,es[i].val],.cons (by rw[ek];exact rfl) (.cons rv .nil),⟨_,by rw[<-hT];exact bH _ rfl,rfl,_,rfl⟩⟩
  have S6:Same Hi (upd Hi T (.tup [.ref p,kvs[i].2])):=isV T hTn
  have I7:Inv X pins σ (upd Hi T (.tup [.ref p,kvs[i].2])) { s with heap:=h' }:=I6.turned (s:={ s with heap:=s.heap.push { cls:=.type "tuple",data:=.seq #[es[i].key,es[i].val] } }) (t':=s.toks) (λb o hb e=>by
   rcases Heap.get?_push_cases (show (s.heap.push { cls:=.type "tuple",data:=.seq #[es[i].key,es[i].val] }).get? b=aa o from e) with ⟨rfl,rfl⟩|e
   ·rw[hT];exact ht
   ·exact kp b o hb e) (by rw[zi (eL tn)];exact f0) f1 f3 f4 f5
  have hy7:(upd Hi T (.tup [.ref p,kvs[i].2])) S=aa (.lst ys):=S6 _ _ hy
  obtain⟨z,its,n,r,hl,e⟩:=I7.lstM hy7
  have yl:ys.length=i:=by
   have:=bL pr
   rw[cR] at this
   lia
  show Bf _ A.in1 (updateSeq S (·.push (bG T)) >>= _) _ _ _
  have e':h'.get? S=aa { cls:=.type "list",data:=.seq its.toArray n }:=e
  refine ba (i7 (s:={ s with heap:=h' }) e' rfl ?_ (by rw[bF,<-r.length,yl];exact bK (by lia:i<=1000) (by lia)) (by rw[Array.size_push,bF,<-r.length,yl];exact bK (by lia:i+1<=1001) (by lia)))
  have I8:=I7.lset (f:=λxs=>xs.push (bG T)) (t':=s.toks) (its':=its++[bG T]) hy7 e' (by simp) (r.append (.cons (show RelV (.ref T) (.ref T) from rfl) .nil)) (by rw[bw,yl];exact bK (by show i+1<=1001;lia) (by lia))
  have up:∀b o,b≠S->h'.get? b=aa o->(h'.update S (du (·.push (bG T)))).get? b=aa o:=λb o hb z=>(dP _ _ (eL hb)).trans z
  have dS:d≠S:=zx hd hS
  have tS:∀b zs,Hi b=aa (.tup zs)->(upd (upd Hi T (.tup [.ref p,kvs[i].2])) S (.lst (ys++[.ref T]))) b=aa (.tup zs):=λb zs z=>by
   rw[zi (zG z hy (by intro z;cases z))];exact S6 _ _ z
  have ri:∀ {a b:Nat},(rawInt (a:Int):ae)=rawInt (b:Int)->a=b:=λ{a b} z=>by
   have z':(fi (a:Int) 0:ae)=fi (b:Int) 0:=z
   have z'':(a:Int)=(b:Int):=by injection z'
   exact pL z''
  refine bh ⟨fZ dZ _,ih (i+1) _ _ (ys++[.ref T]) o1 k1 v1 f1' (by rw[Nat.sub_add_eq,hk];rfl) hlt I8 (λb o z=>?_) zh ?_ (rd.at λo z=>up d o dS (kp d o dit z)) (up it _ (eL Sit) hit') ?_ ⟨?_,f1,f2,f3,f4,f5⟩⟩
  ·rw[zi (zx z hS)];exact S6 _ _ (sm _ _ z)
  ·rw[dU,hkv]
   exact QS (QR tS pr) ⟨T,p,rfl,by rw[zi (eL STn),zh],tS _ _ (sm _ _ hp)⟩
  ·rcases ho1 with z|⟨a,oa,z1,z2,z3⟩
   ·exact .inl z
   ·have aS:a≠S:=by
     rcases own a z1 with z|z
     ·rw[z];exact eL STn
     ·rcases ho0 with ⟨y1,_⟩|⟨a',oa',y1,_,_,y4⟩
      ·rw[y1] at z;cases z
      ·rw[y1] at z
       rw[<-ri z];exact y4
    exact .inr ⟨a,oa,z1,up a _ aS z2,z3,aS⟩
  ·rw[zi (eL Sit),zi (eL tn)];exact f0
end
abbrev zdZ:RC:=λvs H Q=>∃r d kvs,vs=[.ref r]/\H r=aa (ZN r d)/\H d=aa (.dT kvs)/\kvs.length<=1000/\∀l ys H',Same H H'->H l=ai->H' l=aa (.lst ys)->Paired (YM H') ys kvs->Q (.ref l) H'
theorem zfz{H:Hp}(k:HOk P w H h)(e:H r=aa (ZN r d)):h.IsItemsView r d:=(k r _ e).1
theorem zfA{H:Hp}:∀ {kvs:List (List Key×V)} {xs:List (List Key×ac×ae)},Paired (λ(p:List Key×V) (q:List Key×ac×ae)=>p.1=q.1/\H q.2.1=aa (.tup (p.1.map kV))/\RelV p.2 q.2.2) kvs xs->∀ {i:Nat} {kv:List Key×V} {x:List Key×ac×ae},kvs[i]?=aa kv->xs[i]?=aa x->H x.2.1=aa (.tup (kv.1.map kV))/\RelV kv.2 x.2.2 :=
 λ{_ _} h {_ _ _} e1 e2=>(yn h e1 e2).2
section
variable {X:Cx}
theorem zd0{σ:St}{H:Hp}{s:ah}{d:ac}{kvs:List (List Key×V)}(I:Inv X pins σ H s)(e:H d=aa (.dT kvs)):∃es ep,RawD s.heap d es ep/\es.size=kvs.length /\
  ∀(i:Nat) (en:DictEntry) (kv:List Key×V),es[i]?=aa en->kvs[i]?=aa kv->∃p,en.key=.ref p/\H p=aa (.tup (kv.1.map kV))/\RelV kv.2 en.val:=by
 obtain⟨z,hd,xs,rel,o,es,ep,h1,h2,h3,h4,_⟩:=(show ObjOk X.prog X.w H s.heap d (.dT kvs) from I.hok d _ e)
 have l1:es.size=xs.length:=by rw[<-b8,h4,bd]
 refine⟨es,ep,⟨o,h1,h2,h3⟩,by rw[l1,<-bL rel],λi en kv e1 e2=>?_⟩
 have e3:es.toList[i]?=aa en:=by rw[cL];exact e1
 rw[h4,bp] at e3
 obtain⟨x,hx,rfl⟩:=b6.mp e3
 obtain⟨g1,g2⟩:=zfA rel e2 hx
 exact⟨x.2.1,rfl,g1,g2⟩
theorem Jw{A:aw}{R:aA->ah->Prop}{pins:List (ac×Obj)}{σ:St}{H:Hp}{s:ah}{S r d:ac}{kvs:List (List Key×V)}{res:ae}{c:Nat}(hh:A.handled=ai)(hS:H S=ai)(hr:H r=aa (ZN r d))(hd:H d=aa (.dT kvs))(hl:kvs.length<=1000)
  (I2:Inv X pins σ (upd H S (.lst [])) s) (T2:s.heap.get? S=aa { cls:=.type "list",data:=.seq #[] c }) (hR:∀s' H' ys,Inv X pins σ H' s'->Same H H'->H' S=aa (.lst ys)->Paired (YM H') ys kvs->R (.ok (.ret res)) s') :
  Bf (Bg X.prog X.w) A.in1 (de (.ref S) (.ref r) res) (λfin s'=>match fin with|.done f=>R (.ok f) s'|.again c'=>c'.quiet=af/\codeAny (Bg X.prog X.w) A c' R s') (λe s'=>R (.error e) s') s:=by
 have Sr:r≠S:=zx hr hS
 have Sd:d≠S:=zx hd hS
 have SS:Same H (upd H S (.lst [])):=isV S hS
 obtain⟨es,ep,rd,hes,hen0⟩:=zd0 I2 (SS _ _ hd)
 have hen:∀(i:Nat) (en:DictEntry) (kv:List Key×V),es[i]?=aa en->kvs[i]?=aa kv->∃p,en.key=.ref p/\H p=aa (.tup (kv.1.map kV))/\RelV kv.2 en.val:=λi en kv e1 e2=>by
  obtain⟨p,g1,g2,g3⟩:=hen0 i en kv e1 e2
  refine⟨p,g1,?_,g3⟩
  by_cases hp:p=S
  ·rw[hp,zh] at g2;cases g2
  ·rwa [zi hp] at g2
 have vw:=zfz I2.hok (SS _ _ hr)
 unfold de
 refine ba (oR (T:="dict_items") vw.typeIs ?_)
 have c1:lV (.ref S) (.ref r)=ak:=by simp[lV,eL Sr]
 have c2:(lL "dict_items" == lL "list")=ak:=by lia
 have c3:(lL "dict_items" == lL "tuple")=ak:=by lia
 simp only[c1,c2,c3,Bool.or_false,cx,if_false]
 refine ba (zdW vw rd ?_)
 have ni:(upd H S (.lst [])) s.heap.objs.size=ai:=I2.hok.fresh (bi _)
 have fp:Z4 X pins (upd H S (.lst [])) s.heap.objs.size:=I2.fpOk (bi _) ni
 have Si:S≠s.heap.objs.size:=cq (bO T2)
 have di:d≠s.heap.objs.size:=cq rd.lt
 have I3:Inv X pins σ (upd H S (.lst [])) { s with heap:=s.heap.push { cls:=.type "dict_itemiterator",data:=.fields #[.none,.bool ak,.ref d,.int 0 0,.int es.size 0,.int ep 0,.none,.none] } }:=I2.kept (t':=s.toks) λb o e=>bg _ e
 have T3:=bg { cls:=.type "dict_itemiterator",data:=.fields #[.none,.bool ak,.ref d,.int 0 0,.int es.size 0,.int ep 0,.none,.none] } T2
 have it3:ItA (s.heap.push { cls:=.type "dict_itemiterator",data:=.fields #[.none,.bool ak,.ref d,.int 0 0,.int es.size 0,.int ep 0,.none,.none] }) s.heap.objs.size d 0 es.size ep .none ak .none .none:=bH _ rfl
 have rd3:RawD (s.heap.push { cls:=.type "dict_itemiterator",data:=.fields #[.none,.bool ak,.ref d,.int 0 0,.int es.size 0,.int ep 0,.none,.none] }) d es ep:=rd.at λo e=>bg _ e
 have vw3:(s.heap.push { cls:=.type "dict_itemiterator",data:=.fields #[.none,.bool ak,.ref d,.int 0 0,.int es.size 0,.int ep 0,.none,.none] }).IsItemsView r d:=let ⟨o,ho,x⟩:=vw;⟨o,bg _ ho,x⟩
 generalize hh3:s.heap.push { cls:=.type "dict_itemiterator",data:=.fields #[.none,.bool ak,.ref d,.int 0 0,.int es.size 0,.int ep 0,.none,.none] }=h3 at *
 generalize s.heap.objs.size=it at *
 refine ba (dY (W.kdx_hint vw3.typeIs ?_))
 have fin:∀(h4:av) (tk:Nat) (R:aA->ah->Prop),(∀s' H' ys,Inv X pins σ H' s'->Same H H'->H' S=aa (.lst ys)->Paired (YM H') ys kvs->R (.ok (.ret res)) s')->Inv X pins σ (upd H S (.lst [])) { s with heap:=h4,toks:=tk }->RawD h4 d es ep->ItA h4 it d 0 es.size ep .none ak .none .none ->
   codeAny (Bg X.prog X.w) A (.builtin "list.extend.loop" ⟨[.ref S,.ref it,res],[]⟩) R { s with heap:=h4,toks:=tk }:=λh4 tk R hR I4 rd4 it4 =>
  zdY (A:=A) (H:=H) (es:=es) (ep:=ep) hh hS hd Si di hl hes hen hR kvs.length 0 _ (upd H S (.lst [])) [] .none .none .none ak (mZ _) (bP _) I4 SS zh .nil rd4 it4 (.inl ⟨rfl,rfl⟩) fp
 refine wpAny_ite_split (λ_=>?_) (λ_=>bh ⟨fZ dZ _,fin h3 s.toks _ hR I3 rd3 it3⟩)
 refine ba (oG ?_);refine ba ?_
 show Bf _ _ (updateSeq S (·.push .none) >>= λ_=>updateSeq S (·.pop)) _ _ _;refine ba (i7 T3 rfl ?_)
 have T4:=eY (du (·.push cI)) T3 rfl
 refine i7 (hz:=by seq_fits) T4 rfl ?_
 have I4:=I3.lset (f:=λxs=>xs.push cI) (its:=[]) (its':=[cI]) (ys:=[V.non]) (t':=s.toks) zh T3 rfl (.cons rfl .nil) (by show 1<=Bb;decide)
 have I5:=I4.lset (f:=λxs=>xs.pop) (its:=[cI]) (its':=[]) (ys:=[]) (t':=s.toks) zh T4 rfl .nil (bP _)
 rw[Yz,Yz] at I5
 have oth:∀b o,b≠S->h3.get? b=aa o->((h3.update S (du (·.push cI))).update S (du (·.pop))).get? b=aa o:=λb o hb e=>(dP _ _ (eL hb)).trans ((dP _ _ (eL hb)).trans e)
 exact bh ⟨fZ dZ _,fin _ s.toks _ hR I5 (rd3.at λo e=>oth d o Sd e) (oth it _ (eL Si) it3)⟩
theorem Wd(hc:X.calm=af):jW X (.type "list") zdZ:=by
 intro pins s σ H vs us Q I r0 h
 obtain⟨r,d,kvs,rfl,hr,hd,hl,q⟩:=h
 obtain⟨u,rfl,ru⟩:=qt r0
 cases ru
 have hh:X.A.handled=ai:=I.ok.hd hc
 refine callType_codes (Q₁:=λobj s₁=>obj=.ref s.heap.objs.size/\s₁={ s with heap:=s.heap.push { cls:=.type "list",data:=.seq #[] } }) PySem.F.called_list (PySem.F.typeCall_list_1 _) PySem.F.entry_list_init (code_list_new _ ⟨rfl,rfl⟩) ?_;rintro obj s₁ ⟨rfl,rfl⟩
 have hS:H s.heap.objs.size=ai:=I.hok.fresh (bi _)
 have I1:Inv X pins σ (upd H s.heap.objs.size (.lst [])) { s with heap:=s.heap.push { cls:=.type "list",data:=.seq #[] } }:=I.lnew (its:=[]) (t':=s.toks) .nil (bP _)
 have T0:(s.heap.push { cls:=.type "list",data:=.seq #[] }).get? s.heap.objs.size=aa { cls:=.type "list",data:=.seq #[] }:=bH _ rfl
 generalize hT:s.heap.objs.size=S at *
 refine⟨⟨_,T0,rfl⟩,PySem.F.args_list_init_2 _ _,?_⟩
 show Bf _ _ (do let old <-mP (.ref S);Builtin.List.listUpdate (.ref S) (λ_=>#[]);letGo old.toList.reverse;de (.ref S) (.ref r) .none) _ _ _
 refine ba ?_;unfold mP;refine ba (wpAny_seqItems T0 rfl (bh ?_))
 show Bf _ _ (updateSeq S (λ_=>#[]) >>= λ_=>letGo (#[]:Array ae).toList.reverse >>= λ_=>de (.ref S) (.ref r) .none) _ _ _
 refine ba (i7 T0 rfl ?_)
 have I2:=I1.lset (f:=λ_=>(#[]:Array ae)) (its:=[]) (its':=[]) (ys:=[]) (t':=s.toks) zh T0 rfl .nil (bP _)
 rw[Yz] at I2
 have T2:=eY (du (λ_=>(#[]:Array ae))) T0 rfl
 refine ba (wpAny_letGo ?_)
 generalize hh2:(s.heap.push { cls:=.type "list",data:=.seq #[] }).update S (du (λ_=>(#[]:Array ae)))=h2 at *
 exact Jw (A:=X.A.in1) (H:=H) hh hS hr hd hl I2 T2 λs' H' ys I' sm hy pr=>⟨rfl,.ref S,H',I',rfl,q S ys H' sm hS hy pr⟩
end
end L2
namespace L2
open PySem PySem.Spec PyProof.Rows PySem.W
section
variable {X:Cx}
theorem za7{E:ae->ah->Prop}{R:List ae->ah->Prop}{pins:List (ac×Obj)}{σ:St}{H:Hp}{s:ah}{r d:ac}{kvs:List (List Key×V)}(hh:A.handled=ai)(hr:H r=aa (ZN r d))(hd:H d=aa (.dT kvs))(hl:kvs.length<=1000)(I:Inv X pins σ H s)
  (h:∀s1 H' ys us,Inv X pins σ H' s1->Same H H'->Paired (YM H') ys kvs->Vals ys us->R us s1):Bf (Bg X.prog X.w) A (collect (.ref r)) R E s:=by
 have hS:H s.heap.objs.size=ai:=I.hok.fresh (bi _)
 have I1:Inv X pins σ (upd H s.heap.objs.size (.lst [])) { s with heap:=s.heap.push { cls:=.type "list",data:=.seq ([]:List ae).toArray } }:=I.lnew (its:=[]) (t':=s.toks) .nil (bP _)
 have T1:(s.heap.push { cls:=.type "list",data:=.seq ([]:List ae).toArray }).get? s.heap.objs.size=aa { cls:=.type "list",data:=.seq #[] }:=bH _ rfl
 unfold collect;refine ba (wpAny_runValue (eP nG ?_));rw[dq iY _]
 show Bf _ A.in1 (newList [] >>= λl=>again (.builtin "list.__iadd__" ⟨[l,.ref r],[]⟩)) _ _ s;refine ba (dn ?_)
 refine bh ⟨fZ fC _,eP entry_list_iadd' ?_⟩;rw[dq fC _]
 generalize s.heap.objs.size=S at *
 show Bf _ A.in1 (de (.ref S) (.ref r) (.ref S)) _ _ _
 have key:=Jw (A:=A) (R:=λ(q:aA) (s':ah)=>∃H' ys,q=.ok (.ret (.ref S))/\Inv X pins σ H' s'/\Same H H'/\H' S=aa (.lst ys)/\Paired (YM H') ys kvs) (res:=.ref S) hh hS hr hd hl I1 T1 λs' H' ys I' sm hy pr=>⟨H',ys,rfl,I',sm,hy,pr⟩
 have fin:∀s':ah,(∃H' ys,Inv X pins σ H' s'/\Same H H'/\H' S=aa (.lst ys)/\Paired (YM H') ys kvs)->Bf (Bg X.prog X.w) A (load S >>= λo=>match o.data with|.seq xs _=>pure xs.toList|_=>unsupported "internal:collect") R E s':=λs' ⟨H',ys,I',sm,hy,pr⟩=>by
  obtain⟨z,its,n,rv,hl',e⟩:=I'.lstM hy
  refine ba (nA e ?_)
  refine bh ?_
  exact h s' H' ys its I' sm pr rv
 refine dE key (λf s' x=>?_) λe s' x=>?_
 ·cases f with
  |done f =>
   obtain⟨H',ys,e,x⟩:=x
   cases e
   exact fin s' ⟨H',ys,x⟩
  |again c₁ =>
   refine⟨x.1,fQ x.2 λq s₂ y=>?_⟩
   obtain⟨H',ys,rfl,y⟩:=y
   exact fin s₂ ⟨H',ys,y⟩
 ·obtain⟨_,_,e',_⟩:=x
  cases e'
end
section
variable {P:aq}{w:au}{A:aw}{E:ae->ah->Prop}{s:ah}
theorem zd1{a b:Str×Int}{Q:Bool->ah->Prop}(hu:A.units<cLine)(hx:PlAt s.heap (.ref x) a)(hy:PlAt s.heap (.ref y) b)(h:Q (yv a b) s):Bf (Bg P w) A (oneLt' ak (.ref x) (.ref y)) Q E s:=by
 obtain⟨p,o,t,u,n,e1,ho,hc,hd⟩:=hx
 obtain⟨p2,o2,t2,u2,n2,e2,ho2,hc2,hd2⟩:=hy
 cases e1
 cases e2
 obtain⟨c,dd,dat,sl⟩:=o
 obtain⟨c2,dd2,dat2,sl2⟩:=o2
 simp only at hc hd hc2 hd2
 subst hc hd hc2 hd2
 have T1:s.TypeIs (.ref x) "tuple":=⟨_,ho,rfl⟩
 have T2:s.TypeIs (.ref y) "tuple":=⟨_,ho2,rfl⟩
 refine kat_one _ _ ?_
 show Bf _ _ (richCompare .Lt (.ref x) (.ref y)) _ _ _
 refine wpAny_richCompare_same_room T1 T2 m7 ?_ hu
 exact ic m7 T1 PySem.F.entry_tuple_lt (PySem.F.args_tuple_lt_2 _ _) (W1 x y a.1 b.1 a.2 b.2 t u t2 u2 n n2 dd dd2 sl sl2) ⟨ho,ho2,by simp,h⟩
theorem zd2{a:Str×Int}(hx:PlAt h (.ref x) a):IsTupleKey (yk P w) h (zC a) x:=by
 obtain⟨p,o,t,u,n,e1,ho,hc,hd⟩:=hx
 cases e1
 exact⟨o,_,n,ho,hc,hd,Xk (ks:=zC a) (.cons ⟨t,rfl⟩ (.cons ⟨u,rfl⟩ .nil))⟩
def RvAt(h:av)(v:ae)(q:Row):Prop:=∃a o p t n,v=.ref a/\h.get? a=aa o/\o.cls=.type "tuple"/\o.data=.seq #[.ref p,.int q.2 t] n/\PlAt h (.ref p) q.1
theorem RvAt.keep(x:RvAt h v q)(k:∀b o,h.get? b=aa o->h'.get? b=aa o):RvAt h' v q:=by
 obtain⟨a,o,p,t,n,e,ho,hc,hd,hp⟩:=x
 exact⟨a,o,p,t,n,e,k _ _ ho,hc,hd,hp.keep k⟩
theorem zfB{Q:Bool->ah->Prop}(hu:A.units<cLine)(hx:RvAt s.heap x a)(hy:RvAt s.heap y b)(h:Q (yv a.1 b.1) s)(hn:a.1≠b.1):Bf (Bg P w) A (keyLt' (tuples' ak) x y) Q E s:=by
 obtain⟨p,o,pp,t,n,rfl,ho,hc,hd,hp⟩:=hx
 obtain⟨p2,o2,pp2,t2,n2,rfl,ho2,hc2,hd2,hp2⟩:=hy
 refine kat_lt ho hd ho2 hd2 (kat_cons (wpAny_eqBool_tuple (knd:=yk P w) hu (zd2 hp) (zd2 hp2) (kat_go (λe=>?_) λe=>kat_no ?_)))
 ·exact absurd (yV (of_decide_eq_true e)) hn
 ·exact zd1 hu hp hp2 h
theorem zd3{vs:List ae}{qs:List Row}{Q:SortKind->ah->Prop}(hl:vs.length=qs.length)(hv:∀(i:Nat) (v:ae) (q:Row),vs[i]?=aa v->qs[i]?=aa q->RvAt s.heap v q)(h2:0<vs.length)(h:Q (tuples' ak) s) :
  Bf (Bg P w) A (keyKind' vs.toArray) Q E s:=by
 have T:∀(vs:List ae) (qs:List Row),vs.length=qs.length->(∀(i:Nat) (v:ae) (q:Row),vs[i]?=aa v->qs[i]?=aa q->RvAt s.heap v q)->∃fs,KatTups s.heap vs fs/\fs.length=vs.length/\∀v∈fs,∃p o,v=bG p/\s.heap.get? p=aa o/\o.cls=.type "tuple":=by
  intro vs
  induction vs with
  |nil=>exact λqs _ _=>⟨[],trivial,rfl,λ_ z=>nomatch z⟩
  |cons v r ih =>
   intro qs hl hv
   match qs,hl with
   |q::qr,hl =>
    obtain⟨fs,k,kl,kf⟩:=ih qr (by simpa using hl) λi v' q' e1 e2=>hv (i+1) v' q' (by simpa using e1) (by simpa using e2)
    obtain⟨a,o,p,t,n,rfl,ho,hc,hd,hp⟩:=hv 0 v q rfl rfl
    refine⟨.ref p::fs,pN ho hc hd rfl k,by simp[kl],λz hz=>?_⟩
    rcases bD.mp hz with rfl|hz
    ·obtain⟨p',o',_,_,_,e,g1,g2,_⟩:=hp
     cases e
     exact⟨_,o',rfl,g1,g2⟩
    ·exact kf z hz
 obtain⟨fs,k,kl,kf⟩:=T vs qs hl hv
 refine kat_kind (T:=.type "tuple") k (by lia) (λv hv=>?_) (by lia) h
 obtain⟨p,o,rfl,g1,g2⟩:=kf v hv
 exact g2 ▸ (oH g1).andThen .now
theorem Kr{l:ac}{κ:SortKind}{Q:ae->ah->Prop}(G:List ae->(Nat->Nat->Bool)->ah->Prop)
  (coll:∀R:List ae->ah->Prop,(∀vs lt s1,G vs lt s1->R vs s1)->Bf (Bg P w) A.in1 (collect (.ref l)) R E s)
  (h64:∀vs lt s1,G vs lt s1->vs.length<64/\SO lt vs.length)
  (hk:∀vs lt s1,G vs lt s1->2<=vs.length->∀(h:av) (Q:SortKind->ah->Prop),(∀b o,s1.heap.get? b=aa o->h.get? b=aa o)->Q κ { s1 with heap:=h }->Bf (Bg P w) A.in1.in1 (keyKind' vs.toArray) Q (λ_ _=>False) { s1 with heap:=h })
  (hc:∀vs lt s1,G vs lt s1->∀(h:av) i j C,(∀b o,s1.heap.get? b=aa o->h.get? b=aa o)->i<vs.length->j<vs.length->i≠j->C (lt i j) { s1 with heap:=h }->kas_ask P w A.in1.in1 κ vs i j C { s1 with heap:=h })
  (fin:∀vs lt s1,G vs lt s1->∀(h':av) (p:Array Nat) (c:Nat),(∀b o,s1.heap.get? b=aa o->h'.get? b=aa o)->h'.get? s1.heap.objs.size=aa (seqObj "list" (vy vs p).toArray c)->PP vs.length p->ZF lt p vs.length->Q (.ref s1.heap.objs.size) { s1 with heap:=h' }) :
  Bf (Bg P w) A (call (.builtin "sorted") [.ref l]) Q E s:=by
 refine lI kind_sorted plain_sorted entry_sorted (args_sorted1 _) ?_;unfold Builtin.«sorted»
 refine ba (m:=checkCount "sorted" 1 1 _) (bh ?_);refine ba (coll _ λvs lt s1 g=>?_)
 obtain⟨l64,S⟩:=h64 vs lt s1 g
 refine ba (om ?_ (by rw[bS];lia))
 have hoL:(s1.heap.push (seqObj "list" vs.toArray 0)).get? s1.heap.objs.size=aa (seqObj "list" vs.toArray 0):=bH _ rfl
 have kept:∀h',Kp s1.heap.objs.size (s1.heap.push (seqObj "list" vs.toArray 0)) h'->∀b o,s1.heap.get? b=aa o->h'.get? b=aa o:=λh' k b o e=>k b o (cq (bO e)) (bg _ e)
 refine ba (dY (dy slot_list_sort ⟨_,hoL,rfl⟩ entry_list_sort (WZ (s:={ s1 with heap:=s1.heap.push (seqObj "list" vs.toArray 0) }) hoL l64 (κ:=κ) (lt:=lt) (λh2 h' Q' k q=>?_) (λh' i j C k hi hj hij q=>?_) S λh' p c k ho hp hr=>?_) (args_list_sort _)))
 ·exact hk vs lt s1 g h2 h' Q' (kept h' k) q
 ·exact hc vs lt s1 g h' i j C (kept h' k) hi hj hij q
 ·exact⟨_,rfl,bh ⟨_,rfl,fin vs lt s1 g h' p c (kept h' k) ho hp hr⟩⟩
end
def d0:Row:=(("",0),0)
theorem zgR(rows:List Row):∃its:List Row,dOf rows=its.map (λq=>(zC q.1,V.int q.2))/\(its.map (·.1)).Nodup/\∀p w,(p,w)∈its↔zI rows p=aa w:=by
 have h:=kg rows
 have:∀(kvs:List (List Key×V)),(∀kv∈kvs,∃(p:Pl) (w:Int),kv=(zC p,.int w))->∃its:List Row,kvs=its.map (λq=>(zC q.1,V.int q.2)):=λkvs=>by
  induction kvs with
  |nil=>exact λ_=>⟨[],rfl⟩
  |cons kv r ih =>
   intro hk
   obtain⟨qs,e⟩:=ih λz hz=>hk z (bn _ hz)
   obtain⟨p,w,e2⟩:=hk kv bq
   exact⟨(p,w)::qs,by rw[bo,<-e,e2]⟩
 obtain⟨its,e⟩:=this _ h.2
 refine⟨its,e,?_,λp w=>?_⟩
 ·have:=h.1
  rw[e,df] at this
  refine xG (f:=zC) ?_
  rw[df]
  exact this
 ·have m:=mem_dOf (rows:=rows) (kv:=(zC p,V.int w))
  constructor
  ·intro hm
   obtain⟨p',w',e1,e2⟩:=m.mp (by rw[e];exact bE.mpr ⟨_,hm,rfl⟩)
   have e3:=yV (nT e1).1
   have e4:=V.int.inj (nT e1).2
   rw[e3,e4];exact e2
  ·intro hw
   have hm:=m.mpr ⟨p,w,rfl,hw⟩
   rw[e] at hm
   obtain⟨q,hq,e1⟩:=bE.mp hm
   have e3:=yV (nT e1).1
   have e4:=V.int.inj (nT e1).2
   rw[<-e3,<-e4];exact hq
theorem W4{α:Type}(l:List α)(d:α):(da l.length).map (λi=>l.getD i d)=l:=by
 apply dW
 intro i
 rw[bp]
 by_cases hi:i<l.length
 ·rw[gH hi,bb hi]
  simp[bB,bb hi]
 ·rw[ca (by simpa using hi),ca (by lia)]
  rfl
theorem PP.list(h:PP n p):p.toList.Perm (da n):=by
 have:=gj.mp h
 simpa using this
theorem PP.lt(h:PP n p):∀i∈p.toList,i<n:=λi hi=>by
 have:=h.list.mem_iff.mp hi
 simpa using this
theorem W5{α:Type}{F:α->α->Bool}{l:List α}{d:α}{n:Nat}(hp:PP n p)(hr:ZF (λi j=>F (l.getD i d) (l.getD j d)) p n):(p.toList.map λi=>l.getD i d).Pairwise λa b=>F a b=af:=by
 rw[gb,e9]
 intro i j hi hj hij
 rw[b8] at hi hj
 have g1:=ka hi
 have g2:=ka hj
 have sz:=hp.size
 have r:=hr i j hij (by lia)
 have x1:p.toList[i]=gt p i:=by
  rw[ck hi] at g1
  simpa using g1
 have x2:p.toList[j]=gt p j:=by
  rw[ck hj] at g2
  simpa using g2
 rw[x1,x2];exact r
theorem jn{α β:Type}{F:α->β->Prop}{l₁:List α}{l₂:List β}(h:Paired F l₁ l₂)(a:α)(b:β):∀ {is:List Nat},(∀i∈is,i<l₁.length)->Paired F (is.map λi=>l₁.getD i a) (is.map λi=>l₂.getD i b)
 |[],_=>.nil
 |i::r,hi=>by
  have l:=bL h
  have h1:=hi i bq
  refine .cons ?_ (jn h a b λj hj=>hi j (bn _ hj))
  show F (l₁.getD i a) (l₂.getD i b)
  have e1:=bb h1
  have e2:l₂[i]?=aa l₂[i]:=bb (by lia)
  rw[bB,bB,e1,e2]
  exact yn h e1 e2
abbrev zd4:RC:=λvs H Q=>∃r d rows,vs=[.ref r]/\H r=aa (ZN r d)/\H d=aa (.dT (dOf rows))/\(dOf rows).length<64 /\
 ∀l ys srt H',Same H H'->H l=ai->H' l=aa (.lst ys)->Paired (PrAt H') ys srt->Rising srt->(∀p w,(p,w)∈srt↔zI rows p=aa w)->Q (.ref l) H'
theorem zd5{H:Hp}:∀ {ys:List V} {its:List Row},Paired (YM H) ys (its.map λq=>(zC q.1,V.int q.2))->Paired (PrAt H) ys its
 |_,[],h=>by cases h;exact .nil
 |_,q::r,h=>by
  rw[bo] at h
  cases h with
  |cons a t=>exact .cons a (zd5 t)
section
variable {X:Cx}
theorem zhB{σ:St}{H:Hp}{s:ah}{v:V}{u:ae}{q:Row}(I:Inv X pins σ H s)(h:PrAt H v q)(r:RelV v u):RvAt s.heap u q:=by
 obtain⟨a,p,rfl,h1,h2⟩:=h
 cases r
 obtain⟨_,its,rv,o,o1,o2,n,o3⟩:=(show ObjOk X.prog X.w H s.heap a (.tup [.ref p,.int q.2]) from I.hok a _ h1)
 cases rv with
 |cons r1 rr =>
  cases rr with
  |cons r2 rn =>
   cases rn
   cases r1
   obtain⟨t,rfl⟩:=r2
   exact⟨a,o,p,t,n,rfl,o1,o2,o3,QJ I h2⟩
theorem YN(hc:X.calm=af)(hu:X.A.units+3<cLine):jW X (.builtin "sorted") zd4:=by
 intro pins s σ H vs us Q I r0 h
 obtain⟨r,d,rows,rfl,hr,hd,h64,q⟩:=h
 obtain⟨u,rfl,ru⟩:=qt r0
 cases ru
 have hh:X.A.handled=ai:=I.ok.hd hc
 obtain⟨its,ei,nd,mi⟩:=zgR rows
 have li:(dOf rows).length=its.length:=by rw[ei,bd]
 have so:=W0 nd
 have vat:∀ {s1:ah} {H':Hp} {ys:List V} {vs:List ae},Inv X pins σ H' s1->Paired (PrAt H') ys its->Vals ys vs->∀(i:Nat) (q:Row),its[i]?=aa q->∃v,vs[i]?=aa v/\RvAt s1.heap v q:=λ{s1 H' ys vs} I' pr rv i q hq=>by
  have hi:=(bf.mp hq).1
  have l1:=bL pr
  obtain⟨y,hy⟩:∃y,ys[i]?=aa y:=⟨_,bb (by lia)⟩
  obtain⟨u,hu',ru⟩:=rv.get hy
  exact⟨u,hu',zhB I' (yn pr hy hq) ru⟩
 refine Kr (κ:=tuples' ak) (λvs lt s1=>∃H' ys,Inv X pins σ H' s1/\Same H H'/\Paired (PrAt H') ys its/\Vals ys vs/\lt=λi j=>yv ((its.map (·.1)).getD i (("",0):Pl)) ((its.map (·.1)).getD j (("",0):Pl)))
  (λR hR=>za7 (A:=X.A.in1) hh hr hd (by lia) I λs1 H' ys us I' sm pr rv=>hR us _ s1 ⟨H',ys,I',sm,zd5 (by rw[<-ei];exact pr),rv,rfl⟩) ?_ ?_ ?_ ?_
 ·rintro vs lt s1 ⟨H',ys,I',sm,pr,rv,rfl⟩
  have l1:=bL pr
  have l2:=rv.length
  refine⟨by lia,?_⟩
  rw[show vs.length=(its.map (·.1)).length by rw[bd];lia]
  exact so
 ·rintro vs lt s1 ⟨H',ys,I',sm,pr,rv,rfl⟩ h2 h Q' k q'
  have l1:=bL pr
  have l2:=rv.length
  refine zd3 (s:={ s1 with heap:=h }) (qs:=its) (by lia) (λi v q hv hq=>?_) (by lia) q'
  obtain⟨v',hv',rr⟩:=vat I' pr rv i q hq
  rw[hv] at hv'
  cases hv'
  exact rr.keep k
 ·rintro vs lt s1 ⟨H',ys,I',sm,pr,rv,rfl⟩ h i j C k hi hj hij q'
  have l1:=bL pr
  have l2:=rv.length
  have e1:its[i]?=aa its[i]:=bb (by lia)
  have e2:its[j]?=aa its[j]:=bb (by lia)
  obtain⟨v1,g1,r1⟩:=vat I' pr rv i _ e1
  obtain⟨v2,g2,r2⟩:=vat I' pr rv j _ e2
  have n1:(its.map (·.1)).getD i (("",0):Pl)=its[i].1:=by rw[bB,bp,e1];rfl
  have n2:(its.map (·.1)).getD j (("",0):Pl)=its[j].1:=by rw[bB,bp,e2];rfl
  have m1:vs.getD i cI=v1:=by rw[bB,g1];rfl
  have m2:vs.getD j cI=v2:=by rw[bB,g2];rfl
  simp only[n1,n2] at q'
  have key:=zfB (P:=X.prog) (w:=X.w) (A:=X.A.in1.in1) (E:=λ_ _=>False) (s:={ s1 with heap:=h }) (Q:=C) (by have e:X.A.in1.in1.units=X.A.units+2:=rfl;lia) (r1.keep k) (r2.keep k) q' λz=>hij (by
   have e3:(its.map (·.1))[i]?=aa its[i].1:=by rw[bp,e1];rfl
   have e4:(its.map (·.1))[j]?=aa its[j].1:=by rw[bp,e2];rfl
   rw[z] at e3
   exact(gg (by rw[bd];lia) nd).mp (e3.trans e4.symm))
  rw[<-m1,<-m2] at key
  exact key
 ·rintro vs lt s1 ⟨H',ys,I',sm,pr,rv,rfl⟩ h' p c k hD hp hr
  have l1:=bL pr
  have l2:=rv.length
  have hp':PP its.length p:=by rw[show its.length=vs.length by lia];exact hp
  have fr:H' s1.heap.objs.size=ai:=I'.hok.fresh (bi _)
  have sz:=hp'.size
  have pk:=jn pr V.non d0 (is:=p.toList) λi hi=>by have:=hp'.lt i hi;lia
  have vk:Vals (p.toList.map λi=>ys.getD i V.non) (vy vs p):=jn rv V.non cI (is:=p.toList) λi hi=>by have:=hp'.lt i hi;lia
  have I2:Inv X pins σ (upd H' s1.heap.objs.size (.lst (p.toList.map λi=>ys.getD i V.non))) { s1 with heap:=h' }:=I'.laid (a:=s1.heap.objs.size) (o:=.lst (p.toList.map λi=>ys.getD i V.non)) (t':=s1.toks) k (bi _)
   ⟨by rw[bd,b8];exact bK (by lia:_<=64) (by lia),vy vs p,c,vk,hD⟩
  have S2:Same H' (upd H' s1.heap.objs.size (.lst (p.toList.map λi=>ys.getD i V.non))):=isV _ fr
  have hn:H s1.heap.objs.size=ai:=by
   cases e:H s1.heap.objs.size with
   |none=>rfl
   |some o=>rw[sm _ _ e] at fr;cases fr
  have mono:∀ {us:List V} {ws:List Row},Paired (PrAt H') us ws->Paired (PrAt (upd H' s1.heap.objs.size (.lst (p.toList.map λi=>ys.getD i V.non)))) us ws:=λ{us ws} h=>by
   induction h with
   |nil=>exact .nil
   |cons a _ ih =>
    obtain⟨r,p,e,h1,h2⟩:=a
    exact .cons ⟨r,p,e,S2 _ _ h1,S2 _ _ h2⟩ ih
  refine⟨.ref s1.heap.objs.size,_,I2,rfl,q _ _ (p.toList.map λi=>its.getD i d0) _ (sm.trans S2) hn zh (mono pk) ?_ λpl wv=>?_⟩
  ·have hr':ZF (λi j=>yv ((its.map (·.1)).getD i (("",0):Pl)) ((its.map (·.1)).getD j (("",0):Pl))) p its.length:=by rw[show its.length=vs.length by lia];exact hr
   have pw:=W5 (F:=yv) hp' hr'
   have eq:(p.toList.map λi=>its.getD i d0).map (·.1)=p.toList.map λi=>(its.map (·.1)).getD i (("",0):Pl):=by
    rw[df]
    refine dA λi hi=>?_
    have hi:=hp'.lt i hi
    simp[bB,bp,bb hi]
   rw[<-eq,gb] at pw
   exact pw
  ·have pm:(p.toList.map λi=>its.getD i d0).Perm its:=by
    refine(hp'.list.map _).trans ?_
    rw[W4]
   rw[pm.mem_iff]
   exact mi pl wv
end
end L2
namespace L2
open PySem PySem.Spec PyProof.Rows
end L2
namespace L2
open PySem
structure StOk(n:Nat)(s:Sta):Prop where
 so:yS s.sl
 wo:∀r∈s.wo,inW r.2=af
 l1:s.sl.length<=n
 l2:s.wo.length<=n
 l3:s.sa.length<=n
theorem StOk.mono(h:StOk n s)(l:n<=m):StOk m s:=⟨h.so,h.wo,bK h.l1 l,bK h.l2 l,bK h.l3 l⟩
theorem Jx(h:yS kvs)(k:Key){i:Int}(hi:inW i=af):yS (yA kvs k (.int i)):=λk' v e=>by
 rw[WO] at e
 by_cases c:k'=k
 ·rw[am c] at e
  exact⟨i,(bQ e).symm,hi⟩
 ·rw[aj c] at e
  exact h k' v e
theorem vE{P:Row->Prop}{p:Pl}{w:Int}:∀ {l:List Row},(∀r∈l,P r)->zI l p=aa w->P (p,w)
 |[],_,h=>by cases h
 |r::t,hp,h=>by
  rw[zI] at h
  cases e:zI t p with
  |some w' =>
   rw[e] at h
   have:w'=w:=by simpa using h
   subst this
   exact vE (λr hr=>hp r (bn _ hr)) e
  |none =>
   rw[e] at h
   by_cases c:r.1=p
   ·rw[am c] at h
    have:r.2=w:=by simpa using h
    rw[<-c,<-this];exact hp r bq
   ·rw[aj c] at h;cases h
theorem zd6(h:∀r∈l,inW r.2=af)(p:Pl):inW ((zI l p).getD 0)=af:=by
 cases e:zI l p with
 |none=>rfl
 |some w=>exact vE (P:=λr=>inW r.2=af) h e
mutual
def zhV(P:Pl->Prop):Rw->Prop
 |.give sh e _=>∀kvs n,rk kvs e=.ok n->P (sh,n)
 |.iff _ a b=>zd7 P a/\zd7 P b
 |_=>True
def zd7(P:Pl->Prop):Rws->Prop
 |.nil=>True
 |.cons r rs=>zhV P r/\zd7 P rs
end
inductive Oc where
 |done (sa:List Int)
 |off (why:Str)
def QT:Er->Str
 |.great=>"great"
 |_=>"nought"
def zgS(rws:Rws)(tab:List Row)(oc:Oc)(out:List Row):Prop:=match zfx rws ⟨[],tab,[]⟩ with
 |.go s=>oc=.done s.sa/\zgh s.wo out
 |.off=>oc=.off "told"/\out=tab
 |.er e=>oc=.off (QT e)/\out=tab
inductive zgT:List Rws->List Row->List Oc->List Row->Prop
 |nil {tab:List Row}:zgT [] tab [] tab
 |cons {d:Rws} {ds:List Rws} {tab mid out:List Row} {oc:Oc} {ocs:List Oc}:zgS d tab oc mid->zgT ds mid ocs out->zgT (d::ds) tab (oc::ocs) out
def XZ:V->PyData
 |.int i=>.int i
 |.str x=>.str x
 |_=>.none
def plV(v:V):Prop:=(∃i,v=.int i)\/∃x,v=.str x/\cM x=af
def W6(e:List V):PyData:=.tuple (e.map XZ)
mutual
def rwD:Rw->PyData
 |.take sh e sl=>.tuple [.str "take",.str sh,W6 e,.str sl]
 |.give sh e f=>.tuple [.str "give",.str sh,W6 e,W6 f]
 |.lt sl e=>.tuple [.str "let",.str sl,W6 e]
 |.say e=>.tuple [.str "say",W6 e]
 |.off e=>.tuple [.str "off",W6 e]
 |.iff e a b=>.tuple [.str "if",W6 e,.list (zgU a),.list (zgU b)]
def zgU:Rws->List PyData
 |.nil=>[]
 |.cons r rs=>rwD r::zgU rs
end
def tmP(e:List V):Prop:=∀v∈e,plV v
mutual
def W7:Rw->Prop
 |.take sh e sl=>cM sh=af/\tmP e/\cM sl=af
 |.give sh e f=>cM sh=af/\tmP e/\tmP f
 |.lt sl e=>cM sl=af/\tmP e
 |.say e=>tmP e
 |.off e=>tmP e
 |.iff e a b=>tmP e/\qP a/\qP b
def qP:Rws->Prop
 |.nil=>True
 |.cons r rs=>W7 r/\qP rs
end
section
variable {K:bt}{H:Hp}{F:ac->Prop}
theorem zd8(h:plV v):Dat K H v (XZ v):=by
 rcases h with ⟨i,rfl⟩|⟨x,rfl,_⟩
 ·exact .int i
 ·exact .str x
theorem zcF:∀ {e:List V},tmP e->Xv K H e (e.map XZ)
 |[],_=>.nil
 |v::r,h=>.cons (zd8 (h v bq)) (zcF λu hu=>h u (bn _ hu))
end
theorem QU:∀ {e:List V},tmP e->ZA (e.map XZ)=af
 |[],_=>by simp[ZA]
 |v::r,h=>by
  rw[bo,ZA,QU λu hu=>h u (bn _ hu),Bool.and_true]
  rcases h v bq with ⟨i,rfl⟩|⟨x,rfl,hx⟩
  ·rw[XZ,za5]
  ·rw[XZ,za5];exact hx
theorem za8:∀(e:List V),gP (e.map XZ)=0
 |[]=>by simp[gP]
 |v::r=>by
  rw[bo,gP,za8 r]
  cases v <;> simp[XZ,m4]
def Rws.snoc:Rws->Rw->Rws
 |.nil,x=>.cons x .nil
 |.cons r rs,x=>.cons r (rs.snoc x)
def Rws.app:Rws->Rws->Rws
 |.nil,x=>x
 |.cons r rs,x=>.cons r (rs.app x)
theorem RwsAt.get{F:ac->Prop}{H:Hp}:∀ {r:Rws} {vs:List V} {i:Nat} {v:V},RwsAt F H (vs.drop i) r->vs[i]?=aa v->∃x rs,r=.cons x rs/\RwAt F H v x/\RwsAt F H (vs.drop (i+1)) rs
 |.nil,vs,i,v,h,e=>by
  unfold RwsAt at h
  have:=(bf.mp e).1
  have:=congrArg cg h
  rw[cK] at this
  simp at this
  lia
 |.cons x rs,vs,i,v,h,e=>by
  unfold RwsAt at h
  obtain⟨u,ws,e1,e2,e3⟩:=h
  have hi:=(bf.mp e).1
  have d:=gD hi
  rw[e1] at d
  have e4:vs[i]=v:=(bf.mp e).2
  rw[e4] at d
  injection d with d1 d2
  subst d1 d2
  exact⟨x,rs,rfl,e2,e3⟩
theorem RwsAt.none{F:ac->Prop}{H:Hp}{vs:List V}(h:RwsAt F H (vs.drop vs.length) r):r=.nil:=by
 rw[List.drop_length] at h
 cases r with
 |nil=>rfl
 |cons x rs =>
  unfold RwsAt at h
  obtain⟨_,_,e,_⟩:=h
  cases e
theorem zd9(h:kO v)(j:isJ v=ak):TermOk [v]:=
 ⟨λkvs=>⟨_,zcz j⟩,λu hu=>by rw[br.mp hu];exact h,by simp⟩
theorem Paired.snocP{α β:Type}{F:α->β->Prop}{x:α}{y:β}:∀ {a:List α} {b:List β},Paired F a b->F x y->Paired F (a++[x]) (b++[y])
 |_,_,.nil,h=>.cons h .nil
 |_,_,.cons a r,h=>.cons a (Paired.snocP r h)
theorem Paired.getP{α β:Type}{F:α->β->Prop}{a:List α}{b:List β}{i:Nat}{x:α}(h:Paired F a b)(e:a[i]?=aa x):∃y,b[i]?=aa y/\F x y:=by
 have hi:=(bf.mp e).1
 have l:=bL h
 exact⟨b[i],bb (by lia),yn h e (bb (by lia))⟩
end L2
namespace L2
open PySem PySem.Spec PyProof.Rows
theorem zgV{c:Nat}:∀ {a b r s:List Nat},c ∉ a->c ∉ b->a++c::r=b++c::s->a=b/\r=s
 |[],[],r,s,_,_,h=>by simpa using h
 |[],y::b,r,s,_,hb,h=>by
  simp only[cX,cE,bT] at h
  exact absurd h.1 (λz=>hb (by rw[z];exact bq))
 |x::a,[],r,s,ha,_,h=>by
  simp only[cX,cE,bT] at h
  exact absurd h.1.symm (λz=>ha (by rw[z];exact bq))
 |x::a,y::b,r,s,ha,hb,h=>by
  simp only[cE,bT] at h
  obtain⟨e1,e2⟩:=zgV (λz=>ha (bn _ z)) (λz=>hb (bn _ z)) h.2
  exact⟨by rw[h.1,e1],e2⟩
section
variable {prog:aq}{w:au}{A:aw}{E:ae->ah->Prop}{s:ah}
theorem QV{l:ac}{items:Array ae}{n j:Nat}{k:Int}{t:Tok}{v:ae}{Q:Unit->ah->Prop}(hl:s.heap.get? l=aa { cls:=.type "list",data:=.seq items n })
  (h0:0<=k) (hfit:k<2^63) (hkj:k.toNat=j) (hn:j<items.size) (hQ:Q () { s with heap:=s.heap.update l (du (·.setIfInBounds j v)) }) :
  Bf (Bg prog w) A (setItem (.ref l) (.int k t) v) Q E s:=by
 have hL:s.heap.IsList l items:=⟨_,hl,rfl,n,rfl⟩
 unfold setItem
 try with_reducible refine dY ?_
 first|refine ba (bh ?_)|skip
 refine ba (wpAny_sequenceKey hL.typeIs (by lia) ?_)
 refine ba (eE (name:=bc "__setitem__") hL.typeIs slot_list_setitem
  (dy slot_list_setitem hL.typeIs entry_list_setitem ?_ (args_list_setitem _ _ _)))
 show Bf _ _ (Builtin.List.listSubscript? (.int k t) >>= _) _ _ s
 refine ba (wpAny_listSubscript_int (fitsIndex_of h0 hfit) ?_)
 clear hfit
 obtain⟨j',rfl⟩:=Int.eq_ofNat_of_zero_le h0
 have hkj:j'=j:=hkj
 subst hkj
 have hx':items[j']?=aa items[j']:=ck hn
 show Bf _ _ ((seqItemAt l j' >>= λr=>pure (r.map (j',·))) >>= _) _ _ s
 refine ba (ba (wpAny_seqItemAt hl rfl (bh ?_)))
 rw[hx']
 refine ba (wpAny_setSeqItemAt hl rfl ?_)
 first
  |exact ba (bh (bh ⟨.none,rfl,bh hQ⟩))
  |exact bh ⟨.none,rfl,bh hQ⟩
end
theorem QW{v:V}{u:ae}(r:RelV v u):∀ {xs:List V} {us:List ae},Vals xs us->∀j:Nat,Vals (xs.set j v) (us.set j u)
 |_,_,.nil,_=>.nil
 |_,_,.cons _ t,0=>.cons r t
 |_,_,.cons a t,j+1=>.cons a (QW r t j)
section
variable {X:Cx}
abbrev zea(K:bt):R2:=λx y H Q=>∃a b xs,x=.ref a/\y=.ref b/\SqL K H a xs/\SqL K H b []/\Q (.bl (!decide (xs=[]))) H
theorem zeb(hu:X.A.units+64<cLine):OpR X (Bi .NotEq) (zea X.K):=by
 intro pins s σ H x y v u Q I rx ry h
 obtain⟨a,b,xs,rfl,rfl,ha,hb,q⟩:=h
 by_cases e:xs=[]
 ·subst e
  exact zgN hu pins s σ H _ _ v u Q I rx ry ⟨a,b,[],[],rfl,rfl,ha,hb,⟨rfl,rfl,rfl⟩,q⟩
 ·cases rx
  cases ry
  obtain⟨us,r1,p1,_⟩:=I.list ha
  obtain⟨ws,r2,p2,_⟩:=I.list hb
  cases r2
  have e1:=r1.length
  have e2:xs.length≠0:=λz=>e (fJ z)
  rw[Bk e] at q
  exact PySem.SeqAt.RcNeAt.lists_lengths p1.isList p2.isList (by simp;intro z;rw[z] at e1;exact e2 e1) (by lia) X.prog X.w X.xe _ ⟨.bl af,H,I,rfl,q⟩
end
mutual
inductive zec (H:Hp):V->PyData->Prop
 |int (i:Int):zec H (.int i) (.int i)
 |str (x:Str):zec H (.str x) (.str x)
 |lst {a:ac} {xs:List V} {ds:List PyData}:H a=aa (.lst xs)->QY H xs ds->zec H (.ref a) (.list ds)
 |tup {a:ac} {xs:List V} {ds:List PyData}:H a=aa (.tup xs)->QY H xs ds->zec H (.ref a) (.tuple ds)
inductive QY (H:Hp):List V->List PyData->Prop
 |nil:QY H [] []
 |cons {x:V} {d:PyData} {xs:List V} {ds:List PyData}:zec H x d->QY H xs ds->QY H (x::xs) (d::ds)
end
end L2
namespace L2
open PySem
abbrev QZ:RM:=zbC
end L2
namespace L2
open PySem PySem.Spec PyProof.Rows
abbrev zgi(K:bt):RC:=λxs H Q=>∃a,∃ns:List Int,xs=[.ref a]/\SqL K H a (ns.map V.int)/\Q (.int ns.sum) H
section
variable {X:Cx}
theorem zcG(hc:X.calm=af):jW X (.builtin "sum") (zgi X.K):=by
 intro pins s σ H xs us Q I r h
 obtain⟨a,ns,rfl,hq,q⟩:=h
 obtain⟨u,rfl,r1⟩:=qt r
 cases r1
 obtain⟨its,rv,p,hz⟩:=I.list hq
 have hi:IntsAre its ns:=zaQ rv
 obtain⟨ys,hx⟩:=hi.allInts.items
 have hl':s.heap.IsList a (intItems ys):=hx ▸ p.isList
 refine sum_intListG (I.ok.hd hc) hl' λh' tk t' hk=>?_
 have e1:ns=ys.toList.map (·.1):=by
  rw[<-nums_intItems,<-hx]
  exact(show numsOf its.toArray.toList=ns from hi.numsOf).symm
 have e2:preSum (numAt ys) ys.size=ns.sum:=by
  rw[preSum_eq,cj (by simp),e1]
 rw[e2]
 exact⟨.int ns.sum,H,I.kept hk,⟨_,rfl⟩,q⟩
end
section
variable {X:Cx}
open Classical in
noncomputable def zh2(K:PySem.W.Frag)(H:Hp)(d:PyData)(u:ae):Bool:=decide (∃x,RelV x u/\Dat K H x d)
open Classical in
end
def Cb(i:Int):Prop:=dz i<=1048576
theorem Cb.of{i:Int}(h:i.natAbs<2^64):Cb i:=bK (intBits_le_iff.mpr h) (by lia)
def Cw(i:Int):Prop:=dz i<=4000000
theorem Cb.w{i:Int}(h:Cb i):Cw i:=bK h (by lia)
theorem Cw.div{i k:Int}(h:Cw i):Cw (i/k):=intBits_le_of_natAbs (Int.natAbs_ediv_le_natAbs i k) h
def CMulC(i j:Int):Prop:=Cw i/\Cw j
theorem CMulC.ok{i j:Int}(h:CMulC i j):IntMulOk i j:=by
 unfold IntMulOk
 have h1:dz i<=4000000:=h.1
 have h2:dz j<=4000000:=h.2
 have e:m8 ((dz i:Int)+(dz j:Int))=ak:=by
  unfold m8
  rw[decide_eq_false_iff_not]
  have:(bitsLine:Int)=134217728:=by lia
  lia
 rw[e];simp
section
variable {X:Cx}
theorem zfC:OpR X (binaryOp .Mult) (rI CMulC λi j=>.int (i*j)):=opI λ_ _ _ _ _ _ _ hc q=>mul_int q hc.ok
end
open Att PySem.W PySem.Calls in
theorem zed{l:og}{n k:Nat}{q:aq}{loose:List Str}{XP:(Str->Option ae)->av->Prop}{YP:au->av->Prop}{d:DefRec}{K:Params->bt}{CX:au->CXT}{sp:au->Sp}{x:Str}
  (hn:l.most=aa n) (hn2:n<=Bb) (hdf:d.params.defaults=[]) (hr:Room k callerA) (hY:∀(w:au) (h:av),YP w h->(K w.params).In h)
  (F:∀(w:au) (mg:Str->Option ae) (fa:ac) (h:av),(K w.params).In h->h.Ns Bd mg->mg d.name=aa (.ref fa) ->
   ∃fd:Bc,(∀(s:ah) (u:ae),BindsTo s fd ⟨[u],[]⟩ [(x,u)]) /\
    ∀base:av,(K w.params).In base->base.Ns Bd mg->FnOk l.prog w (K w.params) mg base (CX w) k fa fd [x] (sp w))
  (hsp:∀(w:au) (H:Hp) (a:ac) (ns:List Int),ns.length<=n->(∀i∈ns,Cb i)->zaV H->SqL (K w.params) H a (ns.map V.int)->sp w [.ref a] H (λv _=>v=.bl af) λ_ _ _=>False)
  (hCX:∀(w:au) (H:Hp) (s:ah) (e:ae) (s':ah),CX w [] H s (λ_ _ _=>False) e s'->False) :
  pI q loose XP YP l.row.toRowW d [] (λf vs=>lO f vs):=by
 intro w s₀ s₁ mg mb G Y fa o pm cd doc dV kV ho hd hcd hD hmg hg args vals as hpre hlay hrd hwl hlo
 obtain rfl:dV=.none:=Dflts.none hD hdf
 obtain rfl:kV=.none:=Dflts.noKw hD
 obtain⟨a,vs,ns,rfl,rfl,hobj,hints,hlen⟩:=Jj hn hpre hwl
 have hb:∀i∈ns,Cb i:=λi hi=>intBits_le_of_layable (layable_of_mem (lay0_int (layableW_item (layableW_arg hlay _ bq) _ (bE.mpr ⟨i,hi,rfl⟩))) bq)
 have KX:=hY w _ Y
 obtain⟨fd,hbd,hF⟩:=F w mg fa _ KX G.T.g hmg
 refine enter_call (fQ (Qt KX G.T.g G.T.b G.T.builtins G.T.nolimit hg hobj hints (bK hlen hn2) hr hF hbd (λH hO hS=>hsp w H a ns hlen hb hO hS) λH e s'=>hCX w H s₁ e s') λr s' hq=>?_)
 obtain⟨rfl,h2,h3,h4⟩:=hq
 exact⟨.inl ⟨.bool af,.bool af,[],rfl,λ_=>rfl,.bool af,Jk l _,λ_=>⟨fo,λ_ hm=>(nomatch hm)⟩⟩,h2,h3,h4⟩
theorem walk_ofXB{l:og}{n k:Nat}{q:aq}{loose:List Str}{XP:(Str->Option ae)->av->Prop}{YP:au->av->Prop}{d:DefRec}{K:Params->bt}{sp:bt->Sp}{x:Str}
  (hn:l.most=aa n) (hn2:n<=Bb) (hdf:d.params.defaults=[]) (hr:Room k callerA) (hY:∀(w:au) (h:av),YP w h->(K w.params).In h)
  (F:∀(w:au) (mg:Str->Option ae) (fa:ac) (h:av),(K w.params).In h->h.Ns Bd mg->mg d.name=aa (.ref fa) ->
   ∃fd:Bc,(∀(s:ah) (u:ae),BindsTo s fd ⟨[u],[]⟩ [(x,u)]) /\
    ∀base:av,(K w.params).In base->base.Ns Bd mg->FnOk l.prog w (K w.params) mg base (CX1 l.prog w) k fa fd [x] (sp (K w.params)))
  (hsp:∀(K:bt) (H:Hp) (a:ac) (ns:List Int),ns.length<=n->(∀i∈ns,Cb i)->zaV H->SqL K H a (ns.map V.int)->sp K [.ref a] H (λv _=>v=.bl af) λ_ _ _=>False) :
  pI q loose XP YP l.row.toRowW d [] (λf vs=>lO f vs) :=
 zed (K:=K) (CX:=λw=>CX1 l.prog w) (sp:=λw=>sp (K w.params)) hn hn2 hdf hr hY F (λw H a ns h1 hb h2 h3=>hsp (K w.params) H a ns h1 hb h2 h3) λ_ _ _ _ _ z=>by
  obtain⟨_,_,_,_,_,_,_,_,_,y⟩:=z
  exact y
section
variable {X:Cx}
theorem Jy{P:aq}{w:au}:∀ {es:List DictEntry} {vs:List (Key×ae)} {i:Nat} {e:DictEntry},Pairs (yk P w) es vs->es[i]?=aa e->∃k u,vs[i]?=aa (k,u)/\WH k e.key=af
 |_,_,i,_,.nil,h=>by simp at h
 |_,_,0,_,.cons h1 _ _,h=>by
  simp only[bj,bC] at h
  subst h
  exact⟨_,_,rfl,h1⟩
 |_,_,i+1,_,.cons _ _ t,h=>by
  obtain⟨k,u,a,b⟩:=Jy (i:=i) t (by simpa using h)
  exact⟨k,u,by simpa using a,b⟩
end
section
variable {K:Type} [DecidableEq K]
def yd(xs:List (K×ac×ae))(k:K):List (K×ac×ae):=xs.filter λx=>decide (x.1≠k)
theorem za9:∀ {xs:List (K×ac×ae)} {k:K},k ∉ xs.map (·.1)->yd xs k=xs:=λ{xs k} h=>nU.mpr λx hx=>Bj λe=>h (bE.mpr ⟨x,hx,e⟩)
theorem zee:∀ {xs:List (K×ac×ae)} {j:Nat} {k:K} {p:ac×ae},(xs.map (·.1)).Nodup->xs[j]?=aa (k,p)->xs.eraseIdx j=yd xs k
 |[],j,k,p,_,h=>by simp at h
 |x::r,0,k,p,n,h=>by
  rw[bo,bZ] at n
  simp only[bj,bC] at h
  subst h
  show r=List.filter _ ((k,p)::r)
  rw[fE (by simp)]
  exact(za9 n.1).symm
 |x::r,j+1,k,p,n,h=>by
  rw[bo,bZ] at n
  simp only[bz] at h
  have m:k∈r.map (·.1):=bE.mpr ⟨(k,p),bW h,rfl⟩
  have ne:x.1≠k:=λe=>n.1 (e ▸ m)
  show x::r.eraseIdx j=List.filter _ (x::r)
  rw[fG (by simp[ne]),zee n.2 h]
  rfl
end
theorem Xw{α β:Type}(f:α->β):∀(l:List α) (j:Nat),(l.map f).eraseIdx j=(l.eraseIdx j).map f
 |[],_=>rfl
 |_::_,0=>rfl
 |a::l,j+1=>by rw[bo,gN,gN,bo,Xw f l j]
theorem KT.dropT{H:Hp}(r:KT H kvs xs)(k:List Key):KT H (ye kvs k) (yd xs k):=by
 induction r with
 |nil=>exact .nil
 |@cons p q ps qs h t ih =>
  unfold ye yd
  by_cases e:p.1=k
  ·rw[fE (by simp[e]),fE (by simp[<-h.1,e])]
   exact ih
  ·rw[fG (by simp[e]),fG (by simp[<-h.1,e])]
   exact .cons h ih
section
variable {prog:aq}{w:au}{K:Type} [DecidableEq K]{knd:HeapKind prog w K}{A:aw}{E:ae->ah->Prop}{s:ah}{d a:ac}{xs:List (K×ac×ae)}{k:K}
theorem Ks{Q:Option DictEntry->ah->Prop}(hu:knd.room A)(hkey:knd.is s.heap k a)(hm:s.heap.DictOfH knd d xs)(hp:atKey xs k=aa p)
  (hsome:∀e:DictEntry,e.val=p.2->∀h',h'.DictOfH knd d (yd xs k)->cV d s.heap h'->Q (aa e) { s with heap:=h',toks:=s.toks+knd.draws k }) (hsz:xs.length<=Bb) :
  Bf (Bg prog w) A (nI d (.ref a)) Q E s:=by
 obtain⟨o,es,ep,ho,hc,hd,he,his,hn⟩:=hm
 have hes:es.size=xs.length:=nh he
 unfold nI
 try with_reducible refine dY ?_
 refine ba (knd.pyHash hu hkey ?_)
 refine ba (wpAny_dictFind_heap (s:={ s with toks:=s.toks+knd.draws k }) hu hkey ho hd he his hn ?_ ?_)
 ·intro hno
  rw[atKey_none_of_get hno] at hp
  cases hp
 ·intro j q hj
  have e1:=atKey_of_get hn hj
  rw[hp] at e1
  cases e1
  refine ba (dG (s:={ s with toks:=s.toks+knd.draws k }) ho hd ?_)
  rw[entry_at he j,hj]
  refine ba (nJ (hz:=by lia) (s:={ s with toks:=s.toks+knd.draws k }) ho hd (bh (hsome (entryOfKey knd (k,p)) rfl _ ⟨_,_,ep+1,eY _ ho (nV (gp hd _)),hc.mapDictKeys _,gp hd _,?_,?_,?_⟩ (dC ..))))
  ·rw[<-zee hn hj,<-Xw,<-he]
   obtain⟨l⟩:=es
   simp
  ·intro x hx
   exact knd.keeps (his x (cH.mp hx).1) ho hd (dC ..)
  ·exact gQ (iL _ dD) hn
theorem zba :MeetsIn prog w (Builtin.«dict.pop» ⟨[.ref d,.ref a],[]⟩) (λA R s=>knd.room A.in1/\∃k xs p,knd.is s.heap k a/\s.heap.DictOfH knd d xs/\xs.length<=Bb/\atKey xs k=aa p /\
   ∀h',h'.DictOfH knd d (yd xs k)->cV d s.heap h'->R (.ok (.ret p.2)) { s with heap:=h',toks:=s.toks+knd.draws k }):=
 .of_wp λA R s ⟨hu,k,xs,p,hkey,hm,hz,hp,h⟩=>by
  unfold Builtin.«dict.pop»
  refine ba ?_
  unfold lj
  refine ba (eX hm.typeIs ?_)
  show Bf _ _ (pure (d,bG a,ai)) _ _ s
  refine bh ?_
  have kp:(keyPart (bG a)).isSome=ak:=rfl
  simp only[kp,cx,if_false]
  obtain⟨o,es,ep,ho,hc,hd,he,his,hn⟩:=id hm
  refine ba (dG ho hd ?_)
  refine ba (bh ?_)
  have ne:es.isEmpty=ak:=by
   have l1:=nh he
   cases xs with
   |nil=>simp[atKey] at hp
   |cons x r =>
    rw[Array.isEmpty_eq_false_iff]
    intro z
    rw[z] at l1
    simp at l1
  simp only[ne,cx,if_false]
  refine ba (Ks hu hkey hm hp (λe ev h' hm' hs'=>?_) hz)
  simp only[oo,cx,if_false]
  exact ba (wpAny_letGo (bh ⟨e.val,rfl,by rw[ev];exact h h' hm' hs'⟩))
theorem We{dflt:ae}{Q:ae->ah->Prop}(hu:knd.room A)(hkey:knd.is s.heap k a)(hm:s.heap.DictOfH knd d xs)
  (h1:∀p,atKey xs k=aa p->Q p.2 { s with toks:=s.toks+knd.draws k })
  (h2:atKey xs k=ai->∀h',h'.DictOfH knd d (storedH xs k a dflt)->cV d s.heap h'->Q dflt { s with heap:=h',toks:=s.toks+knd.draws k }) (hsz:xs.length<=Bb) :
  Bf (Bg prog w) A (dictSetDefault d (.ref a) dflt) Q E s:=by
 obtain⟨o,es,ep,ho,hc,hd,he,his,hn⟩:=hm
 have hes:es.size=xs.length:=nh he
 unfold dictSetDefault
 try with_reducible refine dY ?_
 refine ba (knd.pyHash hu hkey ?_)
 refine ba (wpAny_dictFind_heap (s:={ s with toks:=s.toks+knd.draws k }) hu hkey ho hd he his hn ?_ ?_)
 ·intro hno
  have hnot:k ∉ xs.map (·.1):=not_mem_keys_of_get hno
  have e0:=atKey_none_of_get hno
  refine ba (oG (ba (nJ (hz:=by lia) (s:={ s with toks:=s.toks+knd.draws k }) ho hd (bh (h2 e0 _ ⟨_,_,ep+1,eY _ ho (nV (gp hd _)),
   hc.mapDictKeys _,gp hd _,?_,?_,?_⟩ (dC ..))))))
  ·rw[storedH_new e0]
   simp[he,entryOfKey]
  ·rw[storedH_new e0]
   intro x hx
   rcases bx.mp hx with hx|hx
   ·exact knd.keeps (his x hx) ho hd (dC ..)
   ·simp only[br] at hx
    subst hx
    exact knd.keeps hkey ho hd (dC ..)
  ·rw[storedH_new e0]
   rw[bM,dH]
   refine⟨hn,by simp,?_⟩
   intro x hx y hy
   simp only[bo,lB,br] at hy
   subst hy
   exact λe=>hnot (e ▸ hx)
 ·intro j p hj
  refine ba (dG (s:={ s with toks:=s.toks+knd.draws k }) ho hd ?_)
  rw[entry_at he j,hj]
  exact ba (oG (bh (h1 p (atKey_of_get hn hj))))
theorem VH(hd:(d==sysModules)=ak)(dflt:ae):MeetsIn prog w (Builtin.«dict.setdefault» ⟨[.ref d,.ref a,dflt],[]⟩) (λA R s=>knd.room A.in1/\∃k xs,knd.is s.heap k a/\s.heap.DictOfH knd d xs/\xs.length<=Bb /\
   (∀p,atKey xs k=aa p->R (.ok (.ret p.2)) { s with toks:=s.toks+knd.draws k }) /\
   (atKey xs k=ai->∀h',h'.DictOfH knd d (storedH xs k a dflt)->cV d s.heap h'->R (.ok (.ret dflt)) { s with heap:=h',toks:=s.toks+knd.draws k })):=
 .of_wp λA R s ⟨hu,k,xs,hkey,hm,hz,h1,h2⟩=>by
  unfold Builtin.«dict.setdefault»
  refine ba ?_
  unfold lj
  refine ba (eX hm.typeIs ?_)
  show Bf _ _ (pure (d,bG a,aa dflt)) _ _ s
  refine bh ?_
  show Bf _ _ (if (d==sysModules)=af then _ else (dictSetDefault d (.ref a) dflt >>= _)) _ _ s
  rw[aj (by rw[hd];exact bJ)]
  exact ba (We hu hkey hm (λp hp=>bh ⟨_,rfl,h1 p hp⟩) (λhn h' hm' hs'=>bh ⟨dflt,rfl,h2 hn h' hm' hs'⟩) hz)
end
section
variable {X:Cx}{pins:List (ac×Obj)}{σ:St}{H:Hp}{s:ah}{a b:ac}{kvs:List (List Key×V)}{k:List Key}{A:aw}{E:ae->ah->Prop}
theorem zgW{Q:ae->ah->Prop}(hu:A.units+1<cLine)(I:Inv X pins σ H s)(e:H a=aa (.dT kvs))(eb:H b=aa (.tup (k.map kV)))(l:z4 kvs k=aa v)
  (h:∀w' s',Inv X pins σ (upd H a (.dT (ye kvs k))) s'->RelV v w'->Q w' s'):Bf (Bg X.prog X.w) A (call (.builtin "dict.pop") [.ref a,.ref b]) Q E s:=by
 obtain⟨z,hd,xs,rel,dd⟩:=Qp I.hok e
 have hz:xs.length<=Bb:=by rw[<-bL rel];exact z
 have rv:=rel.val k
 rw[l] at rv
 obtain⟨w',hw,rw'⟩:=RelO.some_of rv
 obtain⟨p,hp,rfl⟩:=b6.mp hw
 refine ir ef dd.typeIs gT (mh _ _) (zba (knd:=tupleKind (yk X.prog X.w))) ⟨dL hu,k,xs,p,kJ I.hok eb,dd,hz,hp,λh' dd' hs=>h _ _ ?_ rw'⟩
 obtain⟨q,es,ep,hq,h2,h3,h4,_,h5⟩:=dd'
 refine Zy I (by rw[e];exact eu) hs ⟨q,hq⟩ ⟨bK (Qo kvs k) z,hd,_,(rel.dropT k).keeps λc ys ec=>?_,q,es,ep,hq,h2,h3,h4,h5⟩
 rw[zi (zG ec e (by lia))]
 exact ec
theorem zcH{Q:ae->ah->Prop}(hu:A.units+1<cLine)(I:Inv X pins σ H s)(e:H a=aa (.dT kvs))(eb:H b=aa (.tup (k.map kV)))(rd:RelV d r)(hl:kvs.length<Bb)
  (h1:∀v w' s',z4 kvs k=aa v->Inv X pins σ H s'->RelV v w'->Q w' s') (h2:∀s',z4 kvs k=ai->Inv X pins σ (upd H a (.dT (yA kvs k d))) s'->Q r s'):Bf (Bg X.prog X.w) A (call (.builtin "dict.setdefault") [.ref a,.ref b,r]) Q E s:=by
 obtain⟨z,hd,xs,rel,dd⟩:=Qp I.hok e
 have hz:xs.length<=Bb:=by rw[<-bL rel];exact z
 have rv:=rel.val k
 refine ir iQ dd.typeIs PySem.F.entry_dict_setdefault (PySem.F.args_dict_setdefault_3 _ _ _) (VH (knd:=tupleKind (yk X.prog X.w)) hd r) ⟨dL hu,k,xs,kJ I.hok eb,dd,hz,λp hp=>?_,λhn h' dd' hs=>?_⟩
 ·rw[hp] at rv
  cases hv:z4 kvs k with
  |none=>rw[hv] at rv;exact rv.elim
  |some v=>rw[hv] at rv;exact h1 v _ _ hv (I.tok _) rv
 ·rw[hn] at rv
  have hv:z4 kvs k=ai:=by
   cases hv:z4 kvs k with
   |none=>rfl
   |some v=>rw[hv] at rv;exact rv.elim
  refine h2 _ hv ?_
  obtain⟨q,es,ep,hq,g2,g3,g4,_,g5⟩:=dd'
  have hl2:(yA kvs k d).length<=Bb:=by have:=xS kvs k d;lia
  refine Zy I (by rw[e];exact eu) hs ⟨q,hq⟩ ⟨hl2,hd,_,(rel.put k eb rd).keeps λc ys ec=>?_,q,es,ep,hq,g2,g3,g4,g5⟩
  rw[zi (zG ec e (by lia))]
  exact ec
end
def zbb(td ty:TE):TE:=λσ H Q=>td σ H λx H1=>∃a,x=.ref a/\IsD H1 a/\ty σ H1 λy H2=>∃kvs k b v,H2 a=aa (.dT kvs)/\y=.ref b/\H2 b=aa (.tup (k.map kV))/\z4 kvs k=aa v/\Q v (upd H2 a (.dT (ye kvs k)))
def zef(td ty tx:TE):TE:=λσ H Q=>td σ H λx H1=>∃a,x=.ref a/\IsD H1 a/\ty σ H1 λy H2=>tx σ H2 λz H3=>∃kvs k b,H3 a=aa (.dT kvs)/\y=.ref b/\H3 b=aa (.tup (k.map kV))/\kvs.length<Bb /\
 (∀v,z4 kvs k=aa v->Q v H3)/\(z4 kvs k=ai->Q z (upd H3 a (.dT (yA kvs k z))))
section
variable {X:Cx}{o e f:ay}{apos cpos:Pos}{td ty tx:TE}
theorem zeg(hu:X.A.units+1<cLine)(ho:PE X o td)(he:PE X e ty)(m:M1 X o "pop" apos e cpos):PE X (.Call (.Attribute o "pop" apos) [e] [] cpos) (zbb td ty):=by
 intro pins s σ H Q I h
 refine fY m.base m.few m.line dM ef iy (thn (ho pins s σ H _ I h) λu s1 ⟨x,H1,I1,rx,a,ex,d,q1⟩=>?_)
 subst ex;obtain rfl:u=bG a:=rx
 obtain⟨t1,t2,_⟩:=Xm I1 d
 refine⟨t1,t2,?_⟩;rw[m.trees]
 refine c8 rfl (dO (cS (thn (he pins s1 σ H1 _ I1 q1) λiv s2 ⟨y,H2,I2,ry,kvs,k,b,v,ea,ey,eb,l,q2⟩=>eJ ?_)))
 subst ey
 cases (show iv=bG b from ry)
 exact zgW hu I2 ea eb l λw' s3 I3 rw'=>⟨v,_,I3,rw',q2⟩
theorem zeh(hu:X.A.units+1<cLine)(ho:PE X o td)(he:PE X e ty)(hf:PE X f tx)(m:M2 X o "setdefault" apos e f cpos):PE X (.Call (.Attribute o "setdefault" apos) [e,f] [] cpos) (zef td ty tx):=by
 intro pins s σ H Q I h
 refine fY m.base m.few m.line dM iQ PySem.F.type_dict_setdefault (thn (ho pins s σ H _ I h) λu s1 ⟨x,H1,I1,rx,a,ex,d,q1⟩=>?_)
 subst ex;obtain rfl:u=bG a:=rx
 obtain⟨t1,t2,_⟩:=Xm I1 d
 refine⟨t1,t2,?_⟩;rw[m.trees]
 refine c8 rfl (dO (cS (thn (he pins s1 σ H1 _ I1 q1) λiv s2 ⟨y,H2,I2,ry,q2⟩ =>
  cS (thn (hf pins s2 σ H2 _ I2 q2) λfv s3 ⟨z,H3,I3,rz,kvs,k,b,ea,ey,eb,hl,q3,q4⟩=>eJ ?_))))
 subst ey
 cases (show iv=bG b from ry)
 exact zcH hu I3 ea eb rz hl (λv w' s4 hv I4 rw'=>⟨v,_,I4,rw',q3 v hv⟩) λs4 hn I4=>⟨z,_,I4,rz,q4 hn⟩
end
abbrev qQ:RM:=λx vs H Q=>∃(l:ac) (xs:List V) (k:Nat) (y:V),x=.ref l/\vs=[.int k,y]/\H l=aa (.lst xs)/\k<=xs.length/\xs.length<1000000/\Q .non (upd H l (.lst (xs.take k++y::xs.drop k)))
abbrev jo:RM:=λx vs H Q=>∃(l:ac) (ns:List Int) (i:Int),x=.ref l/\vs=[.int i]/\H l=aa (.lst (ns.map V.int))/\i∈ns/\Q .non (upd H l (.lst ((ns.erase i).map V.int)))
theorem Vals.takeV:∀(k:Nat) {xs:List V} {us:List ae},Vals xs us->Vals (xs.take k) (us.take k)
 |0,_,_,_=>by rw[List.take_zero,List.take_zero];exact .nil
 |_+1,_,_,.nil=>.nil
 |k+1,_,_,.cons h r=>.cons h (Vals.takeV k r)
theorem Vals.dropV:∀(k:Nat) {xs:List V} {us:List ae},Vals xs us->Vals (xs.drop k) (us.drop k)
 |0,_,_,h=>h
 |_+1,_,_,.nil=>.nil
 |k+1,_,_,.cons _ r=>Vals.dropV k r
section
variable {X:Cx}
theorem Jz:MtM X "list.insert" qQ:=by
 intro pins s σ H x vs v us Q I rx rv h
 obtain⟨l,xs,k,y,rfl,rfl,hH,hk,hz,q⟩:=h
 cases rx
 cases rv with
 |cons r1 rr =>
  obtain⟨u,rfl,ru⟩:=(show Vals [y] _ from rr).one
  obtain⟨t,rfl⟩:=r1
  obtain⟨z,its,n,r,hl,e⟩:=I.lstM hH
  have h1:(1000000:Nat)<Bb:=by rw[bS];decide
  obtain⟨i,hi⟩:∃i:Int,i=k:=⟨_,rfl⟩
  rw[<-hi]
  have hc:¬ (!Builtin.List.listFitsIndex i)=af:=by rw[fitsIndex_both (by lia) (by lia)];exact bJ
  have hs:its.toArray.size<=Bb:=by rw[bF];lia
  have M:=AutoSeq1.list_insert_list_int_val_1 l its.toArray n i t u hc hs
  refine ic F.slot_list_insert ⟨_,e,rfl⟩ F.entry_list_insert (F.args_list_insert_3 _ _ _) M ⟨e,?_⟩
  refine⟨.non,_,I.lset (its':=its.take k++u::its.drop k) hH e ?_ ((r.takeV k).append (.cons ru (r.dropV k))) ?_,rfl,q⟩
  ·have hk2:k<=its.length:=by lia
   subst hi
   have hn:¬ ((k:Int)<0):=by lia
   simp[dv hk2,hn]
   rw[cj (by rw[cK];lia)]
  ·rw[bw,bR,cR,cK];lia
theorem zbR:∀ {ns:List Int} {its:List ae},Vals (ns.map V.int) its->∀(m:Nat) (v:ae),its[m]?=aa v->∃i t,ns[m]?=aa i/\v=.int i t
 |[],_,.nil,m,v,h=>by simp at h
 |i::ns,_,.cons h r,0,v,e=>by
  simp only[bj,bC] at e
  subst e
  obtain⟨t,rfl⟩:=h
  exact⟨i,t,rfl,rfl⟩
 |i::ns,_,.cons h r,m+1,v,e=>by simpa using zbR r m v (by simpa using e)
def isI(k:Int):ae->Bool
 |.int a _=>a==k
 |_=>ak
theorem JA:MtM X "list.remove" jo:=by
 intro pins s σ H x vs v us Q I rx rv h
 obtain⟨l,ns,i,rfl,rfl,hH,hi,q⟩:=h
 cases rx
 obtain⟨u,rfl,ru⟩:=rv.one
 obtain⟨t,rfl⟩:=ru
 obtain⟨z,its,n,r,hl,e⟩:=I.lstM hH
 rw[bd] at hl z
 have hj:ns.idxOf i<ns.length:=List.idxOf_lt_length_iff.mpr hi
 have gt:∀m (hm:m<its.toArray.size),∃(h2:m<ns.length) (t':Tok),its.toArray[m]=.int ns[m] t':=λm hm=>by
  rw[bF] at hm
  obtain⟨i',t',h1,h2⟩:=zbR r m its[m] (bb hm)
  have h3:m<ns.length:=by lia
  rw[bb h3] at h1
  refine⟨h3,t',?_⟩
  rw[bQ h1,<-h2]
  simp
 refine ic F.slot_list_remove ⟨_,e,rfl⟩ F.entry_list_remove (F.args_list_remove_2 _ _)
  (MeetsSeq.list_remove l its.toArray n (.int i t) (isI i) (λy hy=>?_) (ns.idxOf i) (by rw[bF];lia) ?_ (λm hm hlt=>?_) (by rw[bF];lia)) ⟨e,?_⟩
 ·obtain⟨m,hm,rfl⟩:=Array.mem_iff_getElem.mp hy
  obtain⟨h2,t',e2⟩:=gt m hm
  rw[e2]
  exact MeetsSeq.EqGives.int _ _ _ _
 ·obtain⟨h2,t',e2⟩:=gt (ns.idxOf i) (by rw[bF];lia)
  rw[e2]
  show (ns[ns.idxOf i]==i)=af
  rw[List.getElem_idxOf hj]
  exact beq_self_eq_true i
 ·obtain⟨h2,t',e2⟩:=gt m hm
  rw[e2]
  show (ns[m]==i)=ak
  exact List.not_of_lt_findIdx (p:=λy=>y==i) (xs:=ns) (i:=m) hlt
 ·have ee:ns.erase i=ns.eraseIdx (ns.idxOf i):=List.erase_eq_eraseIdx_of_idxOf rfl
  rw[ee] at q
  refine⟨.non,_,I.lset (its':=its.eraseIdx (ns.idxOf i)) hH e ?_ (by rw[<-Xw];exact r.eraseIdx _) ?_,rfl,q⟩
  ·show its.toArray.eraseIdxIfInBounds _=_
   rw[ie]
  ·rw[bd]
   have:=Jh ns (ns.idxOf i)
   lia
end
def zcI(H:Hp)(y:V)(kv:List Key×V):Prop:=∃p,y=.ref p/\H p=aa (.tup (kv.1.map kV))
abbrev zei:RC:=λvs H Q=>∃a kvs,vs=[.ref a]/\H a=aa (.dT kvs)/\∀l ys,H l=ai->Paired (zcI H) ys kvs->Q (.ref l) (upd H l (.lst ys))
section
variable {X:Cx}
theorem X0{H:Hp}{es:Array DictEntry}:∀(kvs:List (List Key×V)) (vs:List ae) (j:Nat),vs.length=kvs.length->(∀i v,vs[i]?=aa v->∃e,es[j+i]?=aa e/\v=e.key) ->
  (∀(i:Nat) (en:DictEntry) (kv:List Key×V),es[j+i]?=aa en->kvs[i]?=aa kv->∃p,en.key=.ref p/\H p=aa (.tup (kv.1.map kV)))->∃ys,Vals ys vs/\Paired (zcI H) ys kvs
 |[],[],_,_,_,_=>⟨[],.nil,.nil⟩
 |[],v::vs,_,hl,_,_=>by simp at hl
 |kv::kvs,[],_,hl,_,_=>by simp at hl
 |kv::kvs,v::vs,j,hl,h1,h2=>by
  obtain⟨e,he,rfl⟩:=h1 0 v rfl
  obtain⟨p,hp,hH⟩:=h2 0 e kv he rfl
  obtain⟨ys,r1,r2⟩:=X0 (es:=es) kvs vs (j+1) (by simpa using hl) (λi u hu=>by rw[oq,Nat.add_comm 1 i];exact h1 (i+1) u (by simpa using hu)) (λi en kv' he' hk=>h2 (i+1) en kv' (by rw[<-oq,Nat.add_right_comm];exact he') (by simpa using hk))
  exact⟨.ref p::ys,.cons hp r1,.cons ⟨p,rfl,hH⟩ r2⟩
theorem W8(hc:X.calm=af):jW X (.type "list") zei:=by
 intro pins s σ H vs us Q I r0 h
 obtain⟨a,kvs,rfl,ha,q⟩:=h
 obtain⟨u,rfl,ru⟩:=qt r0
 cases ru
 have hh:X.A.handled=ai:=I.ok.hd hc
 obtain⟨z,lo,_⟩:=Qp I.hok ha
 obtain⟨es,ep,rd,hes,hen⟩:=zd0 I ha
 refine W.kdl_call (Ki (ep:=ep) (es:=es) lo) hh rd (by rw[hes];exact z) λh' tk acc c hk hD hi=>?_
 obtain⟨ys,r1,r2⟩:=X0 (H:=H) (es:=es) kvs acc.toList 0 (by rw[b8,hi.1,hes]) (λi v hv=>by
   rw[oS]
   obtain⟨e,h1,h2⟩:=hi.2 i v (by rw[<-cL];exact hv)
   exact⟨e,h1,h2⟩) (λi en kv he hk=>by
   rw[oS] at he
   obtain⟨p,g1,g2,_⟩:=hen i en kv he hk
   exact⟨p,g1,g2⟩)
 have I2:Inv X pins σ (upd H s.heap.objs.size (.lst ys)) { s with heap:=h',toks:=tk }:=I.laid (a:=s.heap.objs.size) (o:=.lst ys) (t':=tk) hk (bi _)
  ⟨by have:=bL r2;lia,acc.toList,c,r1,by rw[Array.toArray_toList];exact hD⟩
 exact⟨.ref s.heap.objs.size,_,I2,rfl,q _ ys (I.hok.fresh (bi _)) r2⟩
end
structure FunD(K:bt)(x qual:Str)(st:ax)(f:ac)(fd:Bc):Prop where
 ex:∃(oc:ae) (od:Option ac) (dV kV doc pm:ae) (an:Option ac) (cdv ct:ae) (osl:Array (Option ae)),fd=gS x qual (yQ st) (yg st) (zj st) dV kV doc pm an cdv ct/\K.lookup f=aa ⟨oc,od,.func fd,osl⟩/\gF K cdv qual=af
 kp:dJ K (.ref f)=af
section
variable {P:aq}{w:au}{K:bt}{mg:Str->Option ae}{base:av}{x qual:Str}{st:ax}{f:ac}{fd:Bc}{N ps:List Str}{k:Nat}{sp:Sp}
theorem FunD.ok1(F:FunD K x qual st f fd)(S:FnScope N ps (zj st))(len:∀vs H Q E,sp vs H Q E->vs.length=ps.length)
  (hbody:∀(cdv:ae) (A:aw) (outer:List Env) (s:ah) (H:Hp) (vs:List V) (Q:VK) (E:XK),Room k (A.deeper (envOfC qual (zj st) s.heap.objs.size f cdv))->sp vs H Q E->∃t,PSs (qC (CX1 P w) P w K mg base N qual (zj st) f cdv A outer s H E) (yg st) t/\t { nx:=λ_ H'=>Q .non H',rt:=Q } (start N vs) H):FnOk P w K mg base (CX1 P w) (k+1) f fd ps sp:=by
 obtain⟨oc,od,dV,kV,doc,pm,an,cdv,ct,osl,rfl,lk,hcd⟩:=F.ex
 exact zga lk hcd S len λA outer s H vs Q E hr hsp=>hbody cdv A outer s H vs Q E hr hsp
theorem FunD.ok0(F:FunD K x qual st f fd)(S:FnScope N ps (zj st))(len:∀vs H Q E,sp vs H Q E->vs.length=ps.length)
  (hbody:∀(cdv:ae) (A:aw) (outer:List Env) (s:ah) (H:Hp) (vs:List V) (Q:VK) (E:XK),Room k (A.deeper (envOfC qual (zj st) s.heap.objs.size f cdv))->sp vs H Q E->∃t,PSs (qC (CX1 P w) P w K mg base N qual (zj st) f cdv A outer s H E).nox (yg st) t/\t { nx:=λ_ H'=>Q .non H',rt:=Q } (start N vs) H):FnOk P w K mg base (CX1 P w) (k+1) f fd ps sp :=
 F.ok1 S len λcdv A outer s H vs Q E hr h=>let ⟨t,a,b⟩:=hbody cdv A outer s H vs Q E hr h;⟨t,a.nox,b⟩
theorem zbS{od an:Option ac}{osl:Array (Option ae)}{dV kV doc pm cdv ct:ae}(l:K.lookup f=aa ⟨oc,od,.func (gS x qual (yQ st) (yg st) (zj st) dV kV doc pm an cdv ct),osl⟩)
  (c:gF K cdv qual=af) (k:dJ K (.ref f)=af):FunD K x qual st f (gS x qual (yQ st) (yg st) (zj st) dV kV doc pm an cdv ct):=⟨⟨oc,od,dV,kV,doc,pm,an,cdv,ct,osl,rfl,l,c⟩,k⟩
end
section
variable {X:Cx}{o value:ay}{f:Str}{pos pos':Pos}{ta:TE}{tx:EXK->TE}
def zgj(K:bt)(ta:TE)(tx:EXK->TE)(f:Str)(EX:EXK):TS:=xF K ta (tx EX) f
theorem zfD(ha:PE X.nox o ta)(hv:PEX X value tx)(hs:swapsWith value (aa (.Attribute o f pos')) pos.line X.env=pure ak):PSX X (.Assign [.Attribute o f pos'] value pos) (zgj X.K ta tx f):=by
 intro pins s σ H D EX I h
 refine ia (thn (hv pins s σ H _ EX I h) λu s1 ⟨y,H1,I1,ry,q⟩=>dE (ha pins s1 σ H1 _ (I1.wish _) q) (λov s2 ⟨x,H2,I2',rx,a,C,dx,fs,ex,ea,c,n,l,q2⟩=>?_) λ_ _ z=>cY z) hs
 subst ex
 obtain rfl:ov=bG a:=rx
 exact Z6 I2'.unwish ea c n l ry λs3 I3=>⟨σ,_,I3,q2⟩
end
def zgk(K:bt)(tb:EXK->TS)(C1 C2:ac)(th:TS):TS:=λD σ H=>tb (λcls σ1 H1=>∃C,cls=.ref C/\pi K (.ref C) [.ref C1,.ref C2]=aa af/\th D σ1 H1) D σ H
theorem zej(x:Heap.FlyingW base l e cls a0 h)(o:Obj):Heap.FlyingW base l e cls a0 (h.push o):=by
 obtain⟨f1,f2,f3,oe,vs,T,oT,ts,a1,a2,a3,a4,a5,a6,a7,a8,a9⟩:=x
 exact⟨λb u q=>bg _ (f1 b u q),f2,f3.of_keeps (λb u q _=>⟨u,bg _ q,rfl⟩),oe,vs,T,oT,ts,bg _ a1,a2,a3,a4,a5,a6,bg _ a7,a8,a9⟩
section
variable {X:Cx}{st b₀:ax}{suite:List ax}{tb:EXK->TS}{th:TS}{c1 c2:Str}{C1 C2:ac}{np np2 hpos tpos pos:Pos}{x1:Nat}
theorem zfE(hst:X.stack=X.env::X.outer/\X.env.frame=aa X.env.locals)(hex:X.ex=[])(hb:PSX X st tb)(hg1:Gl X c1)(hm1:X.mg c1=aa (.ref C1))(hg2:Gl X c2)(hm2:X.mg c2=aa (.ref C2))
  (hs:∀e,PSs (X.sub e) (b₀::suite) th) (hdb1:(c1==("__debug__":Str))=ak:=by lia) (hdb2:(c2==("__debug__":Str))=ak:=by lia) :
  PS X (.Try [st] [.ExceptHandler (aa (.Tuple [.Name c1 np,.Name c2 np2] x1 tpos)) ai (b₀::suite) hpos] [] [] pos) (zgk X.K tb C1 C2 th):=by
 intro pins s σ H D I h
 refine wpAny_Try_except (iF (dE (hb pins s σ H D _ I h) (λf s1 q=>?_) λev s1 q=>?_))
 ·cases f with
  |next=>exact eM (eM q)
  |ret v=>exact q
  |brk=>exact q
  |cont=>exact q
 obtain⟨e,cls,σ1,s0,H0,H1,rfl,I0,I1,xf,C,rfl,hx,hth⟩:=q
 obtain⟨oe,vs,a0,T,oT,ts,h1,h2,h3,h4,h5,h6,h7,h8,h9,h10,h11,h12⟩:=xf
 have fr:s1.heap.FunFrames (gu s1.heap (frs X.stack++[e,T])) (X.env::X.outer):=by
  have q:=iJ (as:=frs X.stack++[e,T]) I1.stack λenv he a ha=>cz _ (fN.mpr ⟨env,he,ha⟩)
  rw[hst.1] at q ⊢
  exact q
 have two:∀b∈[e,T],s0.heap.get? b=ai/\H1 b=ai:=λb z=>by
  have z':b=e\/b=T:=by simpa using z
  rcases z' with rfl|rfl
  ·exact⟨h9,h11⟩
  ·exact⟨h10,h12⟩
 have hcs:∀b∈[e,T],H1 b=ai/\X.s₀.heap.get? b=ai:=λb z=>⟨(two b z).2,j8 (I0.there0 hex) (two b z).1⟩
 have hcp:∀b∈[e,T],∀p∈X.pn++pins,p.1≠b:=λb z p hp q=>by
  have:=(I0.pin p hp).1
  rw[q,(two b z).1] at this;cases this
 refine wpAny_looks_onW (base:=gu s1.heap (frs X.stack++[e,T])) (a0:=a0) (cls:=.ref C) (by rw[I1.ok.frames,hst.1]) hst.2
  ⟨λb o q=>lq _ q,fK _ (bI _ (by simp)),fr,oe,vs,T,oT,ts,h1,h2,h3,h4,fK _ (bI _ (by simp)),h5,h6,h7,h8⟩ λg4 held4 sm4=>?_
 refine wpAny_landsW held4 λg5 fly5 sm5=>?_
 have hB:∀ {g:av},(gu s1.heap (frs X.stack++[e,T])).StaysIn g->∀b o,s1.heap.get? b=aa o->b ∉ frs X.stack->b ∉ [e,T]->g.get? b=aa o :=
  λ{g} k b o q n1 n2=>k b o (iO _ q λz=>(bx.mp z).elim n1 n2)
 have I5:Inv X pins σ1 H1 { s1 with heap:=g5 }:=I1.land hex hcs hcp (hB fly5.1) (sm4.trans sm5)
 refine iZ (iB ?_) (by intro q;cases q)
 refine wpAny_Tuple_spliced (cS (wQ (X:=X.sub e) (I5.toSub (e:=e)) hg1 hm1 (cS (wQ (X:=X.sub e) (I5.toSub (e:=e)) hg2 hm2 (eJ ⟨(by show 2<=Bb;decide),?_⟩) hdb2)) hdb1))
 have fly6:=zej fly5 { cls:=.type "tuple",data:=.seq [bG C1,bG C2].toArray }
 have kp:∀b o,g5.get? b=aa o->(g5.push { cls:=.type "tuple",data:=.seq [bG C1,bG C2].toArray }).get? b=aa o:=λb o q=>bg _ q
 have hp:(g5.push { cls:=.type "tuple",data:=.seq [bG C1,bG C2].toArray }).get? g5.objs.size=aa { cls:=.type "tuple",data:=.seq [bG C1,bG C2].toArray }:=bH _ rfl
 have K6:X.K.In (g5.push { cls:=.type "tuple",data:=.seq [bG C1,bG C2].toArray }):=(I5.kept (t':=s1.toks) kp).kIn
 have ty6:pG (Bg X.prog X.w) (g5.push { cls:=.type "tuple",data:=.seq [bG C1,bG C2].toArray }) (typeOf (.ref e)) (.ref C):=by
  obtain⟨o,p1,p2⟩:=fly6.there
  exact p2 ▸ (oH p1).andThen .now
 refine(W.exm_tup2 K6 ty6 hp hx).here ?_
 refine mM (lands_againW fly6 λg7 fly7 sm7=>?_)
 have I7:Inv X pins σ1 H1 { s1 with heap:=g7 }:=I1.land hex hcs hcp (hB fly7.1) (((sm4.trans sm5).trans (Heap.UpToSlots.of_keeps kp)).trans sm7)
 refine dE (hs e pins _ σ1 H1 D I7.toSub hth) (λf s9 q=>?_) λ_ _ z=>cY z
 cases f with
 |next=>obtain⟨σ9,H9,J,z⟩:=q;exact⟨σ9,H9,Inv.ofSub (J:=I) J,z⟩
 |brk=>obtain⟨σ9,H9,J,z⟩:=q;exact⟨σ9,H9,Inv.ofSub (J:=I) J,z⟩
 |cont=>obtain⟨σ9,H9,J,z⟩:=q;exact⟨σ9,H9,Inv.ofSub (J:=I) J,z⟩
 |ret u=>obtain⟨v,σ9,H9,J,r,z⟩:=q;exact⟨v,σ9,H9,Inv.ofSub (J:=I) J,r,z⟩
end
section
variable {X:Cx}{CX:CXT}{k:Nat}{f C:ac}{fd:Bc}{ps:List Str}{sp:Sp}{dvs:List V}{E:XK}{m:Str}{pos apos:Pos}{o:ay}{ta:TE}
theorem zcJ{pl:Sem Bool}(he:PE X o ta)(c:Cls X.K C)(hm:JZ X.K C m f)(F:FnOk X.prog X.w X.K X.mg X.base CX k f fd ps sp)(hr:Room k X.A)(hb:∃ds,Vals dvs ds/\Binds X.K fd ps ds)(hx:xX CX X E)
  (ht:eval (.Call (.Attribute o m apos) [] [] pos) X.env=(do
   let ov <-eval o X.env
   standAt apos.atName
   let (f,first) <-holding [ov] (getMethod ov m pl)
   callWith pos f first (backTo pos (Be [] X.env)) (backToKw pos (keywordEach [] X.env))):=by rfl) :
  PE X (.Call (.Attribute o m apos) [] [] pos) (zW C m sp dvs E ta zk):=by
 obtain⟨ds,hd,hb⟩:=hb
 exact Qi he c hm F hr hb hd hx ht
end
structure MkO(K:bt)(C:ac):Prop where
 makes:gy K C=af
 init:bX K (.ref C) "__init__"=aa (aa (.builtin "object.__init__"))
 kp:dJ K (.ref C)=af
def zbc(C:ac):TE:=λ_ H Q=>∀x dx,H x=ai->H dx=ai->dx≠x->Q (.ref x) (upd (upd H dx (.own x)) x (.ins C dx []))
section
variable {X:Cx}{C:ac}{x:Str}{p pos:Pos}
theorem zcK{σ:St}{H:Hp}{s:ah}{Q:VK}(M:MkO X.K C)(I:Inv X pins σ H s)(h:∀x dx,H x=ai->H dx=ai->dx≠x->Q (.ref x) (upd (upd H dx (.own x)) x (.ins C dx []))) :
  Bf (Bg X.prog X.w) X.A (call (.ref C) []) (EP X pins σ Q) X.xe s:=by
 have hq:=h (s.heap.objs.size+1) s.heap.objs.size (I.hok.fresh (pA _)) (I.hok.fresh (bi _)) (cq (iG _))
 have I2:=Inv.made (C:=C) I
 refine oA (zcl I.kIn M.makes M.init (λself=>W.Looks.of_pure (W.oi_bind self)) ?_)
 have Y:=W.makes_of (M:=Bg X.prog X.w) I.kIn M.makes
 have g1:pG (Bg X.prog X.w) ((s.heap.push dR).push (fH C s.heap.objs.size)) (typeOf (.ref (s.heap.objs.size+1))) (.ref C):=by
  have:=bH (s.heap.push dR) (o:=fH C s.heap.objs.size) rfl
  rw[ii] at this
  exact(oH this).andThen .now
 have g2:pG (Bg X.prog X.w) ((s.heap.push dR).push (fH C s.heap.objs.size)) (isInstance (.ref (s.heap.objs.size+1)) (.type "object")) af:=g1.andThen (Y.top.keeps λb o e=>bg (fH C s.heap.objs.size) (bg dR e))
 refine codeAny_call_builtin W.oi_plain W.entry_oi (W.check_slot (rest:=[]) (kw:=[]) W.oi_kind W.oi_split g2 (W.oi_args _) ?_)
 rw[W.oi_run]
 exact bh ⟨rfl,V.ref (s.heap.objs.size+1),_,I2,rfl,hq⟩
theorem Q5(M:MkO X.K C)(hg:Gl X x)(hm:X.mg x=aa (.ref C))(hdb:(x==("__debug__":Str))=ak:=by lia):PE X (.Call (.Name x p) [] [] pos) (zbc C):=by
 intro pins s σ H Q I h
 refine eU (wQ I hg hm ?_ hdb)
 exact n9 I.kIn M.kp (zcK M I h)
end
def zek(L:List (ac×Sp))(m:Str)(E:XK)(ta:TE)(t:TA):TE:=λσ H Q=>ta σ H λx H1=>∃a dx fs C sp,x=.ref a/\H1 a=aa (.ins C dx fs)/\fs.lookup m=ai/\(C,sp)∈L/\t σ H1 λvs H2=>sp (x::vs) H2 Q E
structure MOk(X:Cx)(CX:CXT)(m:Str)(C:ac)(sp:Sp):Prop where
 cl:Cls X.K C
 fn:∃k f fd ps,JZ X.K C m f/\FnOk X.prog X.w X.K X.mg X.base CX k f fd ps sp/\Room k X.A/\Binds X.K fd ps []
section
variable {X:Cx}{CX:CXT}{E:XK}{m:Str}{pos apos:Pos}{e o:ay}{es:List ay}{ta:TE}{t:TA}{L:List (ac×Sp)}{C:ac}{sp:Sp}
theorem zel(c:Cls X.K C)(hm:JZ X.K C m f)(F:FnOk X.prog X.w X.K X.mg X.base CX k f fd ps sp)(hr:Room k X.A)(hb:Binds X.K fd ps []):MOk X CX m C sp:=⟨c,k,f,fd,ps,hm,F,hr,hb⟩
theorem zgX:∀z∈([]:List (ac×Sp)),MOk X CX m z.1 z.2:=λz h=>nomatch h
theorem Kt(h:MOk X CX m C sp)(r:∀z∈L,MOk X CX m z.1 z.2):∀z∈(C,sp)::L,MOk X CX m z.1 z.2:=λz hz=>by
 rcases bD.mp hz with rfl|hz
 ·exact h
 ·exact r z hz
theorem zem{pl:Sem Bool}(he:PE X o ta)(hL:∀z∈L,MOk X CX m z.1 z.2)(hx:xX CX X E)(ha:PA X (e::es) t)
  (hst:Be (e::es) X.env=(ak,eval e X.env)::Be es X.env:=by rfl) (hpl:(backTo pos (Be es X.env)).any (·.1)=ak:=by rfl)
  (ht:eval (.Call (.Attribute o m apos) (e::es) [] pos) X.env=(do
   let ov <-eval o X.env
   standAt apos.atName
   let (f,first) <-holding [ov] (getMethod ov m pl)
   callWith pos f first (backTo pos (Be (e::es) X.env)) (backToKw pos (keywordEach [] X.env))):=by rfl) :
  PE X (.Call (.Attribute o m apos) (e::es) [] pos) (zek L m E ta t):=by
 intro pins s σ H Q I h
 refine iV (pl:=pl) (thn (he pins s σ H _ I h) λu s1 ⟨x,H1,I1,rx,a,dx,fs,C,sp,ex,ea,l,hz,q⟩=>?_) ht
 subst ex
 obtain rfl:u=bG a:=rx
 obtain⟨c,k,f,fd,ps,hm,F,hr,hb⟩:=hL _ hz
 refine kG I1 ea c hm l ?_
 refine lA (first:=[.ref a]) (h₀:=X.base) I.ok.mod.kin hm.kp (thn (ha pos pins s1 σ H1 _ I1 q) λus s2 ⟨vs,H2,I2,r,q2⟩=>⟨I2.kIn,?_⟩) hst hpl
 exact J4 (us:=.ref a::us) (vs:=.ref a::vs) (dvs:=[]) F hr hb .nil hx I2 (.cons rfl r) (by rw[bV];exact q2)
end
end L2
namespace HT
open PySem PySem.Spec PyProof.Rows
end HT
namespace L2
open PySem PySem.Spec PyProof.Rows
end L2
namespace L2
open PySem
end L2
namespace L2
open PySem PySem.Spec PyProof.Rows
end L2
namespace L2
open PySem PySem.Spec PySem.W PyProof.Rows
end L2
namespace L2
open PySem PySem.Spec PySem.W PyProof.Rows PySem.Calls
end L2
namespace L2
open PySem PySem.Spec PyProof.Rows
structure FG(K:bt)(mg:Str->Option ae)(x:Str)(st:ax)(ps:List Str)(a:ac)(d:Bc):Prop where
 f:Fun K x x st a d
 b:Binds K d ps []
 m:mg x=aa (.ref a)
structure FM(K:bt)(C:ac)(x qual:Str)(st:ax)(ps:List Str)(a:ac)(d:Bc):Prop where
 f:Fun K x qual st a d
 b:Binds K d ps []
 me:JZ K C x a
abbrev QF(K:bt)(x qual:Str)(st:ax)(a:ac):Prop:=∃oc od sl kV dc pm an cd ct,K.lookup a=aa ⟨oc,od,.func (gS x qual (yQ st) (yg st) (zj st) .none kV dc pm an cd ct),sl⟩/\gF K cd qual=af/\dJ K (.ref a)=af
abbrev QG(K:bt)(x:Str)(st:ax):Prop:=∃a,gm K Bd x=aa (aa (.ref a))/\QF K x x st a
abbrev QM(K:bt)(C:ac)(x qual:Str)(st:ax):Prop:=∃a,bX K (.ref C) x=aa (aa (.ref a))/\n0 K (.ref a)=af/\QF K x qual st a
section
variable {K:bt}{h:av}{mg:Str->Option ae}{x qual:Str}{st:ax}{a C:ac}{ps:List Str}
theorem QF.to(q:QF K x qual st a)(hb:∀(kV doc pm:ae) (an:Option ac) (cdv ct:ae) (us:List ae),us.length=ps.length->bindArgs (gS x qual (yQ st) (yg st) (zj st) .none kV doc pm an cdv ct) ⟨us,[]⟩=pure (ps.zip us)):∃d,Fun K x qual st a d/\Binds K d ps []/\dJ K (.ref a)=af:=by
 obtain⟨oc,od,sl,kV,dc,pm,an,cd,ct,h1,h2,h3⟩:=q
 have F:=Xn (st:=st) h1 h2 h3
 exact⟨_,F,F.binds hb,h3⟩
abbrev bA(x qual:Str)(st:ax)(us:List ae)(bs:List (Str×ae)):Prop:=∀(kV doc pm:ae) (an:Option ac) (cdv ct:ae),bindArgs (gS x qual (yQ st) (yg st) (zj st) .none kV doc pm an cdv ct) ⟨us,[]⟩=pure bs
theorem QG.to(X:K.In h)(G:h.Ns Bd mg)(q:QG K x st)(hb:∀us:List ae,us.length=ps.length->bA x x st us (ps.zip us)):∃a d,FG K mg x st ps a d:=by
 obtain⟨a,n,q⟩:=q
 obtain⟨d,F,B,_⟩:=QF.to q λ_ _ _ _ _ _ us hl=>hb us hl _ _ _ _ _ _
 exact⟨a,d,F,B,i8 X G n⟩
theorem QM.to(q:QM K C x qual st)(hb:∀us:List ae,us.length=ps.length->bA x qual st us (ps.zip us)):∃a d,FM K C x qual st ps a d:=by
 obtain⟨a,n,i,q⟩:=q
 obtain⟨d,F,B,k⟩:=QF.to q λ_ _ _ _ _ _ us hl=>hb us hl _ _ _ _ _ _
 exact⟨a,d,F,B,n,i,k⟩
theorem ar1{P:List ae->Prop}(h:∀a,P [a]):∀us,us.length=1->P us
 |[a],_=>h a
theorem ar2{P:List ae->Prop}(h:∀a b,P [a,b]):∀us,us.length=2->P us
 |[a,b],_=>h a b
theorem ar3{P:List ae->Prop}(h:∀a b c,P [a,b,c]):∀us,us.length=3->P us
 |[a,b,c],_=>h a b c
variable (X:K.In h)(G:h.Ns Bd mg)(u v w y z:Str)
include X G in
theorem QG.a1(q:QG K x st)(hb:∀a,bA x x st [a] [(u,a)]:=by exact λ_ _ _ _ _ _ _=>rfl):∃a d,FG K mg x st [u] a d:=QG.to X G q (ar1 hb)
include X G in
theorem QG.a2(q:QG K x st)(hb:∀a b,bA x x st [a,b] [(u,a),(v,b)]:=by exact λ_ _ _ _ _ _ _ _=>rfl):∃a d,FG K mg x st [u,v] a d:=QG.to X G q (ar2 hb)
include X G in
theorem QG.a3(q:QG K x st)(hb:∀a b c,bA x x st [a,b,c] [(u,a),(v,b),(w,c)]:=by exact λ_ _ _ _ _ _ _ _ _=>rfl):∃a d,FG K mg x st [u,v,w] a d:=QG.to X G q (ar3 hb)
theorem QM.a1(q:QM K C x qual st)(hb:∀a,bA x qual st [a] [(u,a)]:=by exact λ_ _ _ _ _ _ _=>rfl):∃a d,FM K C x qual st [u] a d:=QM.to q (ar1 hb)
theorem QM.a2(q:QM K C x qual st)(hb:∀a b,bA x qual st [a,b] [(u,a),(v,b)]:=by exact λ_ _ _ _ _ _ _ _=>rfl):∃a d,FM K C x qual st [u,v] a d:=QM.to q (ar2 hb)
theorem QM.a3(q:QM K C x qual st)(hb:∀a b c,bA x qual st [a,b,c] [(u,a),(v,b),(w,c)]:=by exact λ_ _ _ _ _ _ _ _ _=>rfl):∃a d,FM K C x qual st [u,v,w] a d:=QM.to q (ar3 hb)
end
abbrev QX(K:bt)(a:ac):Prop:=∃cl,bX K (.ref a) "__getattribute__"=aa (aa (.builtin "BaseException.__getattribute__"))/\bX K (.ref a) "__getattr__"=aa ai/\bX K (.ref a) "__class__"=aa (aa (.builtin "object.__class__"))/\pH K a (.type "object")=aa af/\pH K a (.type "BaseException")=aa af/\pz K (.builtin "object.__class__") "__get__"=aa (aa (.builtin "getset_descriptor.__get__"))/\W.takesIn K (.builtin "object.__class__")=aa af/\W.clsIn K a=aa cl
theorem QX.to{K:bt}(q:QX K a):ExK K a:=by
 obtain⟨cl,h1,h2,h3,h4,h5,h6,h7,h8⟩:=q
 exact⟨⟨h1,h2,h3,h4,h5,h6,h7⟩,by rw[h8];rfl⟩
section
variable {X:Cx}{CX:CXT}{j k:Nat}{a C:ac}{d:Bc}{ps:List Str}{sp:Sp}{x m qual:Str}{st:ax}{p pos apos:Pos}{o e:ay}{es:List ay}{ta:TE}{t:TA}{E:XK}
theorem pcG(F:FnOk X.prog X.w X.K X.mg X.base CX j a d ps sp)(G:FG X.K X.mg x st ps a d)(hr:Room k X.A)(hx:xX CX X E)(ha:PA X (e::es) t)(hj:j<=k:=by lia)(hg:Gl X x:=by exact rfl)(hdb:(x==("__debug__":Str))=ak:=by lia)(he:Be (e::es) X.env=(ak,eval e X.env)::Be es X.env:=by rfl)(hpl:(backTo pos (Be es X.env)).any (·.1)=ak:=by rfl) :
  PE X (.Call (.Name x p) (e::es) [] pos) (zT sp [] E t):=Wz (F.mono hj) hr hg G.m G.f.kp G.b .nil hx ha hdb he hpl
end
theorem FnScope.m{N P:List Str}{sc:az}(h1:sc.kind=.function:=by rfl)(h2:sc.isCoroutine=ak:=by rfl)(h3:sc.isGenerator=ak:=by rfl)(h4:N.Nodup:=by lia)(h5:N.take P.length=P:=by rfl)(h6:∀x∈P,sc.names.lookup x=aa .local\/sc.names.lookup x=aa .cell:=by lia)(h7:∀y∈sc.names,y.2≠.free:=by lia):FnScope N P sc:=⟨h1,h2,h3,h4,h5,h6,h7⟩
section
variable {P:aq}{w:au}{K:bt}{mg:Str->Option ae}{base:av}{x qual:Str}{st:ax}{f:ac}{fd:Bc}{N ps:List Str}{k:Nat}{sp:Sp}
theorem Fun.okA(F:Fun K x qual st f fd)(S:FnScope N ps (zj st))(h:∀vs H Q E,sp vs H Q E->vs.length=ps.length/\∀(cdv:ae) (A:aw) (outer:List Env) (s:ah),Room k (A.deeper (envOfC qual (zj st) s.heap.objs.size f cdv)) ->
   ∃t,PSs (qC (CX1 P w) P w K mg base N qual (zj st) f cdv A outer s H E).nox (yg st) t/\t { nx:=λ_ H'=>Q .non H',rt:=Q } (start N vs) H):FnOk P w K mg base (CX1 P w) (k+1) f fd ps sp:=F.ok0 S (λvs H Q E z=>(h vs H Q E z).1) λcdv A outer s H vs Q E hr z=>(h vs H Q E z).2 cdv A outer s hr
theorem Fun.okB(F:Fun K x qual st f fd)(S:FnScope N ps (zj st))(h:∀vs H Q E,sp vs H Q E->vs.length=ps.length/\∀(cdv:ae) (A:aw) (outer:List Env) (s:ah),Room k (A.deeper (envOfC qual (zj st) s.heap.objs.size f cdv)) ->
   ∃t,PSs (qC (CX1 P w) P w K mg base N qual (zj st) f cdv A outer s H E) (yg st) t/\t { nx:=λ_ H'=>Q .non H',rt:=Q } (start N vs) H):FnOk P w K mg base (CX1 P w) (k+1) f fd ps sp:=F.ok1 S (λvs H Q E z=>(h vs H Q E z).1) λcdv A outer s H vs Q E hr z=>(h vs H Q E z).2 cdv A outer s hr
end
section
variable {K:bt}{σ:St}{H:Hp}{Q:VK}{i:Nat}{k:Int}{p a C dx:ac}{xs:List V}{u v:V}{x w f:Str}{fs:List (Str×V)}{te:TE}{A B:TS}{D:YB}
theorem W9(h0:σ[i]?=aa (aa (.ref p)))(h1:H p=aa (.tup xs))(h2:atI xs k=aa u)(q:Q u H):tOp (yp K) (zb i) (tC (.int k)) σ H Q:=⟨_,h0,p,xs,k,u,rfl,rfl,SqT.of h1,h2,q⟩
theorem qR(h0:σ[i]?=aa (aa (.ref a)))(h1:H a=aa (.ins C dx fs))(c:Cls K C)(n:NoAttr K C f)(l:fs.lookup f=aa v)(q:Q v H):zO K (zb i) f σ H Q:=⟨_,h0,a,C,dx,fs,v,rfl,h1,c,n,l,q⟩
theorem zhC(h:∀Q:VK,Q (.str x) H->te σ H Q)(a:x=w->A D σ H)(b:x≠w->B D σ H):zQ (zB (tOp rEq te (tC (.str w)))) A B D σ H:=by
 refine h _ ⟨rfl,_,rfl,?_⟩
 by_cases c:x=w
 ·show if _ then _ else _
  rw[am (by rw[c];exact Bj rfl)];exact a c
 ·show if _ then _ else _
  rw[aj (by rw[decide_eq_true_eq];exact λz=>c (V.str.inj z))];exact b c
theorem kQ(h0:σ[i]?=aa (aa (.ref p)))(h1:H p=aa (.tup xs))(h2:atI xs k=aa (.str x))(a:x=w->A D σ H)(b:x≠w->B D σ H):zQ (zB (tOp rEq (tOp (yp K) (zb i) (tC (.int k))) (tC (.str w)))) A B D σ H:=zhC (λQ q=>W9 h0 h1 h2 q) a b
theorem zen(h0:σ[i]?=aa (aa (.ref l)))(h1:H l=aa (.lst xs))(q:Q (.int xs.length) H):tCB (wF K) (zc (zb i) zk) σ H Q:=by
 refine⟨_,h0,.ref l,xs.length,rfl,?_,q⟩
 simp only[zcj]
 exact .inl ⟨_,SqL.of h1,rfl⟩
theorem zhD{n:Int}{P R:Prop}(a:n≠0->P)(b:n=0->R):if (!decide (V.int n=V.int 0))=af then P else R:=by
 by_cases c:n=0
 ·rw[aj (by rw[c];decide)];exact b c
 ·rw[am (by rw[Bk (λz=>c (V.int.inj z))];rfl)];exact a c
theorem zhE{n:Int}{P R:Prop}(a:n=0->P)(b:n≠0->R):if decide (V.int n=V.int 0)=af then P else R:=by
 by_cases c:n=0
 ·rw[am (by rw[c];decide)];exact a c
 ·rw[aj (by rw[Bk (λz=>c (V.int.inj z))];decide)];exact b c
end
end L2
namespace L2
open PySem PySem.Spec PySem.W PyProof.Rows
abbrev zgl:RC:=λxs H Q=>∃(a:ac) (kvs:List (Key×V)) (rs:List Int),xs=[.ref a]/\H a=aa (.dK kvs)/\kvs.map (·.1)=rs.map gL/\kvs.length<64 /\
 ∀(l:ac) (srt:List Int),H l=ai->srt.Perm rs->srt.Pairwise (· < ·)->Q (.ref l) (upd H l (.lst (srt.map V.int)))
theorem zcL{qs:List Int}(hn:qs.Nodup):SO (λi j=>decide (qs.getD i 0<qs.getD j 0)) qs.length where
 irr:=λi _=>Bk (by lia)
 trans:=λi j k _ _ _ h1 h2=>by
  have h1:=of_decide_eq_true h1
  have h2:=of_decide_eq_true h2
  exact Bj (by lia)
 tot:=λi j hi hj hij h=>by
  have ne:qs.getD i 0≠qs.getD j 0:=λz=>hij (by
   rw[bB,bB,bb hi,bb hj] at z
   exact(gE hn).mp z)
  have h:=of_decide_eq_false h
  exact Bj (by lia)
theorem JB:∀(rs:List Int) (ks:List ae),ks.length=rs.length->(∀(i:Nat) (n:Int),rs[i]?=aa n->∃t,ks[i]?=aa (.int n t))->Vals (rs.map V.int) ks
 |[],[],_,_=>.nil
 |n::rs,k::ks,hl,h=>by
  obtain⟨t,e⟩:=h 0 n rfl
  have e:k=.int n t:=by simpa using e
  rw[bo,e]
  exact .cons ⟨t,rfl⟩ (JB rs ks (by simpa using hl) λi n hi=>by simpa using h (i+1) n (by simpa using hi))
 |[],_::_,h,_=>by simp at h
 |_::_,[],h,_=>by simp at h
section
variable {X:Cx}
theorem Ku(hc:X.calm=af):jW X (.builtin "sorted") zgl:=by
 intro pins s σ H xs us Q I r h
 obtain⟨a,kvs,rs,rfl,ha,hk,h64,q⟩:=h
 obtain⟨u,rfl,ru⟩:=qt r
 cases ru
 obtain⟨hz,lo,vs,kv,o,es,ep,ho,hx,hd,hk',pr,hn⟩:=(show ObjOk X.prog X.w H s.heap a (.dK kvs) from I.hok a _ ha)
 have hh:X.A.handled=ai:=I.ok.hd hc
 have lk:kvs.length=rs.length:=by have:=congrArg cg hk;simpa using this
 have lx:kvs.length=vs.length:=bL kv
 have ls:=pr.length
 rw[b8] at ls
 have kr:∀(i:Nat) (h:i<kvs.length) (h2:i<rs.length),kvs[i].1=gL rs[i]:=λi h h2=>by
  have e1:(kvs.map (·.1))[i]?=aa kvs[i].1:=by rw[bp,bb h];rfl
  rw[hk,bp,bb h2] at e1
  exact(bQ e1).symm
 have key:∀(i:Nat) (e:DictEntry),es[i]?=aa e->∃n t,rs[i]?=aa n/\e.key=fi n t:=λi e hi=>by
  obtain⟨k,u,h1,h2⟩:=Jy pr (by rw[cL];exact hi)
  have hl:=(bf.mp h1).1
  have hk2:kvs[i]?=aa kvs[i]:=bb (by lia)
  have rl:=yn kv hk2 h1
  have hr:rs[i]?=aa rs[i]:=bb (by lia)
  have e1:=kr i (by lia) (by lia)
  have e2:k=gL rs[i]:=by rw[<-e1];exact rl.1.symm
  rcases yC h2 with ⟨j,t,ej,et⟩|⟨x,t,ej,et⟩
  ·rw[e2] at ej
   cases ej
   exact⟨_,t,hr,et⟩
  ·rw[e2] at ej
   cases ej
 have nr:rs.Nodup:=by
  refine xG (f:=(gL:Int->Key)) ?_
  have e:vs.map (·.1)=rs.map gL:=by
   rw[<-hk]
   apply dW
   intro i
   rw[bp,bp]
   cases hx:vs[i]? with
   |none =>
    have:vs.length<=i:=by simpa using hx
    rw[ca (by lia:kvs.length<=i)]
    rfl
   |some x =>
    have hi:=(bf.mp hx).1
    have hkv:kvs[i]?=aa kvs[i]:=bb (by lia)
    rw[hkv]
    have:=(yn kv hkv hx).1
    simp[this]
  rw[<-e];exact hn
 have klen:(es.toList.map (·.key)).length=rs.length:=by rw[bd,b8];lia
 have kat:∀(i:Nat) (n:Int),rs[i]?=aa n->∃t,(es.toList.map (·.key))[i]?=aa (.int n t):=λi n hi=>by
  have hl:=(bf.mp hi).1
  have he:es[i]?=aa es[i]:=ck (by lia)
  obtain⟨n',t,h1,h2⟩:=key i _ he
  rw[hi] at h1
  cases h1
  refine⟨t,?_⟩
  rw[bp,cL,he,<-h2]
  rfl
 have rv:=JB rs _ klen kat
 have getI:∀i,i<rs.length->∃t,(es.toList.map (·.key)).getD i cI=.int (rs.getD i 0) t:=λi hi=>by
  obtain⟨t,ht⟩:=kat i rs[i] (bb hi)
  exact⟨t,by rw[bB,ht,bB,bb hi];rfl⟩
 refine XX (vs:=es.toList.map (·.key)) (κ:=oneType') (lt:=λi j=>decide (rs.getD i 0<rs.getD j 0)) (by rw[klen];lia) (by rw[klen];exact zcL nr) (λR hR=>?_) (λh2 h tk Q' kp q'=>?_) (λh tk i j C kp hi hj hij q'=>?_) λh tk h' p c k1 k2 hD hp hr=>?_
 ·refine XY (Ki (ep:=ep) (es:=es) lo) hh ⟨o,ho,hx,hd⟩ (bK (by lia:_<=1000) (by lia)) λh' tk ws kp hl hG=>?_
  have ev:ws=es.toList.map (·.key):=by
   apply dW
   intro i
   by_cases hi:i<ws.length
   ·obtain⟨e,hes,ek⟩:=hG i ws[i] (bb hi)
    rw[bb hi,ek,bp,cL,hes]
    rfl
   ·rw[ca (by lia),ca (by rw[bd,b8];lia)]
  rw[ev]
  exact hR h' tk kp
 ·refine kas_kind (T:=.type "int") h2 (λv hv=>?_) (by lia) (by lia) q'
  obtain⟨i,hi⟩:=cP hv
  have hl:=(bf.mp hi).1
  obtain⟨t,ht⟩:=kat i rs[i] (bb (by lia))
  rw[hi] at ht
  cases ht
  exact Looks.of_pure rfl
 ·rw[klen] at hi hj
  obtain⟨t1,e1⟩:=getI i hi
  obtain⟨t2,e2⟩:=getI j hj
  have key2:=kat_lt_int (prog:=X.prog) (w:=X.w) (A:=X.A.in1.in1) (E:=λ_ _=>False) (s:={ s with heap:=h,toks:=tk }) (t:=t1) (u:=t2) (Q:=C) q'
  rw[<-e1,<-e2] at key2
  exact key2
 ·have I1:Inv X pins σ H { s with heap:=h,toks:=tk }:=I.kept k1
  rw[klen] at hp hr
  have fr:H h.objs.size=ai:=I1.hok.fresh (bi _)
  have sz:=hp.size
  have vk:Vals (p.toList.map λi=>(rs.map V.int).getD i V.non) (vy (es.toList.map (·.key)) p):=jn rv V.non cI (is:=p.toList) λi hi=>by have:=hp.lt i hi;rw[bd];exact this
  have e3:(p.toList.map λi=>(rs.map V.int).getD i V.non)=(p.toList.map λi=>rs.getD i 0).map V.int:=by
   rw[df]
   refine dA λi hi=>?_
   have:=hp.lt i hi
   rw[bB,bp,bb this]
   show V.int rs[i]=V.int (rs.getD i 0)
   rw[bB,bb this]
   rfl
  rw[e3] at vk
  have I2:Inv X pins σ (upd H h.objs.size (.lst ((p.toList.map λi=>rs.getD i 0).map V.int))) { s with heap:=h',toks:=tk }:=I1.laid (s:={ s with heap:=h,toks:=tk }) (a:=h.objs.size) (o:=.lst ((p.toList.map λi=>rs.getD i 0).map V.int)) (t':=tk) k2 (bi _)
   ⟨by rw[bd,bd,b8];exact bK (by lia:_<=1000) (by lia),_,c,vk,hD⟩
  refine⟨.ref h.objs.size,_,I2,rfl,q _ _ fr ?_ ?_⟩
  ·refine(hp.list.map _).trans ?_
   rw[W4]
  ·exact(W5 (F:=λa b:Int=>decide (a<b)) hp hr).imp λh=>of_decide_eq_true h
end
def zbT(td ty tv:TE)(rd:V->V->Hp->VK->Prop):TS:=λD σ H=>td σ H λx H1=>ty σ H1 λy H2=>∃a xs j v,x=.ref a/\y=.int (j:Nat)/\H2 a=aa (.lst xs)/\xs[j]?=aa v/\j<=1000 /\
 tv σ H2 λz H3=>rd v z H3 λr H4=>H4 a=aa (.lst xs)/\D.nx σ (upd H4 a (.lst (xs.set j r)))
section
variable {X:Cx}{o i value:ay}{pos pos':Pos}{td ty tv:TE}
theorem Kv{op:Operator}{rd:V->V->Hp->VK->Prop}(ho:PE X o td)(hi:PE X i ty)(hv:PE X value tv)(hop:zgD X op rd)(hs:∀ov iv new,augStore i ov iv new=(do holding [new,ov,iv] (setItem ov iv new);release [new,ov,iv] [];pure .next)) :
  PS X (.AugAssign (.Subscript o i pos') op value pos) (zbT td ty tv rd):=by
 intro pins s σ H D I h
 refine wpAny_AugAssign_SubscriptAny (thn (ho pins s σ H _ I h) λu s1 ⟨x,H1,I1,rx,q1⟩=>thn (hi pins s1 σ H1 _ I1 q1) λiv s2 ⟨y,H2,I2,ry,a,xs,j,v,ex,ey,ea,hj,hk,q2⟩=>?_) hs
 subst ex ey
 obtain rfl:u=bG a:=rx
 obtain⟨t,rfl⟩:=ry
 obtain⟨its,r,pl,hz⟩:=I2.list (SqL.of ea)
 obtain⟨w,ew,rw'⟩:=r.get hj
 have fin:(j:Int).toNat=j:=eK j
 refine wpAny_getItem_list pl.isList (ot j) (by lia) (by rw[fin];simpa using ew) ?_
 refine thn (hv pins s2 σ H2 _ I2 q2) λw3 s3 ⟨z,H3,I3,rz,q3⟩=>thn (hop pins s3 σ H3 v z w w3 _ I3 rw' rz q3) λw4 s4 ⟨r4,H4,I4,r4',ea',q4⟩=>?_
 obtain⟨z,its,n,rl,hl,e⟩:=I4.lstM ea'
 have jl:j<xs.length:=(bf.mp hj).1
 exact QV e (ot j) (by lia) fin (by rw[bF,<-hl];exact jl) ⟨σ,_,I4.lset (its':=its.set j w4) (t':=s4.toks) ea' e (by simp) (QW r4' rl _) (by rw[List.length_set];exact z),q4⟩
end
section
variable {X:Cx}{CX:CXT}{i j k:Nat}{f C:ac}{fd:Bc}{ps:List Str}{sp:Sp}{x m qual:Str}{st:ax}{pos pos' apos:Pos}{o a b e:ay}{es:List ay}{te ta tb:TE}{t:TA}{E:XK}
theorem zq(hN:X.N.Nodup)(he:PE X e te)(hi:X.N[i]?=aa x:=by rfl)(hx:Loc X.env.scope x:=by exact .inl rfl)(hs:swapsWith e (aa (.Name x pos')) pos.line X.env=pure ak:=by rfl)(hf:X.fn x=af\/X.env.scope.names.lookup x=aa .local:=by first|exact .inl rfl|exact .inr rfl|assumption) :
  PS X (.Assign [.Name x pos'] e pos) (zL te (zp i)):=Xh hN hi hx he hs hf
theorem yh(hN:X.N.Nodup)(hi:X.N[i]?=aa x:=by rfl)(hx:Loc X.env.scope x:=by exact .inl rfl)(hf:X.fn x=af\/X.env.scope.names.lookup x=aa .local:=by first|exact .inl rfl|exact .inr rfl|assumption):PG X (.Name x pos) (zp i):=vA hN hi hx hf
theorem zt{r:R2}(hr:IxR X r)(ha:PE X a ta)(hb:PE X b tb)(hs:zbB b:=by exact λ_ _=>rfl):PE X (.Subscript a b pos) (tOp r ta tb):=zht hr ha hb hs
theorem pmG{pl:Sem Bool}(he:PE X o ta)(c:Cls X.K C)(F:FnOk X.prog X.w X.K X.mg X.base CX j f fd ps sp)(G:FM X.K C m qual st ps f fd)(hr:Room k X.A)(hx:xX CX X E)(ha:PA X (e::es) t)(hj:j<=k:=by lia)
  (hst:Be (e::es) X.env=(ak,eval e X.env)::Be es X.env:=by rfl) (hpl:(backTo pos (Be es X.env)).any (·.1)=ak:=by rfl)
  (ht:eval (.Call (.Attribute o m apos) (e::es) [] pos) X.env=(do
   let ov <-eval o X.env
   standAt apos.atName
   let (f,first) <-holding [ov] (getMethod ov m pl)
   callWith pos f first (backTo pos (Be (e::es) X.env)) (backToKw pos (keywordEach [] X.env))):=by rfl) :
  PE X (.Call (.Attribute o m apos) (e::es) [] pos) (zW C m sp [] E ta t):=zbz he c G.me (F.mono hj) hr G.b .nil hx ha hst hpl ht
theorem YO{pl:Sem Bool}(he:PE X o ta)(c:Cls X.K C)(F:FnOk X.prog X.w X.K X.mg X.base CX j f fd ps sp)(G:FM X.K C m qual st ps f fd)(hr:Room k X.A)(hx:xX CX X E)(hj:j<=k:=by lia)
  (ht:eval (.Call (.Attribute o m apos) [] [] pos) X.env=(do
   let ov <-eval o X.env
   standAt apos.atName
   let (f,first) <-holding [ov] (getMethod ov m pl)
   callWith pos f first (backTo pos (Be [] X.env)) (backToKw pos (keywordEach [] X.env))):=by rfl) :
  PE X (.Call (.Attribute o m apos) [] [] pos) (zW C m sp [] E ta zk):=Qi he c G.me (F.mono hj) hr G.b .nil hx ht
end
end L2
namespace K45
open PySem L2
abbrev qqN(Q:VK):YB:={nx:=λ_ H'=>Q .non H',rt:=Q}
def top(i:Nat):ax:=PySem.Challenge.pw_forerun_k45_takes_and_layings.main.body.getD i (.Pass ⟨0,0,0,0⟩)
abbrev wH:ax:=top 39
abbrev kR:ax:=top 38
abbrev jp:ax:=top 40
abbrev jH:ax:=top 41
abbrev vF:ax:=top 46
abbrev xw:ax:=zU (top 13) 0
abbrev xT:ax:=zU (top 15) 0
abbrev xU:ax:=zU (top 27) 0
abbrev vX:ax:=top 37
abbrev jI:ax:=top 30
abbrev Ya:ax:=top 29
abbrev Xx:ax:=top 31
abbrev vY:ax:=zU (top 27) 4
abbrev wI:ax:=zU (top 27) 9
abbrev Yb:ax:=zU (top 25) 1
abbrev Xy:ax:=top 20
abbrev Xz:ax:=top 21
abbrev Yc:ax:=top 17
abbrev Va:ax:=top 22
abbrev Yd:ax:=top 23
abbrev vZ:ax:=zU (top 25) 5
abbrev v0:ax:=zU (top 25) 6
abbrev Ye:ax:=zU (top 25) 2
abbrev xZ:ax:=zU (top 13) 8
abbrev kS:ax:=top 10
abbrev kT:ax:=zU (top 13) 1
abbrev qS:ax:=zU (top 25) 9
abbrev Yf:ax:=zU (top 25) 8
abbrev kU:ax:=zU (top 25) 7
abbrev wJ:ax:=zU (top 25) 3
abbrev xC:ax:=zU (top 15) 4
abbrev xc:ax:=zU (top 15) 5
abbrev qT:ax:=top 12
abbrev vg:ax:=zU (top 15) 2
abbrev wK:ax:=zU (top 34) 0
abbrev wL:ax:=zU (top 35) 1
abbrev kW:ax:=zU (top 33) 0
abbrev wM:ax:=zU (top 25) 0
abbrev vh:ax:=zU (top 27) 11
abbrev x8:ax:=zU (top 27) 10
abbrev x9:ax:=zU (top 13) 6
abbrev wc:ax:=zU (top 13) 9
abbrev Yg:ax:=top 11
abbrev qU:ax:=zU (top 13) 2
abbrev xJ:ax:=zU (top 13) 7
abbrev kX:ax:=zU (top 15) 3
abbrev vi:ax:=zU (top 15) 1
abbrev qV:ax:=zU (top 25) 4
abbrev qW:ax:=zU (top 27) 2
abbrev jJ:ax:=zU (top 27) 3
abbrev Yh:ax:=zU (top 27) 1
abbrev kY:ax:=top 47
abbrev yK:ax:=top 48
abbrev qX:ax:=top 42
abbrev qY:ax:=top 43
abbrev Yi:ax:=top 44
abbrev jq:ax:=top 45
abbrev yW:ax:=zU (top 35) 0
abbrev Vb:ax:=top 49
theorem YQ:FnScope ["word"] ["word"] (zj wH):=.m
theorem q0h:FnScope ["cell","many","found","one","two","k"] ["cell","many"] (zj kR):=.m
theorem q0l:FnScope ["cell","letters","word","one","at","letter"] ["cell"] (zj jp):=.m
theorem Vc:FnScope ["number"] ["number"] (zj jH):=.m
theorem q0o:FnScope ["cell","shelves","xs","found","k","worth"] ["cell","shelves"] (zj vF):=.m
theorem VI:FnScope ["self","table"] ["self","table"] (zj xw):=.m
theorem Kw:FnScope ["self","makes"] ["self","makes"] (zj xT):=.m
theorem Kx:FnScope ["self","table","hands","way","first"] ["self","table","hands","way","first"] (zj xU):=.m
theorem Wf:FnScope ["script","k"] ["script","k"] (zj vX):=.m
theorem q0t:FnScope ["row","at","steps","to","others"] ["row","at"] (zj jI):=.m
theorem q0y:FnScope ["rows","first","steps","row"] ["rows","first"] (zj Ya):=.m
theorem zbd:FnScope ["rows"] ["rows"] (zj Xx):=.m
theorem Wg:FnScope ["self"] ["self"] (zj vY):=.m
theorem YR:FnScope ["self"] ["self"] (zj wI):=.m
theorem Q6:FnScope ["self"] ["self"] (zj Yb):=.m
theorem zbe:FnScope ["word","first","second"] ["word","first","second"] (zj Xy):=.m
theorem zbf:FnScope ["word","first","second"] ["word","first","second"] (zj Xz):=.m
theorem Q7:FnScope ["thing"] ["thing"] (zj Yc):=.m
theorem q17:FnScope ["word","first","second","worth"] ["word","first","second"] (zj Va):=.m
theorem q0p:FnScope ["term","slots","worths","part","second","first"] ["term","slots"] (zj Yd):=.m
theorem Wh:FnScope ["self","term"] ["self","term"] (zj vZ):=.m
theorem Wi:FnScope ["self","due"] ["self","due"] (zj v0):=.m
theorem q18:FnScope ["self","place"] ["self"] (zj Ye):=.m
theorem Yj:FnScope ["self","rank"] ["self","rank"] (zj xZ):=.m
theorem q0m:FnScope ["ranks","rank","low","high","amid"] ["ranks","rank"] (zj kS):=.m
theorem q0z:FnScope ["self","place","rank","ranks","below"] ["self","place","rank"] (zj kT):=.m
theorem Ky:FnScope ["self","place","worth"] ["self","place","worth"] (zj qS):=.m
theorem q19:FnScope ["self","due","worth","place"] ["self","due","worth"] (zj Yf):=.m
theorem VJ:FnScope ["self","due","worth"] ["self","due","worth"] (zj kU):=.m
theorem Q8:FnScope ["self","worth"] ["self","worth"] (zj wJ):=.m
theorem q0u:FnScope ["self","rank","place","worth","now"] ["self","rank"] (zj xC):=.m
theorem q0v:FnScope ["self","ranks","rank","note"] ["self"] (zj xc):=.m
theorem q1a:FnScope ["ranks_at","place","rank","ranks"] ["ranks_at","place","rank"] (zj qT):=.m
theorem q0w:FnScope ["self","rank","paper","place","worth"] ["self","rank"] (zj vg):=.m
theorem YS:FnScope ["self","ranks"] ["self","ranks"] (zj wK):=.m
theorem q1b:FnScope ["self","ranks","at"] ["self","ranks"] (zj wL):=.m
theorem VL:FnScope ["self","ranks"] ["self","ranks"] (zj kW):=.m
theorem Q9:FnScope ["self","code"] ["self","code"] (zj wM):=.m
theorem q1c:FnScope ["self","hand","rank"] ["self","hand"] (zj vh):=.m
theorem q10:FnScope ["self","hand","lowest","changed"] ["self","hand"] (zj x8):=.m
theorem Yk:FnScope ["self","rank"] ["self","rank"] (zj x9):=.m
theorem q11:FnScope ["self","rank","places","place"] ["self","rank"] (zj wc):=.m
theorem q1d:FnScope ["ranks_at","place","rank","ranks"] ["ranks_at","place","rank"] (zj Yg):=.m
theorem q12:FnScope ["self","rank","gifts","worths","place"] ["self","rank","gifts"] (zj qU):=.m
theorem q13:FnScope ["self","place","rank","ranks","above"] ["self","place","rank"] (zj xJ):=.m
theorem q0q:FnScope ["self","place","rank","readers","above","behind","reader"] ["self","place","rank"] (zj kX):=.m
theorem q0r:FnScope ["self","rank","paper","before","place","worth"] ["self","rank","paper"] (zj vi):=.m
theorem q1e:FnScope ["self","notes"] ["self"] (zj qV):=.m
theorem q0s:FnScope ["self","hand","rank","run","place","worth"] ["self","hand"] (zj qW):=.m
theorem q1f:FnScope ["self","told"] ["self"] (zj jJ):=.m
theorem q1g:FnScope ["self","code","rank"] ["self","code"] (zj Yh):=.m
theorem VM:FnScope ["found"] ["found"] (zj kY):=.m
theorem q0c:FnScope ["rows","first","many","takes","lays","agains","settled","row","rank"] ["rows","first","many"] (zj yK):=.m
theorem q1h:FnScope ["number","slots","kind"] ["number","slots"] (zj qX):=.m
theorem q14:FnScope ["number","slots","words","kind"] ["number","slots"] (zj qY):=.m
theorem q0n:FnScope ["xs","shelves","slots","kind","shelf","slot","spot","term"] ["xs","shelves","slots"] (zj Yi):=.m
theorem q0i:FnScope ["cell","shelves","slots","xs","rows","at","to","row"] ["cell","shelves","slots"] (zj jq):=.m
theorem Wj:FnScope ["self"] ["self"] (zj yW):=.m
theorem q07:FnScope ["script","shelves","slots","table","codes","hands","kind","first","desk","early","added","rows","cell","code"] ["script"] (zj Vb):=.m
set_option genSizeOf false in
set_option genInjectivity false in
structure Adr where
 a0:ac
 d0:Bc
 a1:ac
 d1:Bc
 a2:ac
 d2:Bc
 a3:ac
 d3:Bc
 a4:ac
 d4:Bc
 a5:ac
 d5:Bc
 a6:ac
 d6:Bc
 a7:ac
 d7:Bc
 a8:ac
 d8:Bc
 a9:ac
 d9:Bc
 a10:ac
 d10:Bc
 a11:ac
 d11:Bc
 a12:ac
 d12:Bc
 a13:ac
 d13:Bc
 a14:ac
 d14:Bc
 a15:ac
 d15:Bc
 a16:ac
 d16:Bc
 a17:ac
 d17:Bc
 a18:ac
 d18:Bc
 a19:ac
 d19:Bc
 a20:ac
 d20:Bc
 a21:ac
 d21:Bc
 a22:ac
 d22:Bc
 a23:ac
 d23:Bc
 a24:ac
 d24:Bc
 a25:ac
 d25:Bc
 a26:ac
 d26:Bc
 a27:ac
 d27:Bc
 a28:ac
 d28:Bc
 a29:ac
 d29:Bc
 a30:ac
 d30:Bc
 a31:ac
 d31:Bc
 a32:ac
 d32:Bc
 a33:ac
 d33:Bc
 a34:ac
 d34:Bc
 a35:ac
 d35:Bc
 a36:ac
 d36:Bc
 a37:ac
 d37:Bc
 a38:ac
 d38:Bc
 a39:ac
 d39:Bc
 a40:ac
 d40:Bc
 a41:ac
 d41:Bc
 a42:ac
 d42:Bc
 a43:ac
 d43:Bc
 a44:ac
 d44:Bc
 a45:ac
 d45:Bc
 a46:ac
 d46:Bc
 a47:ac
 d47:Bc
 a48:ac
 d48:Bc
 a49:ac
 d49:Bc
 a50:ac
 d50:Bc
 a51:ac
 d51:Bc
 a52:ac
 d52:Bc
 a53:ac
 d53:Bc
 a54:ac
 d54:Bc
 a55:ac
 d55:Bc
 a56:ac
 d56:Bc
 a57:ac
 d57:Bc
 a58:ac
 d58:Bc
 q0x:ac
 q00:ac
 q09:ac
 q0d:ac
 q03:ac
 q02:ac
 q08:ac
 q01:ac
 q05:ac
 q0e:ac
structure Txt(K:bt)(mg:Str->Option ae)(t:Adr):Prop where
 g0:FG K mg "_law_free_name" wH ["word"] t.a0 t.d0
 g1:FG K mg "_law_draws" kR ["cell","many"] t.a1 t.d1
 g2:FG K mg "_law_pair" jp ["cell"] t.a2 t.d2
 g3:FG K mg "_law_number" jH ["number"] t.a3 t.d3
 g4:FG K mg "_law_table" vF ["cell","shelves"] t.a4 t.d4
 q1m:Fun K "__init__" "Makes.__init__" xw t.a5 t.d5
 q1n:Binds K t.d5 ["self","table"] []
 q1o:Fun K "__init__" "Jobs.__init__" xT t.a6 t.d6
 q1p:Binds K t.d6 ["self","makes"] []
 q1q:FunD K "__init__" "Desk.__init__" xU t.a7 t.d7
 q15:Binds K t.d7 ["self","table","hands","way","first"] []
 g8:FG K mg "_law_cell_at" vX ["script","k"] t.a8 t.d8
 g9:FG K mg "block_steps" jI ["row","at"] t.a9 t.d9
 g10:FG K mg "steps_of" Ya ["rows","first"] t.a10 t.d10
 g11:FG K mg "code_of" Xx ["rows"] t.a11 t.d11
 g12:FM K t.q00 "settled" "Desk.settled" vY ["self"] t.a12 t.d12
 g13:FM K t.q00 "next_rank" "Desk.next_rank" wI ["self"] t.a13 t.d13
 g14:FM K t.q01 "over" "Run.over" Yb ["self"] t.a14 t.d14
 g15:FG K mg "divided" Xy ["word","first","second"] t.a15 t.d15
 g16:FG K mg "come_to" Xz ["word","first","second"] t.a16 t.d16
 g17:FG K mg "is_worth" Yc ["thing"] t.a17 t.d17
 g18:FG K mg "joined" Va ["word","first","second"] t.a18 t.d18
 g19:FG K mg "reckoned" Yd ["term","slots"] t.a19 t.d19
 g20:FM K t.q01 "worth_of" "Run.worth_of" vZ ["self","term"] t.a20 t.d20
 g21:FM K t.q01 "place_in" "Run.place_in" v0 ["self","due"] t.a21 t.d21
 g22:FM K t.q01 "asks" "Run.asks" Ye ["self"] t.a22 t.d22
 g23:FM K t.q02 "heed_fold" "Makes.heed_fold" xZ ["self","rank"] t.a23 t.d23
 g24:FG K mg "many_below" kS ["ranks","rank"] t.a24 t.d24
 g25:FM K t.q02 "seen" "Makes.seen" kT ["self","place","rank"] t.a25 t.d25
 g26:FM K t.q01 "taken" "Run.taken" qS ["self","place","worth"] t.a26 t.d26
 g27:FM K t.q01 "does" "Run.does" Yf ["self","due","worth"] t.a27 t.d27
 g28:FM K t.q01 "led_by" "Run.led_by" kU ["self","due","worth"] t.a28 t.d28
 q1r:FunD K "step" "Run.step" wJ t.a29 t.d29
 q1s:Binds K t.d29 ["self","worth"] []
 bd_Run_step:∃ds,Vals [.int 0] ds/\Binds K t.d29 ["self","worth"] ds
 me_Run_step:JZ K t.q01 "step" t.a29
 g30:FM K t.q03 "changed_note" "Jobs.changed_note" xC ["self","rank"] t.a30 t.d30
 g31:FM K t.q03 "lowest_changed" "Jobs.lowest_changed" xc ["self"] t.a31 t.d31
 g32:FG K mg "drop_rank" qT ["ranks_at","place","rank"] t.a32 t.d32
 g33:FM K t.q03 "take_off" "Jobs.take_off" vg ["self","rank"] t.a33 t.d33
 g34:FM K t.q0d "chosen" "Highest.chosen" wK ["self","ranks"] t.a34 t.d34
 g35:FM K t.q05 "chosen" "Turning.chosen" wL ["self","ranks"] t.a35 t.d35
 g36:FM K t.q0e "chosen" "Way.chosen" kW ["self","ranks"] t.a36 t.d36
 q1t:Fun K "__init__" "Run.__init__" wM t.a37 t.d37
 q1u:Binds K t.d37 ["self","code"] []
 g38:FM K t.q00 "taken_up" "Desk.taken_up" vh ["self","hand"] t.a38 t.d38
 g39:FM K t.q00 "moved_free" "Desk.moved_free" x8 ["self","hand"] t.a39 t.d39
 g40:FM K t.q02 "places_of" "Makes.places_of" x9 ["self","rank"] t.a40 t.d40
 g41:FM K t.q02 "take_away" "Makes.take_away" wc ["self","rank"] t.a41 t.d41
 g42:FG K mg "put_rank" Yg ["ranks_at","place","rank"] t.a42 t.d42
 g43:FM K t.q02 "lay" "Makes.lay" qU ["self","rank","gifts"] t.a43 t.d43
 g44:FM K t.q02 "next_above" "Makes.next_above" xJ ["self","place","rank"] t.a44 t.d44
 g45:FM K t.q03 "doubt" "Jobs.doubt" kX ["self","place","rank"] t.a45 t.d45
 g46:FM K t.q03 "lay_down" "Jobs.lay_down" vi ["self","rank","paper"] t.a46 t.d46
 g47:FM K t.q01 "paper" "Run.paper" qV ["self"] t.a47 t.d47
 g48:FM K t.q00 "move" "Desk.move" qW ["self","hand"] t.a48 t.d48
 g49:FM K t.q00 "finish" "Desk.finish" jJ ["self"] t.a49 t.d49
 g50:FM K t.q00 "add" "Desk.add" Yh ["self","code"] t.a50 t.d50
 g51:FG K mg "_law_whole" kY ["found"] t.a51 t.d51
 g52:FG K mg "_law_counted" yK ["rows","first","many"] t.a52 t.d52
 g53:FG K mg "_law_spot" qX ["number","slots"] t.a53 t.d53
 g54:FG K mg "_law_term" qY ["number","slots"] t.a54 t.d54
 g55:FG K mg "_law_row" Yi ["xs","shelves","slots"] t.a55 t.d55
 g56:FG K mg "_law_rows" jq ["cell","shelves","slots"] t.a56 t.d56
 q1v:Fun K "__init__" "Turning.__init__" yW t.a57 t.d57
 q1w:Binds K t.d57 ["self"] []
 q1x:Fun K "law" "law" Vb t.a58 t.d58
 q2w:Binds K t.d58 ["script"] []
 m_law:mg "law"=aa (.ref t.a58)
 w_law:∀(s:ah) (v:ae),BindsTo s t.d58 ⟨[v],[]⟩ [("script",v)]
 q1i:mg "bool"=ai
 q1j:mg "dict"=ai
 b_int:mg "int"=ai
 q0j:mg "isinstance"=ai
 q04:mg "len"=ai
 q0f:mg "list"=ai
 q0g:mg "range"=ai
 q16:mg "sorted"=ai
 q1k:mg "str"=ai
 q1y:mg "sum"=ai
 b_tuple:mg "tuple"=ai
 g_JOINING:mg "JOINING"=aa (.ref t.q0x)
 q1z:∀H:Hp,SqT K H t.q0x [.str "plus",.str "minus",.str "times",.str "over",.str "rest",.str "under",.str "same"]
 g_Desk:mg "Desk"=aa (.ref t.q00)
 g_Great:mg "Great"=aa (.ref t.q09)
 g_Highest:mg "Highest"=aa (.ref t.q0d)
 g_Jobs:mg "Jobs"=aa (.ref t.q03)
 g_Makes:mg "Makes"=aa (.ref t.q02)
 g_Nought:mg "Nought"=aa (.ref t.q08)
 g_Run:mg "Run"=aa (.ref t.q01)
 g_Turning:mg "Turning"=aa (.ref t.q05)
 g_Way:mg "Way"=aa (.ref t.q0e)
 q0a:Cls K t.q00
 mk_Desk:Mk K t.q00 t.a7
 q20:NoAttr K t.q00 "codes"
 q21:NoAttr K t.q00 "ended"
 q22:NoAttr K t.q00 "first"
 q23:NoAttr K t.q00 "hands"
 q24:NoAttr K t.q00 "held"
 q25:NoAttr K t.q00 "jobs"
 q26:NoAttr K t.q00 "makes"
 q27:NoAttr K t.q00 "waiting"
 q28:NoAttr K t.q00 "way"
 q29:Cls K t.q0d
 mo_Highest:MkO K t.q0d
 q0k:Cls K t.q03
 mk_Jobs:Mk K t.q03 t.a6
 q2a:NoAttr K t.q03 "doubted"
 q2b:NoAttr K t.q03 "laid"
 q2c:NoAttr K t.q03 "makes"
 q2d:NoAttr K t.q03 "readers"
 q0b:Cls K t.q02
 mk_Makes:Mk K t.q02 t.a5
 q2e:NoAttr K t.q02 "folded"
 q2f:NoAttr K t.q02 "ground"
 q2g:NoAttr K t.q02 "ranks"
 q2h:NoAttr K t.q02 "worths"
 q06:Cls K t.q01
 mk_Run:Mk K t.q01 t.a37
 q2i:NoAttr K t.q01 "at"
 q2j:NoAttr K t.q01 "code"
 q2k:NoAttr K t.q01 "gifts"
 q2l:NoAttr K t.q01 "notes"
 q2m:NoAttr K t.q01 "sayings"
 q2n:NoAttr K t.q01 "slots"
 q2o:NoAttr K t.q01 "why"
 q1l:Cls K t.q05
 mk_Turning:Mk K t.q05 t.a57
 q2p:NoAttr K t.q05 "times"
 q2q:Cls K t.q0e
 mo_Way:MkO K t.q0e
 q2r:oC K t.q08 Qx Xr=af
 y_Nought:ExK K t.q08
 q2s:iq K (.ref t.q08) (.ref t.q09)=aa ak
 q2t:iq K (.ref t.q08) (.ref t.q08)=aa af
 m_Nought_Great_Nought:pi K (.ref t.q08) [.ref t.q09,.ref t.q08]=aa af
 q2u:oC K t.q09 Qx Xr=af
 y_Great:ExK K t.q09
 q2v:iq K (.ref t.q09) (.ref t.q09)=aa af
 q2x:iq K (.ref t.q09) (.ref t.q08)=aa ak
 m_Great_Great_Nought:pi K (.ref t.q09) [.ref t.q09,.ref t.q08]=aa af
theorem txt_mk{mg:Str->Option ae}(X:K.In h)(G:h.Ns Bd mg)
  
  
  
  
  
  
  
  
  
  
  
  
  
  
  
  
  
  (h0:QG K "_law_free_name" wH)
  (h1:QG K "_law_draws" kR)
  (h2:QG K "_law_pair" jp)
  (h3:QG K "_law_number" jH)
  (h4:QG K "_law_table" vF)
  (qa5:bX K (.ref ca4) "__init__"=aa (aa (.ref f5))) (qi5:n0 K (.ref f5)=af) (ql5:K.lookup f5=aa ⟨oc5,od5,.func (gS "__init__" "Makes.__init__" (yQ xw) (yg xw) (zj xw) .none kV5 dc5 pm5 an5 cd5 ct5),sl5⟩) (qc5:gF K cd5 "Makes.__init__"=af) (qk5:dJ K (.ref f5)=af)
  (qa6:bX K (.ref ca3) "__init__"=aa (aa (.ref f6))) (qi6:n0 K (.ref f6)=af) (ql6:K.lookup f6=aa ⟨oc6,od6,.func (gS "__init__" "Jobs.__init__" (yQ xT) (yg xT) (zj xT) .none kV6 dc6 pm6 an6 cd6 ct6),sl6⟩) (qc6:gF K cd6 "Jobs.__init__"=af) (qk6:dJ K (.ref f6)=af)
  (qa7:bX K (.ref ca0) "__init__"=aa (aa (.ref f7))) (qi7:n0 K (.ref f7)=af) (ql7:K.lookup f7=aa ⟨oc7,od7,.func (gS "__init__" "Desk.__init__" (yQ xU) (yg xU) (zj xU) (.ref dA7) kV7 dc7 pm7 an7 cd7 ct7),sl7⟩) (qc7:gF K cd7 "Desk.__init__"=af) (qk7:dJ K (.ref f7)=af) (qd7:K.lookup dA7=aa ⟨.type "tuple",ai,.seq #[.int 0 dt7_0] dn7,#[]⟩)
  (h8:QG K "_law_cell_at" vX)
  (h9:QG K "block_steps" jI)
  (h10:QG K "steps_of" Ya)
  (h11:QG K "code_of" Xx)
  (h12:QM K ca0 "settled" "Desk.settled" vY)
  (h13:QM K ca0 "next_rank" "Desk.next_rank" wI)
  (h14:QM K ca6 "over" "Run.over" Yb)
  (h15:QG K "divided" Xy)
  (h16:QG K "come_to" Xz)
  (h17:QG K "is_worth" Yc)
  (h18:QG K "joined" Va)
  (h19:QG K "reckoned" Yd)
  (h20:QM K ca6 "worth_of" "Run.worth_of" vZ)
  (h21:QM K ca6 "place_in" "Run.place_in" v0)
  (h22:QM K ca6 "asks" "Run.asks" Ye)
  (h23:QM K ca4 "heed_fold" "Makes.heed_fold" xZ)
  (h24:QG K "many_below" kS)
  (h25:QM K ca4 "seen" "Makes.seen" kT)
  (h26:QM K ca6 "taken" "Run.taken" qS)
  (h27:QM K ca6 "does" "Run.does" Yf)
  (h28:QM K ca6 "led_by" "Run.led_by" kU)
  (qa29:bX K (.ref ca6) "step"=aa (aa (.ref f29))) (qi29:n0 K (.ref f29)=af) (ql29:K.lookup f29=aa ⟨oc29,od29,.func (gS "step" "Run.step" (yQ wJ) (yg wJ) (zj wJ) (.ref dA29) kV29 dc29 pm29 an29 cd29 ct29),sl29⟩) (qc29:gF K cd29 "Run.step"=af) (qk29:dJ K (.ref f29)=af) (qd29:K.lookup dA29=aa ⟨.type "tuple",ai,.seq #[.int 0 dt29_0] dn29,#[]⟩)
  (h30:QM K ca3 "changed_note" "Jobs.changed_note" xC)
  (h31:QM K ca3 "lowest_changed" "Jobs.lowest_changed" xc)
  (h32:QG K "drop_rank" qT)
  (h33:QM K ca3 "take_off" "Jobs.take_off" vg)
  (h34:QM K ca2 "chosen" "Highest.chosen" wK)
  (h35:QM K ca7 "chosen" "Turning.chosen" wL)
  (h36:QM K ca8 "chosen" "Way.chosen" kW)
  (qa37:bX K (.ref ca6) "__init__"=aa (aa (.ref f37))) (qi37:n0 K (.ref f37)=af) (ql37:K.lookup f37=aa ⟨oc37,od37,.func (gS "__init__" "Run.__init__" (yQ wM) (yg wM) (zj wM) .none kV37 dc37 pm37 an37 cd37 ct37),sl37⟩) (qc37:gF K cd37 "Run.__init__"=af) (qk37:dJ K (.ref f37)=af)
  (h38:QM K ca0 "taken_up" "Desk.taken_up" vh)
  (h39:QM K ca0 "moved_free" "Desk.moved_free" x8)
  (h40:QM K ca4 "places_of" "Makes.places_of" x9)
  (h41:QM K ca4 "take_away" "Makes.take_away" wc)
  (h42:QG K "put_rank" Yg)
  (h43:QM K ca4 "lay" "Makes.lay" qU)
  (h44:QM K ca4 "next_above" "Makes.next_above" xJ)
  (h45:QM K ca3 "doubt" "Jobs.doubt" kX)
  (h46:QM K ca3 "lay_down" "Jobs.lay_down" vi)
  (h47:QM K ca6 "paper" "Run.paper" qV)
  (h48:QM K ca0 "move" "Desk.move" qW)
  (h49:QM K ca0 "finish" "Desk.finish" jJ)
  (h50:QM K ca0 "add" "Desk.add" Yh)
  (h51:QG K "_law_whole" kY)
  (h52:QG K "_law_counted" yK)
  (h53:QG K "_law_spot" qX)
  (h54:QG K "_law_term" qY)
  (h55:QG K "_law_row" Yi)
  (h56:QG K "_law_rows" jq)
  (qa57:bX K (.ref ca7) "__init__"=aa (aa (.ref f57))) (qi57:n0 K (.ref f57)=af) (ql57:K.lookup f57=aa ⟨oc57,od57,.func (gS "__init__" "Turning.__init__" (yQ yW) (yg yW) (zj yW) .none kV57 dc57 pm57 an57 cd57 ct57),sl57⟩) (qc57:gF K cd57 "Turning.__init__"=af) (qk57:dJ K (.ref f57)=af)
  (qa58:gm K Bd "law"=aa (aa (.ref f58))) (ql58:K.lookup f58=aa ⟨oc58,od58,.func (gS "law" "law" (yQ Vb) (yg Vb) (zj Vb) .none kV58 dc58 pm58 an58 cd58 ct58),sl58⟩) (qc58:gF K cd58 "law"=af) (qk58:dJ K (.ref f58)=af)
  (qz0:gm K Bd "bool"=aa ai)
  (qz1:gm K Bd "dict"=aa ai)
  (qz2:gm K Bd "int"=aa ai)
  (qz3:gm K Bd "isinstance"=aa ai)
  (qz4:gm K Bd "len"=aa ai)
  (qz5:gm K Bd "list"=aa ai)
  (qz6:gm K Bd "range"=aa ai)
  (qz7:gm K Bd "sorted"=aa ai)
  (qz8:gm K Bd "str"=aa ai)
  (qz9:gm K Bd "sum"=aa ai)
  (qz10:gm K Bd "tuple"=aa ai)
  (qg0:gm K Bd "JOINING"=aa (aa (.ref ga0))) (qh0:K.lookup ga0=aa ⟨.type "tuple",ai,.seq #[.str "plus" gt0_0,.str "minus" gt0_1,.str "times" gt0_2,.str "over" gt0_3,.str "rest" gt0_4,.str "under" gt0_5,.str "same" gt0_6] gn0,#[]⟩)
  (qv0:gm K Bd "Desk"=aa (aa (.ref ca0)))
  (qv1:gm K Bd "Great"=aa (aa (.ref ca1)))
  (qv2:gm K Bd "Highest"=aa (aa (.ref ca2)))
  (qv3:gm K Bd "Jobs"=aa (aa (.ref ca3)))
  (qv4:gm K Bd "Makes"=aa (aa (.ref ca4)))
  (qv5:gm K Bd "Nought"=aa (aa (.ref ca5)))
  (qv6:gm K Bd "Run"=aa (aa (.ref ca6)))
  (qv7:gm K Bd "Turning"=aa (aa (.ref ca7)))
  (qv8:gm K Bd "Way"=aa (aa (.ref ca8)))
  (pg0:fM K ca0 fI=af) (pd0:fz K ca0=af) (po0:fP K ca0=af) (pe0:bX K (.ref ca0) "__setattr__"=aa (aa (.builtin "object.__setattr__"))) (pm0_:gy K ca0=af) (pk0:dJ K (.ref ca0)=af)
  (pn0_0:bX K (.ref ca0) "codes"=aa ai)
  (pn0_1:bX K (.ref ca0) "ended"=aa ai)
  (pn0_2:bX K (.ref ca0) "first"=aa ai)
  (pn0_3:bX K (.ref ca0) "hands"=aa ai)
  (pn0_4:bX K (.ref ca0) "held"=aa ai)
  (pn0_5:bX K (.ref ca0) "jobs"=aa ai)
  (pn0_6:bX K (.ref ca0) "makes"=aa ai)
  (pn0_7:bX K (.ref ca0) "waiting"=aa ai)
  (pn0_8:bX K (.ref ca0) "way"=aa ai)
  (pi2:bX K (.ref ca2) "__init__"=aa (aa (.builtin "object.__init__")))
  (pg2:fM K ca2 fI=af) (pd2:fz K ca2=af) (po2:fP K ca2=af) (pe2:bX K (.ref ca2) "__setattr__"=aa (aa (.builtin "object.__setattr__"))) (pm2_:gy K ca2=af) (pk2:dJ K (.ref ca2)=af)
  (pg3:fM K ca3 fI=af) (pd3:fz K ca3=af) (po3:fP K ca3=af) (pe3:bX K (.ref ca3) "__setattr__"=aa (aa (.builtin "object.__setattr__"))) (pm3_:gy K ca3=af) (pk3:dJ K (.ref ca3)=af)
  (pn3_0:bX K (.ref ca3) "doubted"=aa ai)
  (pn3_1:bX K (.ref ca3) "laid"=aa ai)
  (pn3_2:bX K (.ref ca3) "makes"=aa ai)
  (pn3_3:bX K (.ref ca3) "readers"=aa ai)
  (pg4:fM K ca4 fI=af) (pd4:fz K ca4=af) (po4:fP K ca4=af) (pe4:bX K (.ref ca4) "__setattr__"=aa (aa (.builtin "object.__setattr__"))) (pm4_:gy K ca4=af) (pk4:dJ K (.ref ca4)=af)
  (pn4_0:bX K (.ref ca4) "folded"=aa ai)
  (pn4_1:bX K (.ref ca4) "ground"=aa ai)
  (pn4_2:bX K (.ref ca4) "ranks"=aa ai)
  (pn4_3:bX K (.ref ca4) "worths"=aa ai)
  (pg6:fM K ca6 fI=af) (pd6:fz K ca6=af) (po6:fP K ca6=af) (pe6:bX K (.ref ca6) "__setattr__"=aa (aa (.builtin "object.__setattr__"))) (pm6_:gy K ca6=af) (pk6:dJ K (.ref ca6)=af)
  (pn6_0:bX K (.ref ca6) "at"=aa ai)
  (pn6_1:bX K (.ref ca6) "code"=aa ai)
  (pn6_2:bX K (.ref ca6) "gifts"=aa ai)
  (pn6_3:bX K (.ref ca6) "notes"=aa ai)
  (pn6_4:bX K (.ref ca6) "sayings"=aa ai)
  (pn6_5:bX K (.ref ca6) "slots"=aa ai)
  (pn6_6:bX K (.ref ca6) "why"=aa ai)
  (pg7:fM K ca7 fI=af) (pd7:fz K ca7=af) (po7:fP K ca7=af) (pe7:bX K (.ref ca7) "__setattr__"=aa (aa (.builtin "object.__setattr__"))) (pm7_:gy K ca7=af) (pk7:dJ K (.ref ca7)=af)
  (pn7_0:bX K (.ref ca7) "times"=aa ai)
  (pi8:bX K (.ref ca8) "__init__"=aa (aa (.builtin "object.__init__")))
  (pg8:fM K ca8 fI=af) (pd8:fz K ca8=af) (po8:fP K ca8=af) (pe8:bX K (.ref ca8) "__setattr__"=aa (aa (.builtin "object.__setattr__"))) (pm8_:gy K ca8=af) (pk8:dJ K (.ref ca8)=af)
  (rx0:oC K ca5 Qx Xr=af)
  (ry0:QX K ca5)
  (re0_0:iq K (.ref ca5) (.ref ca1)=aa ak)
  (re0_1:iq K (.ref ca5) (.ref ca5)=aa af)
  (rm0_0:pi K (.ref ca5) [(.ref ca1),(.ref ca5)]=aa af)
  (rx1:oC K ca1 Qx Xr=af)
  (ry1:QX K ca1)
  (re1_0:iq K (.ref ca1) (.ref ca1)=aa af)
  (re1_1:iq K (.ref ca1) (.ref ca5)=aa ak)
  (rm1_0:pi K (.ref ca1) [(.ref ca1),(.ref ca5)]=aa af):∃t,Txt K mg t:=by
 obtain⟨f0,d0,F0⟩:=QG.a1 X G "word" h0
 obtain⟨f1,d1,F1⟩:=QG.a2 X G "cell" "many" h1
 obtain⟨f2,d2,F2⟩:=QG.a1 X G "cell" h2
 obtain⟨f3,d3,F3⟩:=QG.a1 X G "number" h3
 obtain⟨f4,d4,F4⟩:=QG.a2 X G "cell" "shelves" h4
 have F5:=Xn (st:=xw) ql5 qc5 qk5
 have F6:=Xn (st:=xT) ql6 qc6 qk6
 have F7:=zbS (st:=xU) ql7 qc7 qk7
 obtain⟨f8,d8,F8⟩:=QG.a2 X G "script" "k" h8
 obtain⟨f9,d9,F9⟩:=QG.a2 X G "row" "at" h9
 obtain⟨f10,d10,F10⟩:=QG.a2 X G "rows" "first" h10
 obtain⟨f11,d11,F11⟩:=QG.a1 X G "rows" h11
 obtain⟨f12,d12,F12⟩:=QM.a1 "self" h12
 obtain⟨f13,d13,F13⟩:=QM.a1 "self" h13
 obtain⟨f14,d14,F14⟩:=QM.a1 "self" h14
 obtain⟨f15,d15,F15⟩:=QG.a3 X G "word" "first" "second" h15
 obtain⟨f16,d16,F16⟩:=QG.a3 X G "word" "first" "second" h16
 obtain⟨f17,d17,F17⟩:=QG.a1 X G "thing" h17
 obtain⟨f18,d18,F18⟩:=QG.a3 X G "word" "first" "second" h18
 obtain⟨f19,d19,F19⟩:=QG.a2 X G "term" "slots" h19
 obtain⟨f20,d20,F20⟩:=QM.a2 "self" "term" h20
 obtain⟨f21,d21,F21⟩:=QM.a2 "self" "due" h21
 obtain⟨f22,d22,F22⟩:=QM.a1 "self" h22
 obtain⟨f23,d23,F23⟩:=QM.a2 "self" "rank" h23
 obtain⟨f24,d24,F24⟩:=QG.a2 X G "ranks" "rank" h24
 obtain⟨f25,d25,F25⟩:=QM.a3 "self" "place" "rank" h25
 obtain⟨f26,d26,F26⟩:=QM.a3 "self" "place" "worth" h26
 obtain⟨f27,d27,F27⟩:=QM.a3 "self" "due" "worth" h27
 obtain⟨f28,d28,F28⟩:=QM.a3 "self" "due" "worth" h28
 have F29:=zbS (st:=wJ) ql29 qc29 qk29
 obtain⟨f30,d30,F30⟩:=QM.a2 "self" "rank" h30
 obtain⟨f31,d31,F31⟩:=QM.a1 "self" h31
 obtain⟨f32,d32,F32⟩:=QG.a3 X G "ranks_at" "place" "rank" h32
 obtain⟨f33,d33,F33⟩:=QM.a2 "self" "rank" h33
 obtain⟨f34,d34,F34⟩:=QM.a2 "self" "ranks" h34
 obtain⟨f35,d35,F35⟩:=QM.a2 "self" "ranks" h35
 obtain⟨f36,d36,F36⟩:=QM.a2 "self" "ranks" h36
 have F37:=Xn (st:=wM) ql37 qc37 qk37
 obtain⟨f38,d38,F38⟩:=QM.a2 "self" "hand" h38
 obtain⟨f39,d39,F39⟩:=QM.a2 "self" "hand" h39
 obtain⟨f40,d40,F40⟩:=QM.a2 "self" "rank" h40
 obtain⟨f41,d41,F41⟩:=QM.a2 "self" "rank" h41
 obtain⟨f42,d42,F42⟩:=QG.a3 X G "ranks_at" "place" "rank" h42
 obtain⟨f43,d43,F43⟩:=QM.a3 "self" "rank" "gifts" h43
 obtain⟨f44,d44,F44⟩:=QM.a3 "self" "place" "rank" h44
 obtain⟨f45,d45,F45⟩:=QM.a3 "self" "place" "rank" h45
 obtain⟨f46,d46,F46⟩:=QM.a3 "self" "rank" "paper" h46
 obtain⟨f47,d47,F47⟩:=QM.a1 "self" h47
 obtain⟨f48,d48,F48⟩:=QM.a2 "self" "hand" h48
 obtain⟨f49,d49,F49⟩:=QM.a1 "self" h49
 obtain⟨f50,d50,F50⟩:=QM.a2 "self" "code" h50
 obtain⟨f51,d51,F51⟩:=QG.a1 X G "found" h51
 obtain⟨f52,d52,F52⟩:=QG.a3 X G "rows" "first" "many" h52
 obtain⟨f53,d53,F53⟩:=QG.a2 X G "number" "slots" h53
 obtain⟨f54,d54,F54⟩:=QG.a2 X G "number" "slots" h54
 obtain⟨f55,d55,F55⟩:=QG.a3 X G "xs" "shelves" "slots" h55
 obtain⟨f56,d56,F56⟩:=QG.a3 X G "cell" "shelves" "slots" h56
 have F57:=Xn (st:=yW) ql57 qc57 qk57
 have F58:=Xn (st:=Vb) ql58 qc58 qk58
 exact⟨⟨f0,d0,f1,d1,f2,d2,f3,d3,f4,d4,f5,_,f6,_,f7,_,f8,d8,f9,d9,f10,d10,f11,d11,f12,d12,f13,d13,f14,d14,f15,d15,f16,d16,f17,d17,f18,d18,f19,d19,f20,d20,f21,d21,f22,d22,f23,d23,f24,d24,f25,d25,f26,d26,f27,d27,f28,d28,f29,_,f30,d30,f31,d31,f32,d32,f33,d33,f34,d34,f35,d35,f36,d36,f37,_,f38,d38,f39,d39,f40,d40,f41,d41,f42,d42,f43,d43,f44,d44,f45,d45,f46,d46,f47,d47,f48,d48,f49,d49,f50,d50,f51,d51,f52,d52,f53,d53,f54,d54,f55,d55,f56,d56,f57,_,f58,_,ga0,ca0,ca1,ca2,ca3,ca4,ca5,ca6,ca7,ca8⟩,⟨F0,
  F1,
  F2,
  F3,
  F4,
  F5,F5.binds (ps:=["self","table"]) (λ_ _ _ _ _ _ us hl=>match us,hl with|[_,_],_=>rfl),
  F6,F6.binds (ps:=["self","makes"]) (λ_ _ _ _ _ _ us hl=>match us,hl with|[_,_],_=>rfl),
  F7,(λs us hK hl=>match us,(show us.length=5 by simpa using hl) with|[_,_,_,_,_],_=>.of_defaults (T:=dA7) rfl (hK _ _ qd7) rfl rfl rfl),
  F8,
  F9,
  F10,
  F11,
  F12,
  F13,
  F14,
  F15,
  F16,
  F17,
  F18,
  F19,
  F20,
  F21,
  F22,
  F23,
  F24,
  F25,
  F26,
  F27,
  F28,
  F29,(λs us hK hl=>match us,(show us.length=2 by simpa using hl) with|[_,_],_=>.of_defaults (T:=dA29) rfl (hK _ _ qd29) rfl rfl rfl),⟨[.int 0 dt29_0],(.cons ⟨_,rfl⟩ .nil),(λs us hK hl=>match us,(show us.length=1 by simpa using hl) with|[_],_=>.of_defaults (T:=dA29) rfl (hK _ _ qd29) rfl rfl rfl)⟩,⟨qa29,qi29,qk29⟩,
  F30,
  F31,
  F32,
  F33,
  F34,
  F35,
  F36,
  F37,F37.binds (ps:=["self","code"]) (λ_ _ _ _ _ _ us hl=>match us,hl with|[_,_],_=>rfl),
  F38,
  F39,
  F40,
  F41,
  F42,
  F43,
  F44,
  F45,
  F46,
  F47,
  F48,
  F49,
  F50,
  F51,
  F52,
  F53,
  F54,
  F55,
  F56,
  F57,F57.binds (ps:=["self"]) (λ_ _ _ _ _ _ us hl=>match us,hl with|[_],_=>rfl),
  F58,F58.binds (ps:=["script"]) (λ_ _ _ _ _ _ us hl=>match us,hl with|[_],_=>rfl),i8 X G qa58,
  λs v=>.of_eq rfl,
  eI X G qz0,
  eI X G qz1,
  eI X G qz2,
  eI X G qz3,
  eI X G qz4,
  eI X G qz5,
  eI X G qz6,
  eI X G qz7,
  eI X G qz8,
  eI X G qz9,
  eI X G qz10,
  i8 X G qg0,λ_=>.inr ⟨_,_,_,qh0,rfl,rfl,(by show 7<=Bb;decide),(.cons ⟨_,rfl⟩ (.cons ⟨_,rfl⟩ (.cons ⟨_,rfl⟩ (.cons ⟨_,rfl⟩ (.cons ⟨_,rfl⟩ (.cons ⟨_,rfl⟩ (.cons ⟨_,rfl⟩ .nil)))))))⟩,
  i8 X G qv0,
  i8 X G qv1,
  i8 X G qv2,
  i8 X G qv3,
  i8 X G qv4,
  i8 X G qv5,
  i8 X G qv6,
  i8 X G qv7,
  i8 X G qv8,
  ⟨pg0,pd0,po0,pe0⟩,
  ⟨pm0_,qa7,qi7,pk0⟩,
  pn0_0,
  pn0_1,
  pn0_2,
  pn0_3,
  pn0_4,
  pn0_5,
  pn0_6,
  pn0_7,
  pn0_8,
  ⟨pg2,pd2,po2,pe2⟩,
  ⟨pm2_,pi2,pk2⟩,
  ⟨pg3,pd3,po3,pe3⟩,
  ⟨pm3_,qa6,qi6,pk3⟩,
  pn3_0,
  pn3_1,
  pn3_2,
  pn3_3,
  ⟨pg4,pd4,po4,pe4⟩,
  ⟨pm4_,qa5,qi5,pk4⟩,
  pn4_0,
  pn4_1,
  pn4_2,
  pn4_3,
  ⟨pg6,pd6,po6,pe6⟩,
  ⟨pm6_,qa37,qi37,pk6⟩,
  pn6_0,
  pn6_1,
  pn6_2,
  pn6_3,
  pn6_4,
  pn6_5,
  pn6_6,
  ⟨pg7,pd7,po7,pe7⟩,
  ⟨pm7_,qa57,qi57,pk7⟩,
  pn7_0,
  ⟨pg8,pd8,po8,pe8⟩,
  ⟨pm8_,pi8,pk8⟩,
  rx0,
  ry0.to,
  re0_0,
  re0_1,
  rm0_0,
  rx1,
  ry1.to,
  re1_0,
  re1_1,
  rm1_0⟩⟩
structure KF(K:bt):Prop where
 i_b:fA K (.type "int") (.type "bool")=aa ak
 i_s:fA K (.type "int") (.type "str")=aa ak
 s_i:fA K (.type "str") (.type "int")=aa ak
 i_l:fA K (.type "int") (.type "list")=aa ak
 i_t:fA K (.type "int") (.type "tuple")=aa ak
 s_l:fA K (.type "str") (.type "list")=aa ak
 s_t:fA K (.type "str") (.type "tuple")=aa ak
 t_l:fA K (.type "tuple") (.type "list")=aa ak
def fin(t:Adr)(r:Except Er Int)(Q:VK)(E:XK)(H:Hp):Prop:=match r with
 |.ok i=>Q (.int i) H
 |.error .nought=>E (.ref t.q08) ai H
 |.error .great=>E (.ref t.q09) ai H
 |.error .stuck=>True
def zeo(t:Adr)(e:Er)(E:XK)(H:Hp):Prop:=match e with
 |.nought=>E (.ref t.q08) ai H
 |.great=>E (.ref t.q09) ai H
 |.stuck=>True
def zfF(K:bt):Prop:=fA K (.type "int") (.type "bool")=aa ak
def NamesAt(H:Hp)(nm:ac)(ws:List Str):Prop:=H nm=aa (.lst (ws.map V.str))/\∀w∈ws,yJ w=af
def Yl:Rw->Prop
 |.off _=>False
 |.iff _ _ _=>False
 |_=>True
def qZ:Sp:=λvs H Q _=>∃i,vs=[.int i]/\∀H',Same H H'->Q (.bl (inW i)) H'
def kZ(t:Adr):Sp:=λvs H Q E=>∃w a b,vs=[.str w,.int a,.int b]/\w.length<=1000/\inW a=af/\inW b=af/\∀H',Same H H'->if b=0 then E (.ref t.q08) ai H' else Q (.int (if w="over" then a.fdiv b else a.fmod b)) H'
def k7(t:Adr):Sp:=λvs H Q E=>∃w a b,vs=[.str w,.int a,.int b]/\w.length<=1000/\inW a=af/\inW b=af/\∀H',Same H H'->if WX w/\b=0 then E (.ref t.q08) ai H' else Q (.int (jk w a b)) H'
def ZC(t:Adr):Sp:=λvs H Q E=>∃w a b,vs=[.str w,.int a,.int b]/\w.length<=1000/\inW a=af/\inW b=af/\∀H',Same H H'->fin t (vW w a b) Q E H'
def q8(t:Adr):Sp:=λvs H Q E=>∃kvs tm sl ps r,vs=[.ref tm,.ref sl]/\H tm=aa (.tup ps)/\H sl=aa (.dK kvs)/\Good kvs ps r/\(∀v∈ps,kO v)/\ps.length<=1000/\yS kvs/\∀H',Same H H'->fin t r Q E H'
inductive Cs where
 |row (r:Rw)
 |skip (e:List V) (to:Nat)
 |go (en:Nat)
def Rws.isNil:Rws->Bool
 |.nil=>af
 |.cons _ _=>ak
def blk(e:List V)(k:Nat)(A:List Cs)(nl:Bool)(B:List Cs):List Cs :=
 if nl=af then .skip e (k+1+A.length)::A else .skip e (k+2+A.length)::(A++(.go (k+2+A.length+B.length)::B))
mutual
def xh:Rw->Nat->List Cs
 |.iff e a b,k=>blk e k (zY a (k+1)) (Rws.isNil b) (zY b (k+2+(zY a (k+1)).length))
 |r,_=>[.row r]
def zY:Rws->Nat->List Cs
 |.nil,_=>[]
 |.cons r rs,k=>xh r k++zY rs (k+(xh r k).length)
end
def Vd:Rw->Prop
 |.iff _ _ _=>False
 |_=>True
def CsAt(H:Hp)(v:V):Cs->Prop
 |.row r=>RwAt Ko H v r/\Vd r
 |.skip e to=>∃p te,v=.ref p/\H p=aa (.tup [.str "skip",.ref te,.int (to:Nat)])/\H te=aa (.tup e)
 |.go en=>∃p,v=.ref p/\H p=aa (.tup [.str "go",.int (en:Nat)])
structure Ve(n:Nat)(r:Rws):Prop where
 dp:r.deep<n
 ct:r.cnt<=500
 pl:qP r
def q9(n:Nat):Sp:=λvs H Q _=>∃(v:V) (e:List V) (a b:Rws) (k:Nat),vs=[v,.int k]/\RwAt Ko H v (.iff e a b)/\Ve n a/\Ve n b/\k+(xh (.iff e a b) k).length<=500/\∀l xs H',Same H H'->H' l=aa (.lst xs)->Paired (CsAt H') xs (xh (.iff e a b) k)->Q (.ref l) H'
def xo(n:Nat):Sp:=λvs H Q _=>∃(v:V) (r:Rws) (k:Nat),vs=[v,.int k]/\RlAt Ko H v r/\Ve n r/\k+(zY r k).length<=500/\∀l xs H',Same H H'->H l=ai->H' l=aa (.lst xs)->Paired (CsAt H') xs (zY r k)->Q (.ref l) H'
def Ym:Sp:=λvs H Q _=>∃(v:V) (r:Rws),vs=[v]/\RlAt Ko H v r/\Ve 6 r/\(zY r 0).length<=500/\∀l xs H',Same H H'->H l=ai->H' l=aa (.lst xs)->Paired (CsAt H') xs (zY r 0)->Q (.ref l) H'
structure RSt where
 n:Nat
 why:Option Str
 sl:List (Key×V)
 gi:List Row
 no:List Row
 sa:List Int
structure RAd where
 dx:ac
 co:ac
 sl:ac
 gi:ac
 no:ac
 sa:ac
def zhF:Option Str->V
 |none=>.non
 |some w=>.str w
def zhG(a:RAd)(s:RSt):List (Str×V):=[(bc "code",.ref a.co),(bc "at",.int s.n),(bc "why",zhF s.why),(bc "slots",.ref a.sl),(bc "gifts",.ref a.gi),(bc "notes",.ref a.no),(bc "sayings",.ref a.sa)]
structure RnAt(t:Adr)(H:Hp)(x:ac)(a:RAd)(C:List Cs)(s:RSt):Prop where
 ix:H x=aa (.ins t.q01 a.dx (zhG a s))
 hc:∃xs,H a.co=aa (.lst xs)/\Paired (CsAt H) xs C
 hs:H a.sl=aa (.dK s.sl)
 hg:H a.gi=aa (.dT (dOf s.gi))
 hn:H a.no=aa (.dT (dOf s.no))
 ha:H a.sa=aa (.lst (s.sa.map V.int))
 ng:a.gi≠a.no
 nc:a.co≠a.sa
def Ow(x:ac)(a:RAd)(b:ac):Prop:=b=x\/b=a.sl\/b=a.gi\/b=a.no\/b=a.sa
def OwA(x:ac)(a:RAd)(b:ac):Prop:=Ow x a b\/b=a.co
def Kp(x:ac)(a:RAd)(H H':Hp):Prop:=∀b o,¬ Ow x a b->H b=aa o->H' b=aa o
def JC(x:ac)(H H':Hp):Prop:=∀b o,b≠x->H b=aa o->H' b=aa o
structure RnOk(m:Nat)(s:RSt):Prop where
 so:yS s.sl
 gw:∀r∈s.gi,inW r.2=af
 nw:∀r∈s.no,inW r.2=af
 l1:s.sl.length<=m
 l2:s.gi.length<=m
 l3:s.no.length<=m
 l4:s.sa.length<=m
 nd:(s.no.map (·.1)).Nodup
def Kz:Cs->Prop
 |.row r=>qO r
 |.skip e _=>TermOk e
 |.go _=>True
def yD(C:List Cs)(s:RSt):Bool:=s.why.isSome || decide (C.length<=s.n)
def wC(p:Pl)(w:Int)(s:RSt):RSt:=if (zI s.gi p).isSome=af\/(zI s.no p).isSome=af then s else { s with no:=s.no++[(p,w)] }
def jK(p:Pl)(w:Int)(s:RSt):Int:=(zI s.gi p).getD ((zI s.no p).getD w)
def doR:Rw->Int->RSt->Except Er RSt
 |.take sh e x,w,s=>match rk s.sl e with
  |.error er=>.error er
  |.ok n=>.ok { wC (sh,n) w s with sl:=yA s.sl (.inr x) (.int (jK (sh,n) w s)) }
 |.give sh e f,_,s=>match rk s.sl e with
  |.error er=>.error er
  |.ok n=>match rk s.sl f with
   |.error er=>.error er
   |.ok i=>.ok { s with gi:=s.gi++[((sh,n),i)] }
 |.lt x e,_,s=>match rk s.sl e with
  |.error er=>.error er
  |.ok i=>.ok { s with sl:=yA s.sl (.inr x) (.int i) }
 |.say e,_,s=>match rk s.sl e with
  |.error er=>.error er
  |.ok i=>.ok { s with sa:=s.sa++[i] }
 |_,_,s=>.ok s
def vG:Cs->Int->RSt->Except Er (Nat×RSt)
 |.go k,_,s=>.ok (k,s)
 |.skip e to,_,s=>match rk s.sl e with
  |.error er=>.error er
  |.ok i=>.ok (if i=0 then to else s.n+1,s)
 |.row (.off e),_,s=>match rk s.sl e with
  |.error er=>.error er
  |.ok i=>.ok (s.n+1,if i=0 then s else { s with why:=aa (bc "told") })
 |.row r,w,s=>match doR r w s with
  |.error er=>.error er
  |.ok s'=>.ok (s.n+1,s')
def y9(c:Cs)(w:Int)(s:RSt):RSt:=match vG c w s with
 |.ok (k,s')=>{ s' with n:=k }
 |.error er=>{ s with why:=aa (QT er) }
def xn(C:List Cs)(w:Int)(s:RSt):RSt:=if yD C s=af then s else match C[s.n]? with
 |none=>s
 |some c=>y9 c w s
def kh(c:Cs)(s:RSt):Option Pl:=match c with
 |.row (.take sh e _)=>match rk s.sl e with
  |.error _=>ai
  |.ok n=>if (zI s.gi (sh,n)).isSome=af\/(zI s.no (sh,n)).isSome=af then ai else aa (sh,n)
 |_=>ai
def qw(C:List Cs)(s:RSt):Option Pl:=if yD C s=af then ai else (C[s.n]?).bind λc=>kh c s
abbrev zaa(H:Hp)(v:V)(q:Row):Prop:=PrAt H v q
abbrev Yn(H:Hp)(vs:List V)(rows:List Row):Prop:=Paired (PrAt H) vs rows
def LsAt(H:Hp)(a:ac)(rows:List Row):Prop:=∃xs,H a=aa (.lst xs)/\Paired (PrAt H) xs rows
def zhW(H:Hp)(v:V):Oc->Prop
 |.done sa=>∃o y,v=.ref o/\H o=aa (.tup [.str "done",.ref y])/\H y=aa (.tup (sa.map V.int))
 |.off w=>∃o,v=.ref o/\H o=aa (.tup [.str "off",.str w])
def zgY(s:RSt):Oc:=match s.why with
 |some w=>.off w
 |none=>.done s.sa
def Vf(s:RSt)(out:List Row):Prop:=match s.why with
 |some _=>out=[]
 |none=>Rising out/\∀p w,(p,w)∈out↔zI s.gi p=aa w
structure RnF(K:bt)(t:Adr):Prop where
 cl:Cls K t.q01
 n1:NoAttr K t.q01 "code"
 n2:NoAttr K t.q01 "at"
 n3:NoAttr K t.q01 "why"
 n4:NoAttr K t.q01 "slots"
 n5:NoAttr K t.q01 "gifts"
 n6:NoAttr K t.q01 "notes"
 n7:NoAttr K t.q01 "sayings"
def st0:RSt:=⟨0,ai,[],[],[],[]⟩
def X1(t:Adr):Sp:=λvs H Q _=>∃(x l dx:ac) (xs:List V) (C:List Cs),vs=[.ref x,.ref l]/\H x=aa (.ins t.q01 dx [])/\H l=aa (.lst xs)/\Paired (CsAt H) xs C/\∀H' a,JC x H H'->RnAt t H' x a C st0->(∀b,OwA x a b->b=x\/H b=ai)->Q .non H'
def xp(t:Adr):Sp:=λvs H Q _=>∃(x:ac) (a:RAd) (C:List Cs) (s:RSt),vs=[.ref x]/\RnAt t H x a C s/\∀H',Same H H'->Q (.bl (yD C s)) H'
def z8(t:Adr):Sp:=λvs H Q E=>∃(x tm:ac) (e:List V) (a:RAd) (C:List Cs) (s:RSt),vs=[.ref x,.ref tm]/\RnAt t H x a C s/\yS s.sl/\H tm=aa (.tup e)/\TermOk e/\∀H',Same H H'->fin t (rk s.sl e) Q E H'
def yN(t:Adr):Sp:=λvs H Q E=>∃(x p:ac) (xs:List V) (sh:Str) (te:ac) (e:List V) (a:RAd) (C:List Cs) (s:RSt),vs=[.ref x,.ref p]/\RnAt t H x a C s/\yS s.sl/\H p=aa (.tup xs)/\atI xs 1=aa (.str sh)/\atI xs 2=aa (.ref te)/\H te=aa (.tup e)/\TermOk e /\
 (∀i q H',rk s.sl e=.ok i->Same H H'->H' q=aa (.tup [.str sh,.int i])->Q (.ref q) H')/\∀er H',rk s.sl e=.error er->Same H H'->zeo t er E H'
def k8(t:Adr):Sp:=λvs H Q _=>∃(x q:ac) (p:Pl) (w:Int) (a:RAd) (C:List Cs) (s:RSt),vs=[.ref x,.ref q,.int w]/\RnAt t H x a C s/\H q=aa (.tup [.str p.1,.int p.2])/\s.no.length<=900/\∀H',Kp x a H H'->RnAt t H' x a C (wC p w s)->Q (.int (jK p w s)) H'
def Za(t:Adr):Sp:=λvs H Q E=>∃(x:ac) (v:V) (r:Rw) (w:Int) (m:Nat) (a:RAd) (C:List Cs) (s:RSt),vs=[.ref x,v,.int w]/\RnAt t H x a C s/\RwAt Ko H v r/\Yl r/\qO r/\RnOk m s/\m<=900 /\
 (∀H' s',doR r w s=.ok s'->Kp x a H H'->RnAt t H' x a C s'->Q .non H')/\∀H' er,doR r w s=.error er->Same H H'->zeo t er E H'
def jL(t:Adr):Sp:=λvs H Q E=>∃(x:ac) (v:V) (c:Cs) (w:Int) (m:Nat) (a:RAd) (C:List Cs) (s:RSt),vs=[.ref x,v,.int w]/\RnAt t H x a C s/\CsAt H v c/\Kz c/\RnOk m s/\m<=900 /\
 (∀H' s' k,vG c w s=.ok (k,s')->Kp x a H H'->RnAt t H' x a C s'->Q (.int (k:Nat)) H')/\∀H' er,vG c w s=.error er->Same H H'->zeo t er E H'
def jr(t:Adr):Sp:=λvs H Q _=>∃(x:ac) (w:Int) (m:Nat) (a:RAd) (C:List Cs) (s:RSt),vs=[.ref x,.int w]/\RnAt t H x a C s/\(∀c∈C,Kz c)/\RnOk m s/\m<=900/\∀H',Kp x a H H'->RnAt t H' x a C (xn C w s)->Q .non H'
def Zb(t:Adr):Sp:=λvs H Q _=>∃(x:ac) (a:RAd) (C:List Cs) (s:RSt),vs=[.ref x]/\RnAt t H x a C s/\(∀c∈C,Kz c)/\yS s.sl/\(∀H',qw C s=ai->Same H H'->Q .non H')/\∀p q H',qw C s=aa p->Same H H'->H' q=aa (.tup [.str p.1,.int p.2])->Q (.ref q) H'
def k9(t:Adr):Sp:=λvs H Q _=>∃(x:ac) (a:RAd) (C:List Cs) (s:RSt),vs=[.ref x]/\RnAt t H x a C s/\s.no.length<=900/\(s.no.map (·.1)).Nodup/\s.gi.length<=63/\(∀H',yD C s=ak->Same H H'->Q .non H') /\
 ∀r o nl gl out H',yD C s=af->Same H H'->H nl=ai->H gl=ai->nl≠gl->H' r=aa (.tup [o,.ref nl,.ref gl])->zhW H' o (zgY s)->LsAt H' nl s.no->LsAt H' gl out->Vf s out->Q (.ref r) H'
def wdJ(w:Str):Prop:=isJ (.str w)=af/\w.length<=1000/\cM w=af
def lfV(v:V):Prop:=(∃i,v=.int i/\inW i=af)\/∃x,v=.str x/\yJ x=af
def okD(d:Int):Prop:=0<=d/\d<1000000000000
def z9(K:bt):Sp:=λvs H Q _=>∃(a:ac) (ns:List Int) (k:Nat),vs=[.ref a,.int k]/\SqL K H a (ns.map V.int)/\ns.length<=63/\(∀i∈ns,Cb i)/\∀c H',Same H H'->Cb c->Q (.int c) H'
def xa:Sp:=λvs H Q _=>∃(c:Int) (m:Nat),vs=[.int c,.int m]/\m<=22/\∀(l:ac) (ds:List Int) (H':Hp),Same H H'->H l=ai->H' l=aa (.lst (ds.map V.int))->ds.length=m->(∀d∈ds,okD d)->Q (.ref l) H'
def YT(P:Nat->Bool)(x:Str):Prop:=x.cps.toList.all P=af
def smW(w:Str):Prop:=1<=w.length/\w.length<=6/\YT inL w
def yi:Sp:=λvs H Q _=>∃w,vs=[.str w]/\smW w/\∀x H',yJ x=af->Same H H'->Q (.str x) H'
def vH:Sp:=λvs H Q _=>∃c,vs=[.int c]/\∀nm ws H',Same H H'->H nm=ai->NamesAt H' nm ws->ws.length=2->Q (.ref nm) H'
def yX:Sp:=λvs H Q _=>∃n,vs=[.int n]/\0<=n/\n<1000000000000/\∀w H',inW w=af->Same H H'->Q (.int w) H'
def qb:Sp:=λvs H Q _=>∃n a ws,vs=[.int n,.ref a]/\okD n/\NamesAt H a ws/\ws.length=2/\∀p e H',Same H H'->H p=ai->H' p=aa (.tup e)->TermOk e->tmP e->Q (.ref p) H'
def vI:Sp:=λvs H Q _=>∃n a ws,vs=[.int n,.ref a]/\okD n/\NamesAt H a ws/\ws.length=2/\∀p e H',Same H H'->H p=ai->H' p=aa (.tup e)->TermOk e->tmP e->Q (.ref p) H'
def jM:Sp:=λvs H Q _=>∃c a ws,vs=[.int c,.ref a]/\NamesAt H a ws/\ws.length=2/\∀l tab H',Same H H'->H l=ai->LsAt H' l tab->Rising tab->(∀r∈tab,cM r.1.1=af/\inW r.2=af/\r.2≠0)->tab.length<=5->Q (.ref l) H'
mutual
def szR:Rw->Nat
 |.iff _ a b=>Zc a+Zc b+2
 |_=>1
def Zc:Rws->Nat
 |.nil=>0
 |.cons r rs=>szR r+Zc rs
end
def zfG:Cs->Prop
 |.row r=>W7 r
 |_=>True
structure zbg(C:List Cs):Prop where
 ok:∀c∈C,Kz c
 pl:∀c∈C,zfG c
 fw:∀(i to:Nat) (e:List V),C[i]?=aa (Cs.skip e to)->i<to
 fg:∀(i to:Nat),C[i]?=aa (Cs.go to)->i<to
 le:C.length<=40
structure RnI(C:List Cs)(m:Nat)(s:RSt):Prop where
 ok:RnOk m s
 ng:∀r∈s.gi,cM r.1.1=af
 nn:∀r∈s.no,cM r.1.1=af
 at_:s.why=ai->m<=s.n
 wy:∀w,s.why=aa w->cM w=af
def zhX(C:List Cs)(tb:Pl->Int)(s:RSt):Int:=match qw C s with
 |none=>0
 |some p=>tb p
def zhY(C:List Cs)(tb:Pl->Int)(s:RSt):RSt:=xn C (zhX C tb s) s
def zhZ(C:List Cs)(tb:Pl->Int):Nat->RSt->RSt
 |0,s=>s
 |k+1,s=>zhZ C tb k (zhY C tb s)
noncomputable def giS(s:RSt):List Row:=@Classical.epsilon (List Row) ⟨[]⟩ (Vf s)
structure rwW(r:Rw):Prop where
 nf:Vd r
 pl:W7 r
 ok:qO r
def Zd:Sp:=λvs H Q _=>∃(p a b:ac) (ds:List Int) (us ws:List Str),vs=[.ref p,.ref a,.ref b]/\H p=aa (.lst (ds.map V.int))/\ds.length=3/\(∀d∈ds,okD d)/\NamesAt H a us/\us.length=2/\NamesAt H b ws/\ws.length=2/\∀v r H',Same H H'->RwAt (λb=>H b=ai) H' v r->rwW r->Q v H'
def Rws.of:List Rw->Rws
 |[]=>.nil
 |r::rs=>.cons r (Rws.of rs)
structure zfH(rs:List Rw):Prop where
 dp:(Rws.of rs).deep<=1
 pl:qP (Rws.of rs)
 ok:ZM (Rws.of rs)
 sz:(rs.map λr=>match r with|.iff _ a b=>a.cnt+b.cnt+3|_=>1).sum<=11
def qc:Sp:=λvs H Q _=>∃(c:Int) (a b:ac) (us ws:List Str),vs=[.int c,.ref a,.ref b]/\NamesAt H a us/\us.length=2/\NamesAt H b ws/\ws.length=2/\∀l rs H',Same H H'->RlAt (λb=>H b=ai) H' (.ref l) (Rws.of rs)->zfH rs->Q (.ref l) H'
def Vg(p:Pl)(made:Int):List Row->Int×Int->Int×Int
 |[],s=>s
 |r::rs,s=>Vg p made rs (if r.1=p then (made,r.2) else s)
def wD(p:Pl)(rank:Int):List (Int×List Row)->Int×Int->Int×Int
 |[],s=>s
 |l::ls,s=>wD p rank ls (if s.1<l.1/\l.1<rank then Vg p l.1 l.2 s else s)
def yE(rows:List Row)(lays:List (Int×List Row))(p:Pl)(rank:Int):Int:=(wD p rank lays (-1,(zI rows p).getD 0)).2
structure Wk(gs:List Row):Prop where
 nd:(gs.map (·.1)).Nodup
 le:gs.length<=63
def ZG(lays:List (Int×List Row))(p:Pl)(r:Int):Prop:=∃gs,(r,gs)∈lays/\p∈gs.map (·.1)
structure RkAt(H:Hp)(rk:ac)(F:ac->Prop)(P:Pl->Int->Prop)(kvs:List (List Key×V)):Prop where
 at_:H rk=aa (.dT kvs)
 nk:(kvs.map (·.1)).Nodup
 nv:(kvs.map (·.2)).Nodup
 ls:∀kv∈kvs,∃(p:Pl) (a:ac) (rs:List Int),kv=(zC p,.ref a)/\F a/\H a=aa (.lst (rs.map V.int))/\rs.Pairwise (· < ·)/\rs≠[]/\∀r,r∈rs↔P p r
 al:∀p r,P p r->zC p∈kvs.map (·.1)
def zab(H:Hp)(rk:ac)(F:ac->Prop)(kv:Key×V)(y:Int×List Row):Prop:=kv.1=.inl y.1/\∃d,kv.2=.ref d/\F d/\d≠rk/\H d=aa (.dT (dOf y.2))
def Yo(gr:ac)(low:Int)(wo rk:ac):List (Str×V):=[(bc "ground",.ref gr),(bc "folded",.int low),(bc "worths",.ref wo),(bc "ranks",.ref rk)]
structure MrIn(t:Adr)(H:Hp)(m:ac)(F:ac->Prop)(g:List Row)(l:List (Int×List Row))(low:Int)(dx gr wo rk:ac)(wk:List (Key×V))(kk:List (List Key×V)):Prop where
 im:H m=aa (.ins t.q02 dx (Yo gr low wo rk))
 fg:F gr
 fw:F wo
 fk:F rk
 nr:gr≠rk
 hg:H gr=aa (.dT (dOf g))
 hw:H wo=aa (.dK wk)
 wp:Paired (zab H rk F) wk l
 rr:RkAt H rk F (ZG l) kk
theorem RkAt.keep{H H':Hp}{rk:ac}{F F':ac->Prop}{P:Pl->Int->Prop}(h:RkAt H rk F P kvs)(fk:F rk)(k:∀b o,F b->H b=aa o->H' b=aa o)(ff:∀b,F b->F' b):RkAt H' rk F' P kvs:=
 ⟨k _ _ fk h.at_,h.nk,h.nv,λkv hk=>let ⟨p,a,rs,e,fa,ha,z⟩:=h.ls kv hk;⟨p,a,rs,e,ff a fa,k _ _ fa ha,z⟩,h.al⟩
theorem MrIn.keep{H H':Hp}{m:ac}{F:ac->Prop}{g:List Row}{l:List (Int×List Row)}{low:Int}{dx gr wo rk:ac}{wk:List (Key×V)}{kk:List (List Key×V)}(h:MrIn t H m F g l low dx gr wo rk wk kk)(me:F m)(k:∀b o,F b->H b=aa o->H' b=aa o):MrIn t H' m F g l low dx gr wo rk wk kk:=
 ⟨k _ _ me h.im,h.fg,h.fw,h.fk,h.nr,k _ _ h.fg h.hg,k _ _ h.fw h.hw,Paired.mapP h.wp λ_ _ ⟨e,d,e2,fd,nd,hd⟩=>⟨e,d,e2,fd,nd,k _ _ fd hd⟩,h.rr.keep h.fk k λ_ z=>z⟩
structure MrAt(t:Adr)(H:Hp)(m:ac)(F:ac->Prop)(g:List Row)(l:List (Int×List Row))(low:Int):Prop where
 own:∀b,F b->∃o,H b=aa o
 me:F m
 nd:(l.map (·.1)).Nodup
 ok:∀y∈l,0<=y.1/\Wk y.2
 ex:∃dx gr wo rk wk kk,MrIn t H m F g l low dx gr wo rk wk kk
theorem ki{gr wo rk:ac}{low:Int}(h:f≠bc "ground"/\f≠bc "folded"/\f≠bc "worths"/\f≠bc "ranks"):cW f (Yo gr low wo rk)=ai:=by
 obtain⟨h1,h2,h3,h4⟩:=h
 simp only[Yo,b7,beq_eq_false_iff_ne.mpr h1,beq_eq_false_iff_ne.mpr h2,beq_eq_false_iff_ne.mpr h3,beq_eq_false_iff_ne.mpr h4,List.lookup_nil]
theorem MrAt.ins{H:Hp}{F:ac->Prop}{l:List (Int×List Row)}{low:Int}(h:MrAt t H m F g l low):∃dx fs,H m=aa (.ins t.q02 dx fs)/\cW (bc "lay") fs=ai/\cW (bc "seen") fs=ai/\cW (bc "kept") fs=ai/\cW (bc "fold") fs=ai/\cW (bc "table_for") fs=ai:=by
 obtain⟨dx,gr,wo,rk,wk,kk,z⟩:=h.ex
 exact⟨dx,_,z.im,ki (by lia),ki (by lia),ki (by lia),ki (by lia),ki (by lia)⟩
theorem MrAt.keep{H H':Hp}{F:ac->Prop}{l:List (Int×List Row)}{low:Int}(h:MrAt t H m F g l low)(k:∀b o,F b->H b=aa o->H' b=aa o):MrAt t H' m F g l low:=
 ⟨λb hb=>let ⟨o,e⟩:=h.own b hb;⟨o,k b o hb e⟩,h.me,h.nd,h.ok,let ⟨dx,gr,wo,rk,wk,kk,z⟩:=h.ex;⟨dx,gr,wo,rk,wk,kk,z.keep h.me k⟩⟩
def MkAt(t:Adr)(H:Hp)(m:ac)(F:ac->Prop)(g:List Row)(l:List (Int×List Row)):Prop:=MrAt t H m F g l 0
theorem MkAt.own{H:Hp}{F:ac->Prop}{l:List (Int×List Row)}(h:MkAt t H m F g l):∀b,F b->∃o,H b=aa o:=MrAt.own h
theorem MkAt.me{H:Hp}{F:ac->Prop}{l:List (Int×List Row)}(h:MkAt t H m F g l):F m:=MrAt.me h
theorem MkAt.ins{H:Hp}{F:ac->Prop}{l:List (Int×List Row)}(h:MkAt t H m F g l):∃dx fs,H m=aa (.ins t.q02 dx fs)/\cW (bc "lay") fs=ai/\cW (bc "seen") fs=ai/\cW (bc "kept") fs=ai:=let ⟨dx,fs,a,b,c,d,_⟩:=MrAt.ins h;⟨dx,fs,a,b,c,d⟩
theorem MkAt.keep{H H':Hp}{F:ac->Prop}{l:List (Int×List Row)}(h:MkAt t H m F g l)(k:∀b o,F b->H b=aa o->H' b=aa o)(ts:∀b zs,H b=aa (.tup zs)->H' b=aa (.tup zs)):MkAt t H' m F g l:=MrAt.keep h k
theorem MkAt.same{H H':Hp}{F:ac->Prop}{l:List (Int×List Row)}(h:MkAt t H m F g l)(s:Same H H'):MkAt t H' m F g l:=h.keep (λb o _ e=>s b o e) λb zs e=>s b _ e
def kj(lays:List (Int×List Row))(rank:Int)(gs:List Row):List (Int×List Row):=(lays.filter λy=>decide (y.1≠rank))++[(rank,gs)]
def yF:Sp:=λvs H Q _=>∃(a:ac) (rs:List Int) (rank:Int),vs=[.ref a,.int rank]/\H a=aa (.lst (rs.map V.int))/\rs.Pairwise (· < ·)/\∀(k:Nat) H',Same H H'->k<=rs.length->(∀r∈rs.take k,r<rank)->(∀r∈rs.drop k,rank<=r)->Q (.int k) H'
def yL(t:Adr):Sp:=λvs H Q _=>∃(m dx:ac) (fs:List (Str×V)) (low rank:Int),vs=[.ref m,.int rank]/\H m=aa (.ins t.q02 dx fs)/\fs.lookup (bc "folded")=aa (.int low)/\low<=rank/\∀H',Same H H'->Q .non H'
def VN(lays:List (Int×List Row))(rank:Int):List (Int×List Row):=lays.filter λy=>decide (y.1≠rank)
def KeepR(G:ac->Prop)(rk:ac)(H H':Hp):Prop:=∀b o,H b=aa o->b≠rk->((∀xs,o≠.lst xs)\/¬ G b)->H' b=aa o
def Dm(H H':Hp):Prop:=∀b o,H b=aa o->∃o',H' b=aa o'/\∀zs,o'=.tup zs->o=.tup zs
def wY:Sp:=λvs H Q _=>∃(rk pl:ac) (rank:Int) (G:ac->Prop) (P:Pl->Int->Prop) (kk:List (List Key×V)) (q0:Pl),vs=[.ref rk,.ref pl,.int rank]/\RkAt H rk G P kk/\G rk/\(∀b,H b=ai->G b)/\H pl=aa (.tup ((zC q0).map kV))/\¬ P q0 rank/\kk.length<=18900/\(∀rs:List Int,rs.Pairwise (· < ·)->(∀r∈rs,P q0 r)->rs.length<=300)/\∀H' kk',KeepR G rk H H'->Dm H H'->RkAt H' rk G (λp r=>P p r\/(r=rank/\p=q0)) kk'->Q .non H'
def xx:Sp:=λvs H Q _=>∃(rk pl:ac) (rank:Int) (G:ac->Prop) (P:Pl->Int->Prop) (kk:List (List Key×V)) (q0:Pl),vs=[.ref rk,.ref pl,.int rank]/\RkAt H rk G P kk/\G rk/\H pl=aa (.tup ((zC q0).map kV))/\P q0 rank/\∀H' kk',KeepR G rk H H'->Dm H H'->RkAt H' rk G (λp r=>P p r/\¬ (r=rank/\p=q0)) kk'->Q .non H'
def yo(t:Adr):Sp:=λvs H Q _=>∃m rank F g lays low,vs=[.ref m,.int rank]/\MrAt t H m F g lays low/\∀l ys gs H',Same H H'->H l=ai->H' l=aa (.lst ys)->Paired (zcI H') ys (dOf gs)->((rank,gs)∈lays\/(rank ∉ lays.map (·.1)/\gs=[]))->Q (.ref l) H'
def y6(t:Adr):Sp:=λvs H Q _=>∃m rank F g lays low,vs=[.ref m,.int rank]/\MrAt t H m F g lays low/\∀H' F',(∀b o,¬ F b->H b=aa o->H' b=aa o)->(∀b zs,H b=aa (.tup zs)->H' b=aa (.tup zs))->MrAt t H' m F' g (VN lays rank) low->(∀b,F' b->F b\/H b=ai)->(∀b,F b->F' b)->Q .non H'
def jN(t:Adr):Sp:=λvs H Q _=>∃x h dx rows,vs=[.ref x,.ref h]/\H x=aa (.ins t.q02 dx [])/\LsAt H h rows/\rows.length<=63/\∀H' F,JC x H H'->MkAt t H' x F rows []->(∀b,F b->b=x\/H b=ai)->Q .non H'
def YU(t:Adr):Sp:=λvs H Q _=>∃m rank gv F g lays gs,vs=[.ref m,.int rank,.ref gv]/\MkAt t H m F g lays/\0<=rank/\LsAt H gv gs/\¬ F gv/\Wk gs/\lays.length<=200/\∀H' F',(∀b o,¬ F b->H b=aa o->H' b=aa o)->(∀b zs,H b=aa (.tup zs)->H' b=aa (.tup zs))->MkAt t H' m F' g (kj lays rank gs)->(∀b,F' b->F b\/H b=ai)->(∀b,F b->F' b)->Q .non H'
def jO(t:Adr):Sp:=λvs H Q _=>∃m p rank F g lays q,vs=[.ref m,.ref p,.int rank]/\MkAt t H m F g lays/\0<=rank/\H p=aa (.tup [.str q.1,.int q.2])/\∀H',Same H H'->Q (.int (yE g lays q rank)) H'
inductive Ev where
 |rest
 |step (r:Int)
 |read (r:Int) (p:Pl) (w:Int)
 |take (r:Int)
 |lay (r:Int)
 |settle (r:Int)
 |again (r:Int) (p:Pl) (o n:Int)
abbrev He:=Int×Ev
def evW:Ev->Str
 |.rest=>"rest"
 |.step _=>"step"
 |.read ..=>"read"
 |.take _=>"take"
 |.lay _=>"lay"
 |.settle _=>"settle"
 |.again ..=>"again"
def evX(q:ac):Ev->List V
 |.rest=>[]
 |.step r=>[.int r]
 |.read r _ w=>[.int r,.ref q,.int w]
 |.take r=>[.int r]
 |.lay r=>[.int r]
 |.settle r=>[.int r]
 |.again r _ o n=>[.int r,.ref q,.int o,.int n]
def evP:Ev->Option Pl
 |.read _ p _=>aa p
 |.again _ p _ _=>aa p
 |_=>ai
def EvAt(H:Hp)(v:V)(x:He):Prop:=∃a q,v=.ref a/\H a=aa (.tup (.str (evW x.2)::.int x.1::evX q x.2))/\∀p,evP x.2=aa p->H q=aa (.tup [.str p.1,.int p.2])
structure DS where
 ws:List Int
 hl:List (Int×Int×Nat×RSt)
 ld:List (Int×RSt×List Row)
 ls:List (Int×List Row)
 en:Nat
def XA{β:Type}(l:List (Int×β))(h:Int)(b:β):List (Int×β):=l.map λe=>if e.1=h then (h,b) else e
def yd{β:Type}(l:List (Int×β))(h:Int):List (Int×β):=l.filter λe=>decide (e.1≠h)
inductive Mv (f:Int) (g:List Row) (CC:List (List Cs)) (S:DS) (h:Int):Ev->DS->Prop
 |step {r j s C}:(h,r,j,s)∈S.hl->CC[(r-f).toNat]?=aa C->yD C s=ak->qw C s=ai->Mv f g CC S h (.step r) { S with hl:=XA S.hl h (r,j+1,xn C 0 s) }
 |read {r j s C p}:(h,r,j,s)∈S.hl->CC[(r-f).toNat]?=aa C->yD C s=ak->qw C s=aa p->Mv f g CC S h (.read r p (yE g S.ls p r)) { S with hl:=XA S.hl h (r,j+1,xn C (yE g S.ls p r) s) }
 |lay {r j s C gi}:(h,r,j,s)∈S.hl->CC[(r-f).toNat]?=aa C->yD C s=af->Vf s gi->Mv f g CC S h (.lay r) { S with hl:=yd S.hl h,ls:=kj S.ls r gi,ld:=S.ld++[(r,s,gi)] }
 |settle {s gi}:(f+S.en,s,gi)∈S.ld->h ∉ S.hl.map (·.1)->Mv f g CC S h (.settle (f+S.en)) { S with ld:=yd S.ld (f+S.en),en:=S.en+1 }
 |again {r s gi p o ws'}:(r,s,gi)∈S.ld->(p,o)∈s.no->yE g S.ls p r≠o->ws'.Perm (r::S.ws)->ws'.Pairwise (· < ·)->h ∉ S.hl.map (·.1)->Mv f g CC S h (.again r p o (yE g S.ls p r)) { S with ld:=yd S.ld r,ws:=ws' }
 |take {r}:r∈S.ws->h ∉ S.hl.map (·.1)->Mv f g CC S h (.take r) { S with ws:=S.ws.erase r,hl:=S.hl++[(h,r,0,st0)] }
 |rest:S.ws=[]->f+(S.en:Int) ∉ S.ld.map (·.1)->h ∉ S.hl.map (·.1)->Mv f g CC S h .rest S
structure zep(no gi:List Row):Prop where
 nd:(no.map (·.1)).Nodup
 ng:(gi.map (·.1)).Nodup
 ln:no.length<=40
 lg:gi.length<=40
def jg(f:Int)(k n:Nat):List Int:=(da (n-k)).map λi:Nat=>f+(k:Int)+(i:Int)
structure zfI(CC:List (List Cs)):Prop where
 ok:∀C∈CC,zbg C/\C.length<=11
 le:CC.length<=5
structure DsOk(n f:Int)(g:List Row)(CC:List (List Cs))(S:DS):Prop where
 f0:0<=f
 cc:zfI CC
 el:S.en<=CC.length
 pm:(S.ws++(S.hl.map (·.2.1)++S.ld.map (·.1))).Perm (jg f S.en CC.length)
 so:S.ws.Pairwise (· < ·)
 hn:(S.hl.map (·.1)).Nodup
 hr:∀e∈S.hl,0<=e.1/\e.1<n
 rn:∀e∈S.hl,∃C,CC[(e.2.1-f).toNat]?=aa C/\RnI C e.2.2.1 e.2.2.2/\e.2.2.1<=11
 nt:∀e∈S.ld,zep e.2.1.no e.2.2
 ly:∀y∈S.ls,f<=y.1/\y.1<f+CC.length
 gw:∀p,inW ((zI g p).getD 0)=af
 lw:∀y∈S.ls,∀w∈y.2,inW w.2=af
def Agr(g:List Row)(ls:List (Int×List Row))(r:Int)(no:List Row):Prop:=∀y∈no,yE g ls y.1 r=y.2
structure DAd where
 dx:ac
 wy:ac
 dw:ac
 cl:ac
 wl:ac
 hd:ac
 mks:ac
 jb:ac
 dj:ac
 en:ac
 la:ac
 re:ac
 db:ac
def YV(a:DAd)(n f:Int):List (Str×V):=[(bc "hands",.int n),(bc "way",.ref a.wy),(bc "first",.int f),(bc "codes",.ref a.cl),(bc "waiting",.ref a.wl),(bc "held",.ref a.hd),(bc "makes",.ref a.mks),(bc "jobs",.ref a.jb),(bc "ended",.ref a.en)]
def VO(m la re db:ac):List (Str×V):=[(bc "makes",.ref m),(bc "laid",.ref la),(bc "readers",.ref re),(bc "doubted",.ref db)]
def dbL(db:List Int):List (Key×V):=db.map λr=>(.inl r,.bl af)
def dkL(t:Adr)(d:ac)(a:DAd)(n f:Int)(wo:HO)(cs:List V)(ws:List Int)(kv la:List (Key×V))(db:List Int)(en:List V):List (ac×HO):=[(d,.ins t.q00 a.dx (YV a n f)),(a.wy,wo),(a.jb,.ins t.q03 a.dj (VO a.mks a.la a.re a.db)),(a.cl,.lst cs),(a.wl,.lst (ws.map V.int)),(a.hd,.dK kv),(a.la,.dK la),(a.db,.dK (dbL db)),(a.en,.lst en)]
def CoAt(H:Hp)(v:V)(C:List Cs):Prop:=∃a ys,v=.ref a/\H a=aa (.lst ys)/\Paired (CsAt H) ys C
structure DkO(t:Adr)(H:Hp)(lb:ac->Nat)(L:List (ac×HO))(m re:ac)(g:List Row)(lays:List (Int×List Row))(P:Pl->Int->Prop)(cs:List V)(CC:List (List Cs)):Prop where
 ob:∀(i:Nat) b o,L[i]?=aa (b,o)->H b=aa o/\lb b=i+1
 ms:MkAt t H m (λb=>lb b=10) g lays
 rr:∃kk,RkAt H re (λb=>lb b=11) P kk
 rl:lb re=11
 cc:Paired (λv C=>CoAt H v C/\∀c,v=.ref c->lb c=13) cs CC
 ow:∀b,lb b≠0->∃o,H b=aa o
structure Fr(M:Nat->Prop)(H H':Hp)(lb lb':ac->Nat):Prop where
 ex:∀b o,H b=aa o->lb' b=lb b
 kp:∀b o,M (lb b)->H b=aa o->H' b=aa o
 ts:∀b zs,H b=aa (.tup zs)->H' b=aa (.tup zs)
 al:∀b o,H b=aa o->∃o',H' b=aa o'
def M0(l:Nat):Prop:=l=0\/l=14
def M1(l:Nat):Prop:=l=0\/14<=l
def PprAt(H:Hp)(lb:ac->Nat)(r:ac)(no gi:List Row):Prop:=∃o nl gl,H r=aa (.tup [o,.ref nl,.ref gl])/\LsAt H nl no/\LsAt H gl gi/\lb nl=14/\lb gl=14
def Pk{β:Type}(R:Int->V->β->Prop)(kv:List (Key×V))(l:List (Int×β)):Prop:=Paired (λx e=>x.1=.inl e.1/\R e.1 x.2 e.2) kv l
def HdAt(t:Adr)(H:Hp)(lb:ac->Nat)(f:Int)(CC:List (List Cs))(h:Int)(v:V)(e:Int×Nat×RSt):Prop:=∃tp x ra C,v=.ref tp/\H tp=aa (.tup [.int e.1,.ref x])/\CC[(e.1-f).toNat]?=aa C/\RnAt t H x ra C e.2.2/\∀b,OwA x ra b->lb b=20+h.toNat
def KA(H:Hp)(lb:ac->Nat)(_:Int)(v:V)(e:RSt×List Row):Prop:=∃r,v=.ref r/\PprAt H lb r e.1.no e.2
def rdP(ld:List (Int×RSt×List Row))(p:Pl)(i:Int):Prop:=∃e∈ld,e.1=i/\p∈e.2.1.no.map (·.1)
def zgZ(t:Adr)(a:DAd)(wo:HO):Prop:=wo=.ins t.q0e a.dw []\/wo=.ins t.q0d a.dw []\/∃k:Nat,wo=.ins t.q05 a.dw [(bc "times",.int k)]
structure DbOk(ld:List (Int×RSt×List Row))(db:List Int):Prop where
 nd:db.Nodup
 su:∀r∈db,r∈ld.map (·.1)
def DkG(t:Adr)(H:Hp)(d:ac)(a:DAd)(lb:ac->Nat)(n f:Int)(g:List Row)(CC:List (List Cs))(S:DS):Prop:=∃wo cs kv la db en,DkO t H lb (dkL t d a n f wo cs S.ws kv la db en) a.mks a.re g S.ls (rdP S.ld) cs CC/\Pk (HdAt t H lb f CC) kv S.hl/\Pk (KA H lb) la S.ld/\DbOk S.ld db/\en.length=S.en/\zgZ t a wo
structure DkF(K:bt)(t:Adr):Prop where
 cD:Cls K t.q00
 cJ:Cls K t.q03
 cT:Cls K t.q05
 d1:NoAttr K t.q00 "hands"
 d2:NoAttr K t.q00 "way"
 d3:NoAttr K t.q00 "first"
 d4:NoAttr K t.q00 "codes"
 d5:NoAttr K t.q00 "waiting"
 d6:NoAttr K t.q00 "held"
 d7:NoAttr K t.q00 "makes"
 d8:NoAttr K t.q00 "jobs"
 d9:NoAttr K t.q00 "ended"
 j1:NoAttr K t.q03 "makes"
 j2:NoAttr K t.q03 "laid"
 j3:NoAttr K t.q03 "readers"
 j4:NoAttr K t.q03 "doubted"
 t1:NoAttr K t.q05 "times"
def xD(t:Adr):Sp:=λvs H Q _=>∃m p rank F g lays q,vs=[.ref m,.ref p,.int rank]/\MkAt t H m F g lays/\H p=aa (.tup ((zC q).map kV))/\∀v H',Same H H'->(v=.non\/∃i,v=.int i)->Q v H'
def qd(t:Adr):Sp:=λvs H Q _=>∃(x m dx:ac),vs=[.ref x,.ref m]/\H x=aa (.ins t.q03 dx [])/\∀H' la re db,JC x H H'->H' x=aa (.ins t.q03 dx (VO m la re db))->H' la=aa (.dK [])->H' re=aa (.dT [])->H' db=aa (.dK [])->H la=ai->H re=ai->H db=ai->la≠db->Q .non H'
def jP(t:Adr):Sp:=λvs H Q _=>∃(d:ac) (a:DAd) (lb:ac->Nat) (n f:Int) (wo:HO) (cs:List V) (ws:List Int) (kv la:List (Key×V)) (db:List Int) (en:List V) (g:List Row) (lays:List (Int×List Row)) (ld:List (Int×RSt×List Row)) (CC:List (List Cs)) (p:ac) (rank:Int) (q:Pl),vs=[.ref a.jb,.ref p,.int rank]/\DkO t H lb (dkL t d a n f wo cs ws kv la db en) a.mks a.re g lays (rdP ld) cs CC/\DbOk ld db/\ld.length<=10/\H p=aa (.tup ((zC q).map kV))/\∀H' db',Fr M1 H H' lb lb->DkO t H' lb (dkL t d a n f wo cs ws kv la db' en) a.mks a.re g lays (rdP ld) cs CC->DbOk ld db'->Q .non H'
def wN(t:Adr):Sp:=λvs H Q _=>∃(d:ac) (a:DAd) (lb:ac->Nat) (n f:Int) (wo:HO) (cs:List V) (ws:List Int) (kv la:List (Key×V)) (db:List Int) (en:List V) (g:List Row) (lays:List (Int×List Row)) (ld:List (Int×RSt×List Row)) (CC:List (List Cs)) (r:ac) (rank:Int) (s:RSt) (gi:List Row),vs=[.ref a.jb,.int rank,.ref r]/\DkO t H lb (dkL t d a n f wo cs ws kv la db en) a.mks a.re g lays (rdP ld) cs CC/\Pk (KA H lb) la ld/\DbOk ld db/\(∀e∈ld,zep e.2.1.no e.2.2)/\ld.length<=10/\rank ∉ ld.map (·.1)/\0<=rank/\lays.length<=10/\PprAt H lb r s.no gi/\zep s.no gi/\∀H' lb' la' db',Fr M1 H H' lb lb'->DkO t H' lb' (dkL t d a n f wo cs ws kv la' db' en) a.mks a.re g (kj lays rank gi) (rdP (ld++[(rank,s,gi)])) cs CC->Pk (KA H' lb') la' (ld++[(rank,s,gi)])->DbOk (ld++[(rank,s,gi)]) db'->Q .non H'
def wZ(t:Adr):Sp:=λvs H Q _=>∃(d:ac) (a:DAd) (lb:ac->Nat) (L:List (ac×HO)) (la:List (Key×V)) (g:List Row) (lays:List (Int×List Row)) (P:Pl->Int->Prop) (cs:List V) (CC:List (List Cs)) (rank:Int) (r:ac) (no gi:List Row),vs=[.ref a.jb,.int rank]/\DkO t H lb L a.mks a.re g lays P cs CC/\L[2]?=aa (a.jb,.ins t.q03 a.dj (VO a.mks a.la a.re a.db))/\L[6]?=aa (a.la,.dK la)/\z4 la (.inl rank)=aa (.ref r)/\0<=rank/\PprAt H lb r no gi/\(∀H',Same H H'->Q .non H')/\∀v H' q y,Same H H'->y∈no->yE g lays y.1 rank≠y.2->H' v=aa (.tup [.ref q,.int y.2,.int (yE g lays y.1 rank)])->H' q=aa (.tup [.str y.1.1,.int y.1.2])->Q (.ref v) H'
def y7(t:Adr):Sp:=λvs H Q _=>∃(d:ac) (a:DAd) (lb:ac->Nat) (n f:Int) (wo:HO) (cs:List V) (ws:List Int) (kv la:List (Key×V)) (db:List Int) (en:List V) (g:List Row) (lays:List (Int×List Row)) (ld:List (Int×RSt×List Row)) (CC:List (List Cs)),vs=[.ref a.jb]/\DkO t H lb (dkL t d a n f wo cs ws kv la db en) a.mks a.re g lays (rdP ld) cs CC/\Pk (KA H lb) la ld/\DbOk ld db/\ld.length<=10/\(∀e∈ld,0<=e.1)/\(∀H' db',Fr M1 H H' lb lb->DkO t H' lb (dkL t d a n f wo cs ws kv la db' en) a.mks a.re g lays (rdP ld) cs CC->DbOk ld db'->Q .non H') /\
 ∀v H' db' q r s gi y,Fr M1 H H' lb lb->DkO t H' lb (dkL t d a n f wo cs ws kv la db' en) a.mks a.re g lays (rdP ld) cs CC->DbOk ld db'->(r,s,gi)∈ld->y∈s.no->yE g lays y.1 r≠y.2->H' v=aa (.tup [.int r,.ref q,.int y.2,.int (yE g lays y.1 r)])->H' q=aa (.tup [.str y.1.1,.int y.1.2])->Q (.ref v) H'
def xz(t:Adr):Sp:=λvs H Q _=>∃(d:ac) (a:DAd) (lb:ac->Nat) (n f:Int) (wo:HO) (cs:List V) (ws:List Int) (kv la:List (Key×V)) (db:List Int) (en:List V) (g:List Row) (lays:List (Int×List Row)) (ld:List (Int×RSt×List Row)) (CC:List (List Cs)) (rank:Int) (s:RSt) (gi:List Row),vs=[.ref a.jb,.int rank]/\DkO t H lb (dkL t d a n f wo cs ws kv la db en) a.mks a.re g lays (rdP ld) cs CC/\Pk (KA H lb) la ld/\DbOk ld db/\(ld.map (·.1)).Nodup/\(rank,s,gi)∈ld/\(s.no.map (·.1)).Nodup/\∀r H' lb' la' db',Fr M1 H H' lb lb'->DkO t H' lb' (dkL t d a n f wo cs ws kv la' db' en) a.mks a.re g lays (rdP (yd ld rank)) cs CC->Pk (KA H' lb') la' (yd ld rank)->DbOk (yd ld rank) db'->Q (.ref r) H'
def qx(t:Adr):Sp:=λvs H Q _=>∃(x dx:ac),vs=[.ref x]/\H x=aa (.ins t.q05 dx [])/\Q .non (upd H x (.ins t.q05 dx [(bc "times",.int 0)]))
def xA(t:Adr):Sp:=λvs H Q _=>∃(x l w dx dw:ac) (n f:Int) (wo:HO) (g:List Row),vs=[.ref x,.ref l,.int n,.ref w,.int f]/\H x=aa (.ins t.q00 dx [])/\LsAt H l g/\g.length<=63/\H w=aa wo/\w≠x/\∀H' a lb,a.wy=w->a.dw=dw->(∀b o,b≠x->H b=aa o->H' b=aa o)->(∀b o,b≠x->b≠w->H b=aa o->lb b=0)->DkO t H' lb (dkL t x a n f wo [] [] [] [] [] []) a.mks a.re g [] (rdP []) [] []->Q .non H'
def xH(t:Adr):Sp:=λvs H Q _=>∃(d dx:ac) (a:DAd) (n f:Int) (en:List V),vs=[.ref d]/\H d=aa (.ins t.q00 dx (YV a n f))/\H a.en=aa (.lst en)/\Q (.int (f+en.length)) H
def wd(t:Adr):Sp:=λvs H Q _=>∃(d dx:ac) (a:DAd) (n f:Int) (cs:List V),vs=[.ref d]/\H d=aa (.ins t.q00 dx (YV a n f))/\H a.cl=aa (.lst cs)/\Q (.int (f+cs.length)) H
def zcM(f:Int)(n:Nat)(S:DS):DS:={ S with ws:=S.ws++[f+n] }
def jt(t:Adr):Sp:=λvs H Q _=>∃(d:ac) (v:V) (a:DAd) (lb:ac->Nat) (n f:Int) (g:List Row) (CC:List (List Cs)) (C:List Cs) (S:DS),vs=[.ref d,v]/\CoAt H v C/\DkG t H d a lb n f g CC S/\CC.length<=10/\S.ws.length<=10/\∀H' lb',Fr M0 H H' lb lb'->DkG t H' d a lb' n f g (CC++[C]) (zcM f CC.length S)->Q (.int (f+CC.length)) H'
def ZO(t:Adr):Sp:=λvs H Q _=>∃(x l:ac) (ws:List Int),vs=[.ref x,.ref l]/\H l=aa (.lst (ws.map V.int))/\ws≠[]/\∀w∈ws,Q (.int w) H
def ju(t:Adr):Sp:=λvs H Q _=>∃(x l:ac) (ws:List Int),vs=[.ref x,.ref l]/\H l=aa (.lst (ws.map V.int))/\ws≠[]/\∀w∈ws,Q (.int w) H
def jv(t:Adr):Sp:=λvs H Q _=>∃(x l dw:ac) (ws:List Int) (k:Nat),vs=[.ref x,.ref l]/\H l=aa (.lst (ws.map V.int))/\ws≠[]/\H x=aa (.ins t.q05 dw [(bc "times",.int k)])/\∀w∈ws,Q (.int w) (upd H x (.ins t.q05 dw [(bc "times",.int (k+1:Nat))]))
def wO(t:Adr):Sp:=λvs H Q _=>∃(d:ac) (a:DAd) (lb:ac->Nat) (n f h:Int) (g:List Row) (CC:List (List Cs)) (S:DS),vs=[.ref d,.int h]/\DkG t H d a lb n f g CC S/\DsOk n f g CC S/\h ∉ S.hl.map (·.1)/\S.ws≠[]/\∀v H' lb' r,Fr M0 H H' lb lb'->r∈S.ws->EvAt H' v (h,.take r)->DkG t H' d a lb' n f g CC { S with ws:=S.ws.erase r,hl:=S.hl++[(h,r,0,st0)] }->Q v H'
def mvP(t:Adr)(H:Hp)(d:ac)(a:DAd)(lb:ac->Nat)(n f h:Int)(g:List Row)(CC:List (List Cs))(S:DS)(Q:VK):Prop:=∀v H' lb' e S',Fr M0 H H' lb lb'->EvAt H' v (h,e)->Mv f g CC S h e S'->DkG t H' d a lb' n f g CC S'->Q v H'
def xK(t:Adr):Sp:=λvs H Q _=>∃(d:ac) (a:DAd) (lb:ac->Nat) (n f h:Int) (g:List Row) (CC:List (List Cs)) (S:DS),vs=[.ref d,.int h]/\DkG t H d a lb n f g CC S/\DsOk n f g CC S/\h ∉ S.hl.map (·.1)/\mvP t H d a lb n f h g CC S Q
def we(t:Adr):Sp:=λvs H Q _=>∃(d:ac) (a:DAd) (lb:ac->Nat) (n f h:Int) (g:List Row) (CC:List (List Cs)) (S:DS),vs=[.ref d,.int h]/\DkG t H d a lb n f g CC S/\DsOk n f g CC S/\0<=h/\h<n/\mvP t H d a lb n f h g CC S Q
def xq(t:Adr):Sp:=λvs H Q _=>∃(d:ac) (a:DAd) (lb:ac->Nat) (n f:Int) (g:List Row) (CC:List (List Cs)) (S:DS) (J:List He->DS->Prop),vs=[.ref d]/\DkG t H d a lb n f g CC S/\DsOk n f g CC S/\1<=n/\n<=8/\J [] S/\(∀es S h e S',J es S->DsOk n f g CC S->Mv f g CC S h e S'->J (es++[(h,e)]) S')/\∀l xs es H' lb' S',Fr M0 H H' lb lb'->lb' l=0->H' l=aa (.lst xs)->Paired (EvAt H') xs es->xs.length<=10000->J es S'->DsOk n f g CC S'->S'.en=CC.length->DkG t H' d a lb' n f g CC S'->Q (.ref l) H'
structure Ct where
 tk:Nat->Nat
 ly:Nat->Nat
 ag:Nat->Nat
 st:Nat
def upN(q:Nat->Nat)(k:Nat):Nat->Nat:=λi=>if i=k then q i+1 else q i
def XB(q:Nat->Nat)(k:Nat):Nat:=((da k).map q).sum
def CtS(f:Int)(many:Nat)(c:Ct):Ev->Ct->Prop
 |.take r,c'=>∃k:Nat,r=f+k/\k<many/\c.tk k<=XB c.ly k/\c.tk k=c.ag k/\c'={ c with tk:=upN c.tk k }
 |.lay r,c'=>∃k:Nat,r=f+k/\k<many/\c.ly k+1=c.tk k/\c'={ c with ly:=upN c.ly k }
 |.again r _ o n,c'=>∃k:Nat,r=f+k/\k<many/\c.ag k+1=c.ly k/\o≠n/\c'={ c with ag:=upN c.ag k }
 |.settle r,c'=>r=f+c.st/\c.st<many/\c'={ c with st:=c.st+1 }
 |_,c'=>c'=c
inductive CtR (f:Int) (many:Nat):Ct->List He->Ct->Prop
 |nil {c}:CtR f many c [] c
 |cons {c c1 c2 h e es}:CtS f many c e c1->CtR f many c1 es c2->CtR f many c ((h,e)::es) c2
def ct0:Ct:=⟨λ_=>0,λ_=>0,λ_=>0,0⟩
def ZP:Sp:=λvs H Q _=>∃i:Int,vs=[.int i]/\Q (.bl af) H
def vj:Sp:=λvs H Q _=>∃(l:ac) (f:Int) (many:Nat) (xs:List V) (es:List He) (c:Ct),vs=[.ref l,.int f,.int many]/\H l=aa (.lst xs)/\Paired (EvAt H) xs es/\xs.length<=100000/\many<=10/\CtR f many ct0 es c/\c.st=many/\(∀k,k<many->c.ly k=c.ag k+1/\c.tk k=c.ly k)/\∀H',Same H H'->Q (.bl af) H'
def sp_law(K:bt):Sp:=λvs H Q _=>∃(a:ac) (ns:List Int),vs=[.ref a]/\SqL K H a (ns.map V.int)/\ns.length<=63/\(∀i∈ns,Cb i)/\∀H',Q (.bl af) H'
section
variable(K:bt)(t:Adr)
def wf(K:bt)(t:Adr):TS:=zm (zQ (zB (tOp (rIn K ak) (zb 0) (yP (zc (tC (.str "take")) (zc (tC (.str "give")) (zc (tC (.str "let")) (zc (tC (.str "say")) (zc (tC (.str "off")) (zc (tC (.str "if")) (zc (tC (.str "else")) (zc (tC (.str "end")) (zc (tC (.str "as")) zk))))))))))))
   (zJ (tOp WT (zb 0) (tC (.str "z"))))
   zK)
  (zm (zQ (zB (tOp (rIn K ak) (zb 0) (yP (zc (tC (.str "plus")) (zc (tC (.str "minus")) (zc (tC (.str "times")) (zc (tC (.str "over")) (zc (tC (.str "rest")) (zc (tC (.str "under")) (zc (tC (.str "same")) zk))))))))))
    (zJ (tOp WT (zb 0) (tC (.str "z"))))
    zK)
  (zJ (zb 0)))
def ZQ(K:bt)(t:Adr):TS:=zm (zL (xV zk) (zp 2))
  (zm (zL (tOp (rI0 λi j=>.int (i+j)) (tOp (rI (λ_ j=>0<j) λi j=>.int (i%j)) (zb 0) (tC (.int 1000003))) (tC (.int 17))) (zp 3))
  (zm (zL (tOp (rI0 λi j=>.int (i+j)) (tOp (rI (λ_ j=>0<j) λi j=>.int (i%j)) (tOp (rI yu λi j=>.int (i/j)) (zb 0) (tC (.int 1000003))) (tC (.int 999983))) (tC (.int 29))) (zp 4))
  (zm (jG (qF (zc (zb 1) zk)) (zp 5)
    (zm (zL (tOp (rI (λ_ j=>0<j) λi j=>.int (i%j)) (tOp (rI0 λi j=>.int (i+j)) (tOp (rI0 λi j=>.int (i+j)) (tOp (rI CMulB λi j=>.int (i*j)) (zb 3) (zb 3)) (tOp (rI CMulB λi j=>.int (i*j)) (tC (.int 3)) (zb 4))) (zb 5)) (tC (.int 1000003))) (zp 3))
  (zm (zL (tOp (rI (λ_ j=>0<j) λi j=>.int (i%j)) (tOp (rI0 λi j=>.int (i+j)) (tOp (rI0 λi j=>.int (i+j)) (tOp (rI CMulB λi j=>.int (i*j)) (zb 4) (zb 3)) (tOp (rI CMulB λi j=>.int (i*j)) (tC (.int 7)) (zb 3))) (tC (.int 11))) (tC (.int 999983))) (zp 4))
  (z5 (tBM K "list" yc (zb 2) (zc (tOp (rI0 λi j=>.int (i+j)) (tOp (rI CMulB λi j=>.int (i*j)) (zb 3) (tC (.int 999983))) (zb 4)) zk))))))
  (zJ (zb 2)))))
def v3(K:bt)(t:Adr):TS:=zm (zQ (Qe (zB (tOp rEq (tOp (rI (λ_ j=>0<j) λi j=>.int (i%j)) (tOp (rI yu λi j=>.int (i/j)) (zb 0) (tC (.int 900))) (tC (.int 3))) (tC (.int 0)))) (zB (tOp (rI0 λi j=>.bl (decide (i<j))) (tCB (wF K) (zc (zb 3) zk)) (tC (.int 6)))))
   (zJ (xV (zc (zb 3) (zc (zT yi [] E0 (zc (tOp WT (zb 3) (zb 5)) zk)) zk))))
   zK)
  (zm (zQ (Qe (zB (tOp rEq (tOp (rI (λ_ j=>0<j) λi j=>.int (i%j)) (tOp (rI yu λi j=>.int (i/j)) (zb 0) (tC (.int 900))) (tC (.int 3))) (tC (.int 1)))) (zB (tOp (rI0 λi j=>.bl (decide (i<j))) (tCB (wF K) (zc (zb 3) zk)) (tC (.int 6)))))
    (zJ (xV (zc (zT yi [] E0 (zc (tOp WT (zb 5) (zb 3)) zk)) (zc (zb 3) zk))))
    zK)
  (zJ (xV (zc (zb 3) (zc (zT yi [] E0 (zc (tOp WT (tOp WT (tSl zgK (zb 3) jh (vx (zb 4))) (zb 5)) (tSl zgK (zb 3) (vx (tOp (rI0 λi j=>.int (i+j)) (zb 4) (tC (.int 1)))) jh)) zk)) zk)))))
def v5:TS:=zm (zL (tOp (rI (λ_ j=>0<j) λi j=>.int (i%j)) (tOp (rI yu λi j=>.int (i/j)) (zb 0) (tC (.int 6))) (tCB (wF K) (zc (zb 3) zk))) (zp 4))
  (zm (zL (tOp zcq (zb 1) (tOp (rI (λ_ j=>0<j) λi j=>.int (i%j)) (tOp (rI0 λi j=>.int (i+j)) (tOp (rI0 λi j=>.int (i+j)) (tBM K "str" Xs (zb 1) (zc (tOp zcq (zb 3) (zb 4)) zk)) (tC (.int 1))) (tOp (rI (λ_ j=>0<j) λi j=>.int (i%j)) (tOp (rI yu λi j=>.int (i/j)) (zb 0) (tC (.int 36))) (tC (.int 25)))) (tC (.int 26)))) (zp 5))
  (v3 K t))
def Ze:TS:=zm (zL (zT yi [] E0 (zc (zb 2) zk)) (zp 3))
  (v5 K t)
def qe:TS:=zm (zL (tC (.str "abcdefghijklmnopqrstuvwxyz")) (zp 1))
  (zm (zL (tBM K "str" (Xt K) (tC (.str "")) (zc (vR (xW K (zT xa [] E0 (zc (zb 0) (zc (tOp (rI0 λi j=>.int (i+j)) (tC (.int 1)) (tOp (rI (λ_ j=>0<j) λi j=>.int (i%j)) (zb 0) (tC (.int 6)))) zk)))) (zp 0) Xp (tOp zcq (zb 1) (tOp (rI (λ_ j=>0<j) λi j=>.int (i%j)) (zb 0) (tC (.int 26)))) 1 [1]) zk)) (zp 2))
  (Ze K t))
def v6(K:bt)(t:Adr):TS:=zm (zQ (zB (tOp rEq (tOp (rI (λ_ j=>0<j) λi j=>.int (i%j)) (zb 0) (tC (.int 4))) (tC (.int 0))))
   (zJ (tOp (rI0 λi j=>.int (i-j)) (tOp (rI (λ_ j=>0<j) λi j=>.int (i%j)) (tOp (rI CMulB λi j=>.int (i*j)) (zb 0) (tOp (rI JX λi j=>.int (i^j.toNat)) (tC (.int 1000000007)) (tC (.int 3)))) (tOp (rI0 λi j=>.int (i+j)) (tOp (rI CMulB λi j=>.int (i*j)) (tC (.int 2)) (tOp (rI JX λi j=>.int (i^j.toNat)) (tC (.int 10)) (tC (.int 30)))) (tC (.int 1)))) (tOp (rI JX λi j=>.int (i^j.toNat)) (tC (.int 10)) (tC (.int 30)))))
   zK)
  (zJ (tOp (rI0 λi j=>.int (i-j)) (tOp (rI (λ_ j=>0<j) λi j=>.int (i%j)) (tOp (rI yu λi j=>.int (i/j)) (zb 0) (tC (.int 4))) (tC (.int 6))) (tC (.int 2))))
def ZR(K:bt)(t:Adr):TS:=zm (zL (zT xa [] E0 (zc (zb 0) (zc (tC (.int 10)) zk))) (zp 2))
  (zm (zL kK (zp 3))
  (zm (jG (qF (zc (tOp (rI (λ_ j=>0<j) λi j=>.int (i%j)) (zb 0) (tC (.int 6))) zk)) (zp 4)
    (zm (zL (zT yX [] E0 (zc (tOp (yt K) (zb 2) (tOp (rI0 λi j=>.int (i+j)) (zb 4) (tC (.int 5)))) zk)) (zp 5))
  (zQ (zB (tOp rNe (zb 5) (tC (.int 0))))
   (jZ (zb 3) (yP (zc (tOp (yt K) (zb 1) (tOp (rI (λ_ j=>0<j) λi j=>.int (i%j)) (tOp (yt K) (zb 2) (zb 4)) (tC (.int 2)))) (zc (tOp (rI (λ_ j=>0<j) λi j=>.int (i%j)) (tOp (rI yu λi j=>.int (i/j)) (tOp (yt K) (zb 2) (zb 4)) (tC (.int 2))) (tC (.int 3))) zk))) (zb 5))
   zK)))
  (zJ (vR (xW K (tCB zdO (zc (zb 3) zk))) (zp 0) Xp (yP (zc (zb 0) (zc (jY (zb 1) (zb 0)) zk))) 1 [3]))))
def jQ(K:bt)(t:Adr):TS:=zm (xF K (zb 0) (tCB QO (zc (zb 1) zk)) "ground")
  (zm (xF K (zb 0) (tC (.int 0)) "folded")
  (zm (xF K (zb 0) Z8 "worths")
  (xF K (zb 0) kK "ranks")))
def qf(K:bt)(t:Adr):TS:=zm (xF K (zb 0) (zb 1) "makes")
  (zm (xF K (zb 0) Z8 "laid")
  (zm (xF K (zb 0) kK "readers")
  (xF K (zb 0) Z8 "doubted")))
def qg:TS:=zm (xF K (zb 0) (zb 2) "hands")
  (zm (xF K (zb 0) (zb 3) "way")
  (zm (xF K (zb 0) (zb 4) "first")
  (zm (xF K (zb 0) (xV zk) "codes")
  (zm (xF K (zb 0) (xV zk) "waiting")
  (zm (xF K (zb 0) Z8 "held")
  (zm (xF K (zb 0) (YF t.q02 (jN t) [] E0 (zc (zb 1) zk)) "makes")
  (zm (xF K (zb 0) (YF t.q03 (qd t) [] E0 (zc (zO K (zb 0) "makes") zk)) "jobs")
  (xF K (zb 0) (xV zk) "ended"))))))))
def vm(K:bt)(t:Adr):TS:=zm (zQ (zB (tOp (rI0 λi j=>.bl (decide (i<j))) (zb 1) (tCB (wF K) (zc (zb 0) zk))))
   (zJ (tOp (yt K) (zb 0) (zb 1)))
   zK)
  (zJ (tC (.int 0)))
def XC(K:bt)(t:Adr)(n:Nat):TS:=zJ (tOp WN (xV (zc (yP (zc (tC (.str "skip")) (zc (tOp (yp K) (zb 0) (tC (.int 1))) (zc (zb 3) zk)))) zk)) (zb 2))
def XD(K:bt)(t:Adr)(n:Nat):TS:=zm (zL (zT (xo  n) [] E0 (zc (tOp (yp K) (zb 0) (tC (.int 3))) (zc (tOp (rI0 λi j=>.int (i+j)) (zb 3) (tC (.int 1))) zk))) (zp 4))
  (zJ (tOp WN (tOp WN (tOp WN (xV (zc (yP (zc (tC (.str "skip")) (zc (tOp (yp K) (zb 0) (tC (.int 1))) (zc (tOp (rI0 λi j=>.int (i+j)) (zb 3) (tC (.int 1))) zk)))) zk)) (zb 2)) (xV (zc (yP (zc (tC (.str "go")) (zc (tOp (rI0 λi j=>.int (i+j)) (tOp (rI0 λi j=>.int (i+j)) (zb 3) (tC (.int 1))) (tCB (wF K) (zc (zb 4) zk))) zk))) zk))) (zb 4)))
def kn(n:Nat):TS:=zm (zQ (zB (tOp (Kg K) (tOp (yp K) (zb 0) (tC (.int 3))) (xV zk)))
   (XC K t n)
   zK)
  (XD K t n)
def Zf(n:Nat):TS:=zm (zL (zT (xo  n) [] E0 (zc (tOp (yp K) (zb 0) (tC (.int 2))) (zc (tOp (rI0 λi j=>.int (i+j)) (zb 1) (tC (.int 1))) zk))) (zp 2))
  (zm (zL (tOp (rI0 λi j=>.int (i+j)) (tOp (rI0 λi j=>.int (i+j)) (zb 1) (tC (.int 1))) (tCB (wF K) (zc (zb 2) zk))) (zp 3))
  (kn K t n))
def X2(K:bt)(t:Adr)(n:Nat):TS:=zm (zL (xV zk) (zp 2))
  (zm (jG (xW K (zb 0)) (zp 3)
    (zQ (zB (tOp rEq (tOp (yp K) (zb 3) (tC (.int 0))) (tC (.str "if"))))
    (z5 (tBM K "list" QZ (zb 2) (zc (zT (q9  n) [] E0 (zc (zb 3) (zc (tOp (rI0 λi j=>.int (i+j)) (zb 1) (tCB (wF K) (zc (zb 2) zk))) zk))) zk)))
    (z5 (tBM K "list" yc (zb 2) (zc (zb 3) zk)))))
  (zJ (zb 2)))
def Yp(K:bt)(t:Adr):TS:=zJ (zT (xo  6) [] E0 (zc (zb 0) (zc (tC (.int 0)) zk)))
def qy(K:bt)(t:Adr):TS:=zJ (tOp (rI0 λi j=>.int (i+j)) (zO K (zb 0) "first") (tCB (wF K) (zc (zO K (zb 0) "ended") zk)))
def jx(K:bt)(t:Adr):TS:=zJ (tOp (rI0 λi j=>.int (i+j)) (zO K (zb 0) "first") (tCB (wF K) (zc (zO K (zb 0) "codes") zk)))
def Zg(K:bt)(t:Adr):TS:=zJ (zgw (tOp Jo (zO K (zb 0) "why") (tC .non)) (tOp (rI0 λi j=>.bl (decide (j<=i))) (zO K (zb 0) "at") (tCB (wF K) (zc (zO K (zb 0) "code") zk))))
def Yq(K:bt)(t:Adr)(E:XK):TS:=zm (zQ (zB (tOp rEq (zb 2) (tC (.int 0))))
   (WV t.q08 (zc (Qz (zb 0)) zk) E)
   zK)
  (zJ (tIf (zB (tOp rEq (zb 0) (tC (.str "over")))) (tOp (rI zgf λi j=>.int (i.fdiv j)) (zb 1) (zb 2)) (tOp (rI (λ_ j=>j≠0) λi j=>.int (i.fmod j)) (zb 1) (zb 2))))
def Yr(K:bt)(t:Adr)(E:XK):TS:=zm (zQ (zB (tOp rEq (zb 0) (tC (.str "plus"))))
   (zJ (tOp (rI0 λi j=>.int (i+j)) (zb 1) (zb 2)))
   zK)
  (zm (zQ (zB (tOp rEq (zb 0) (tC (.str "minus"))))
    (zJ (tOp (rI0 λi j=>.int (i-j)) (zb 1) (zb 2)))
    zK)
  (zm (zQ (zB (tOp rEq (zb 0) (tC (.str "times"))))
    (zJ (tOp (rI CMulB λi j=>.int (i*j)) (zb 1) (zb 2)))
    zK)
  (zm (zQ (zB (tOp rEq (zb 0) (tC (.str "under"))))
    (zJ (tIf (zB (tOp (rI0 λi j=>.bl (decide (i<j))) (zb 1) (zb 2))) (tC (.int 1)) (tC (.int 0))))
    zK)
  (zm (zQ (zB (tOp rEq (zb 0) (tC (.str "same"))))
    (zJ (tIf (zB (tOp rEq (zb 1) (zb 2))) (tC (.int 1)) (tC (.int 0))))
    zK)
  (zJ (zT (kZ t) [] E (zc (zb 0) (zc (zb 1) (zc (zb 2) zk)))))))))
def Zh(K:bt)(t:Adr):TS:=zm (zQ (tOr (Xg (tB (tCB (Wc K) (zc (zb 0) (zc (tC (.ty "int")) zk))))) (tB (tCB (Wc K) (zc (zb 0) (zc (tC (.ty "bool")) zk)))))
   (zJ (tC (.bl ak)))
   zK)
  (zJ (WK (rI0 λi j=>.bl (decide (i<=j))) (rI0 λi j=>.bl (decide (i<=j))) (tUn (rU λi=>.int (-i)) (tOp (rI JX λi j=>.int (i^j.toNat)) (tC (.int 10)) (tC (.int 30)))) (zb 0) (tOp (rI JX λi j=>.int (i^j.toNat)) (tC (.int 10)) (tC (.int 30)))))
def XE(K:bt)(t:Adr)(E:XK):TS:=zm (zL (zT (k7 t) [] E (zc (zb 0) (zc (zb 1) (zc (zb 2) zk)))) (zp 3))
  (zm (zQ (Xg (tB (zT qZ [] E (zc (zb 3) zk))))
    (WV t.q09 (zc (Qz (zb 0)) zk) E)
    zK)
  (zJ (zb 3)))
def ZS(E:XK):TS:=zm (zL (zcr K "list" qK (zb 2)) (zp 4))
  (zm (zL (zcr K "list" qK (zb 2)) (zp 5))
  (z5 (tBM K "list" yc (zb 2) (zc (zT (ZC t) [] E (zc (zb 3) (zc (zb 5) (zc (zb 4) zk)))) zk))))
def ZT(K:bt)(t:Adr)(E:XK):TS:=z5 (tBM K "list" yc (zb 2) (zc (tIf (tB (tCB (Wc K) (zc (zb 3) (zc (tC (.ty "str")) zk)))) (vf (zb 1) (zb 3) (tC (.int 0))) (zb 3)) zk))
def ZU(E:XK):TS:=zQ (zB (tOp (rIn K ak) (zb 3) (tC (.ref t.q0x))))
   (ZS K t E)
   (ZT K t E)
def Zi(E:XK):TS:=zm (zL (xV zk) (zp 2))
  (zm (jG (zgA K (zb 0)) (zp 3)
    (ZU K t E))
  (zJ (zcr K "list" qK (zb 2))))
def vn(E:XK):TS:=zJ (zT (q8 t) [] E (zc (zb 1) (zc (zO K (zb 0) "slots") zk)))
def vo(E:XK):TS:=zJ (yP (zc (tOp (yp K) (zb 1) (tC (.int 1))) (zc (zW t.q01 "worth_of" (z8 t) [] E (zb 0) (zc (tOp (yp K) (zb 1) (tC (.int 2))) zk)) zk)))
def VP(K:bt)(t:Adr):TS:=zm (zQ (tOr (zB (tOp (Kl ak) (zb 1) (zO K (zb 0) "gifts"))) (zB (tOp (Kl ak) (zb 1) (zO K (zb 0) "notes"))))
   (zJ (tC .non))
   zK)
  (zJ (zb 1))
def VQ:TS:=zm (zgk K (zgd (za6 t.q01 "place_in" (yN t) (zb 0) (zc (tOp (yt K) (zO K (zb 0) "code") (zO K (zb 0) "at")) zk)) 1) t.q09 t.q08 (zJ (tC .non)))
  (VP K t)
def X3:TS:=zm (zQ (tOr (tB (zW t.q01 "over" (xp t) [] E0 (zb 0) zk)) (zB (tOp rNe (tOp (yp K) (tOp (yt K) (zO K (zb 0) "code") (zO K (zb 0) "at")) (tC (.int 0))) (tC (.str "take")))))
   (zJ (tC .non))
   zK)
  (VQ K t)
def xL(K:bt)(t:Adr):TS:=zQ (zB (tOp (rI0 λi j=>.bl (decide (i<j))) (zb 1) (zO K (zb 0) "folded")))
   JV
   zK
def ZV(K:bt)(t:Adr):TS:=zm (zL (tC (.int 0)) (zp 2))
  (zm (zL (tCB (wF K) (zc (zb 0) zk)) (zp 3))
  (zm (zaK (zB (tOp (rI0 λi j=>.bl (decide (i<j))) (zb 2) (zb 3))) (zm (zL (tOp (rI yu λi j=>.int (i/j)) (tOp (rI0 λi j=>.int (i+j)) (zb 2) (zb 3)) (tC (.int 2))) (zp 4))
  (zQ (zB (tOp (rI0 λi j=>.bl (decide (i<j))) (tOp (yt K) (zb 0) (zb 4)) (zb 1)))
   (zL (tOp (rI0 λi j=>.int (i+j)) (zb 4) (tC (.int 1))) (zp 2))
   (zL (zb 4) (zp 3)))))
  (zJ (zb 2))))
def jR:TS:=zm (z5 (zW t.q02 "heed_fold" (yL t) [] E0 (zb 0) (zc (zb 2) zk)))
  (zm (zL (vf (zO K (zb 0) "ranks") (zb 1) (xV zk)) (zp 3))
  (zm (zL (zT yF [] E0 (zc (zb 3) (zc (zb 2) zk))) (zp 4))
  (zm (zQ (zB (tOp rEq (zb 4) (tC (.int 0))))
    (zJ (vf (zO K (zb 0) "ground") (zb 1) (tC (.int 0))))
    zK)
  (zJ (jY (jY (zO K (zb 0) "worths") (tOp (yt K) (zb 3) (tOp (rI0 λi j=>.int (i-j)) (zb 4) (tC (.int 1))))) (zb 1))))))
def qh(K:bt)(t:Adr):TS:=zm (zQ (zB (tOp (Kl ak) (zb 1) (zO K (zb 0) "gifts")))
   (zJ (jY (zO K (zb 0) "gifts") (zb 1)))
   zK)
  (zm (zQ (zB (tOp (Kl af) (zb 1) (zO K (zb 0) "notes")))
    (jZ (zO K (zb 0) "notes") (zb 1) (zb 2))
    zK)
  (zJ (jY (zO K (zb 0) "notes") (zb 1))))
def VR(E:XK):TS:=jZ (zO K (zb 0) "slots") (tOp (yp K) (zb 1) (tC (.int 1))) (zW t.q01 "worth_of" (z8 t) [] E (zb 0) (zc (tOp (yp K) (zb 1) (tC (.int 2))) zk))
def ZW(E:XK):TS:=z5 (tBM K "list" yc (zO K (zb 0) "sayings") (zc (zW t.q01 "worth_of" (z8 t) [] E (zb 0) (zc (tOp (yp K) (zb 1) (tC (.int 1))) zk)) zk))
def VS(E:XK):TS:=zm (zL (zW t.q01 "place_in" (yN t) [] E (zb 0) (zc (zb 1) zk)) (zp 3))
  (jZ (zO K (zb 0) "gifts") (zb 3) (zW t.q01 "worth_of" (z8 t) [] E (zb 0) (zc (tOp (yp K) (zb 1) (tC (.int 3))) zk)))
def VT(E:XK):TS:=jZ (zO K (zb 0) "slots") (tOp (yp K) (zb 1) (tC (.int 3))) (zW t.q01 "taken" (k8 t) [] E (zb 0) (zc (zW t.q01 "place_in" (yN t) [] E (zb 0) (zc (zb 1) zk)) (zc (zb 2) zk)))
def X4(E:XK):TS:=zQ (zB (tOp rEq (tOp (yp K) (zb 1) (tC (.int 0))) (tC (.str "take"))))
   (VT K t E)
   (zQ (zB (tOp rEq (tOp (yp K) (zb 1) (tC (.int 0))) (tC (.str "give"))))
   (VS K t E)
   (zQ (zB (tOp rEq (tOp (yp K) (zb 1) (tC (.int 0))) (tC (.str "let"))))
   (VR K t E)
   (ZW K t E)))
def Wl(E:XK):TS:=zQ (zB (tOp rNe (zW t.q01 "worth_of" (z8 t) [] E (zb 0) (zc (tOp (yp K) (zb 1) (tC (.int 1))) zk)) (tC (.int 0))))
   (xF K (zb 0) (tC (.str "told")) "why")
   zK
def Wm(K:bt)(t:Adr)(E:XK):TS:=z5 (zW t.q01 "does" (Za t) [] E (zb 0) (zc (zb 1) (zc (zb 2) zk)))
def Wn(E:XK):TS:=zJ (tIf (zB (tOp rEq (zW t.q01 "worth_of" (z8 t) [] E (zb 0) (zc (tOp (yp K) (zb 1) (tC (.int 1))) zk)) (tC (.int 0)))) (tOp (yp K) (zb 1) (tC (.int 2))) (tOp (rI0 λi j=>.int (i+j)) (zO K (zb 0) "at") (tC (.int 1))))
def Wo(E:XK):TS:=zm (zQ (zB (tOp rEq (tOp (yp K) (zb 1) (tC (.int 0))) (tC (.str "off"))))
   (Wl K t E)
   (Wm K t E))
  (zJ (tOp (rI0 λi j=>.int (i+j)) (zO K (zb 0) "at") (tC (.int 1))))
def Wp(E:XK):TS:=zm (zQ (zB (tOp rEq (tOp (yp K) (zb 1) (tC (.int 0))) (tC (.str "skip"))))
   (Wn K t E)
   zK)
  (Wo K t E)
def ZX(E:XK):TS:=zm (zQ (zB (tOp rEq (tOp (yp K) (zb 1) (tC (.int 0))) (tC (.str "go"))))
   (zJ (tOp (yp K) (zb 1) (tC (.int 1))))
   zK)
  (Wp K t E)
def X5:TS:=zm (zQ (tB (zW t.q01 "over" (xp t) [] E0 (zb 0) zk))
   zf7
   zK)
  (zdS K (zgj K (zb 0) (za6 t.q01 "led_by" (jL t) (zb 0) (zc (tOp (yt K) (zO K (zb 0) "code") (zO K (zb 0) "at")) (zc (zb 1) zk))) "at") t.q09 (xF K (zb 0) (tC (.str "great")) "why") t.q08 (xF K (zb 0) (tC (.str "nought")) "why"))
def va:TS:=zm (jG (xW K (tOp (yp K) (jY (zO K (zb 0) "laid") (zb 1)) (tC (.int 1)))) (zc5 K 2 (YE (zp 2) (YE (zp 3) zc4)))
   (zm (zL (zW t.q02 "seen" (jO t) [] E0 (zO K (zb 0) "makes") (zc (zb 2) (zc (zb 1) zk))) (zp 4))
  (zQ (zB (tOp rNe (zb 4) (zb 3)))
   (zJ (yP (zc (zb 2) (zc (zb 3) (zc (zb 4) zk)))))
   zK)))
  (zJ (tC .non))
def wj:TS:=zm (zL (tCB zgl (zc (zO K (zb 0) "doubted") zk)) (zp 1))
  (zm (jG (xW K (zb 1)) (zp 2)
    (zm (zL (zW t.q03 "changed_note" (wZ t) [] E0 (zb 0) (zc (zb 2) zk)) (zp 3))
  (zm (zQ (zB (tOp Jo (zb 3) (tC .non)))
    (zJ (tOp (zdh K) (yP (zc (zb 2) zk)) (zb 3)))
    zK)
  (z5 (J8 (zO K (zb 0) "doubted") (zb 2))))))
  (zJ (tC .non)))
def qi(K:bt)(t:Adr):TS:=zm (zL (jY (zb 0) (zb 1)) (zp 3))
  (zm (z5 (tBM K "list" jo (zb 3) (zc (zb 2) zk)))
  (zQ (zB (tOp (Kg K) (zb 3) (xV zk)))
   (z5 (zbb (zb 0) (zb 1)))
   zK))
def ko(K:bt)(t:Adr):TS:=zm (zL (J8 (zO K (zb 0) "laid") (zb 1)) (zp 2))
  (zm (z5 (J9 (zO K (zb 0) "doubted") (zb 1) (tC .non)))
  (zm (jG (xW K (tOp (yp K) (zb 2) (tC (.int 1)))) (zc5 K 2 (YE (zp 3) (YE (zp 4) zc4)))
    (z5 (zT xx [] E0 (zc (zO K (zb 0) "readers") (zc (zb 3) (zc (zb 1) zk))))))
  (zJ (zb 2))))
def jz(K:bt)(t:Adr):TS:=zJ (tOp (yt K) (zb 1) (tUn (rU λi=>.int (-i)) (tC (.int 1))))
def jA(K:bt)(t:Adr):TS:=zm (zL (tOp (rI (λ_ j=>0<j) λi j=>.int (i%j)) (zO K (zb 0) "times") (tCB (wF K) (zc (zb 1) zk))) (zp 2))
  (zm (zby K (zb 0) (tC (.int 1)) zdf "times")
  (zJ (tOp (yt K) (zb 1) (zb 2))))
def ZY(K:bt)(t:Adr):TS:=zJ (tOp (yt K) (zb 1) (tC (.int 0)))
def Zj(K:bt)(t:Adr):TS:=zm (xF K (zb 0) (tCB (zcB K) (zc (zb 1) zk)) "code")
  (zm (xF K (zb 0) (tC (.int 0)) "at")
  (zm (xF K (zb 0) (tC .non) "why")
  (zm (xF K (zb 0) Z8 "slots")
  (zm (xF K (zb 0) kK "gifts")
  (zm (xF K (zb 0) kK "notes")
  (xF K (zb 0) (xV zk) "sayings"))))))
def v7:TS:=zm (z5 (tBM K "list" jo (zO K (zb 0) "waiting") (zc (zb 2) zk)))
  (zm (jZ (zO K (zb 0) "held") (zb 1) (yP (zc (zb 2) (zc (YF t.q01 (X1 t) [] E0 (zc (tOp (yt K) (zO K (zb 0) "codes") (tOp (rI0 λi j=>.int (i-j)) (zb 2) (zO K (zb 0) "first"))) zk)) zk))))
  (zJ (yP (zc (tC (.str "take")) (zc (zb 1) (zc (zb 2) zk))))))
def kq:TS:=zm (zL (zek [(t.q0d,(ju t)),(t.q05,(jv t)),(t.q0e,(ZO t))] "chosen" E0 (zO K (zb 0) "way") (zc (tCB (zcB K) (zc (zO K (zb 0) "waiting") zk)) zk)) (zp 2))
  (v7 K t)
def vb:TS:=zm (z5 (zW t.q03 "take_off" (xz t) [] E0 (zO K (zb 0) "jobs") (zc (tOp (yp K) (zb 3) (tC (.int 0))) zk)))
  (zm (z5 (tBM K "list" qQ (zO K (zb 0) "waiting") (zc (zT yF [] E0 (zc (zO K (zb 0) "waiting") (zc (tOp (yp K) (zb 3) (tC (.int 0))) zk))) (zc (tOp (yp K) (zb 3) (tC (.int 0))) zk))))
  (zJ (tOp (zdh K) (yP (zc (tC (.str "again")) (zc (zb 1) zk))) (zb 3))))
def vc:TS:=zm (z5 (tBM K "list" yc (zO K (zb 0) "ended") (zc (zW t.q03 "take_off" (xz t) [] E0 (zO K (zb 0) "jobs") (zc (zb 2) zk)) zk)))
  (zJ (yP (zc (tC (.str "settle")) (zc (zb 1) (zc (zb 2) zk)))))
def ve:TS:=zm (zQ (zB (tOp (zea K) (zO K (zb 0) "waiting") (xV zk)))
   (zJ (zW t.q00 "taken_up" (wO t) [] E0 (zb 0) (zc (zb 1) zk)))
   zK)
  (zJ (yP (zc (tC (.str "rest")) (zc (zb 1) zk))))
def Zk:TS:=zm (zQ (zB (tOp Jo (zb 3) (tC .non)))
   (vb K t)
   zK)
  (ve K t)
def v9:TS:=zm (zL (zW t.q00 "settled" (xH t) [] E0 (zb 0) zk) (zp 2))
  (zm (zL (zW t.q03 "lowest_changed" (y7 t) [] E0 (zO K (zb 0) "jobs") zk) (zp 3))
  (zm (zQ (Qe (zB (tOp (Kl ak) (zb 2) (zO K (zO K (zb 0) "jobs") "laid"))) (tOr (zB (tOp zgI (zb 3) (tC .non))) (zB (tOp rNe (tOp (yp K) (zb 3) (tC (.int 0))) (zb 2)))))
    (vc K t)
    zK)
  (Zk K t)))
def xM(K:bt)(t:Adr):TS:=zJ (tCB zei (zc (vf (zO K (zb 0) "worths") (zb 1) kK) zk))
def xt(K:bt)(t:Adr):TS:=jG (xW K (zb 2)) (zp 3)
   (z5 (zT xx [] E0 (zc (zO K (zb 0) "ranks") (zc (zb 3) (zc (zb 1) zk)))))
def xN:TS:=zm (zL (zW t.q02 "places_of" (yo t) [] E0 (zb 0) (zc (zb 1) zk)) (zp 2))
  (zm (z5 (J9 (zO K (zb 0) "worths") (zb 1) (tC .non)))
  (xt K t))
def X6(K:bt)(t:Adr):TS:=zm (zL (zef (zb 0) (zb 1) (xV zk)) (zp 3))
  (z5 (tBM K "list" qQ (zb 3) (zc (zT yF [] E0 (zc (zb 3) (zc (zb 2) zk))) (zc (zb 2) zk))))
def ja(K:bt)(t:Adr):TS:=jZ (zO K (zb 0) "worths") (zb 1) (zb 3)
def jd:TS:=zm (zgP (jG (iDT (zb 3)) (zp 4)
   (z5 (zT wY [] E0 (zc (zO K (zb 0) "ranks") (zc (zb 4) (zc (zb 1) zk)))))))
  (ja K t)
def vJ:TS:=zm (z5 (zW t.q02 "heed_fold" (yL t) [] E0 (zb 0) (zc (zb 1) zk)))
  (zm (z5 (zW t.q02 "take_away" (y6 t) [] E0 (zb 0) (zc (zb 1) zk)))
  (zm (zL (tCB QO (zc (zb 2) zk)) (zp 3))
  (jd K t)))
def vz(K:bt)(t:Adr):TS:=zm (zL (vf (zO K (zb 0) "ranks") (zb 1) (xV zk)) (zp 3))
  (zm (zL (zT yF [] E0 (zc (zb 3) (zc (tOp (rI0 λi j=>.int (i+j)) (zb 2) (tC (.int 1))) zk))) (zp 4))
  (zJ (tIf (zB (tOp rEq (zb 4) (tCB (wF K) (zc (zb 3) zk)))) (tC .non) (tOp (yt K) (zb 3) (zb 4)))))
def qA(K:bt)(t:Adr):TS:=jG (xW K (tSl (VF K) (zb 3) (vx (zT yF [] E0 (zc (zb 3) (zc (tOp (rI0 λi j=>.int (i+j)) (zb 2) (tC (.int 1))) zk)))) (vx (zb 5)))) (zp 6)
   (jZ (zO K (zb 0) "doubted") (zb 6) (tC (.bl af)))
def ZZ:TS:=zm (zL (vf (zO K (zb 0) "readers") (zb 1) (xV zk)) (zp 3))
  (zm (zL (zW t.q02 "next_above" (xD t) [] E0 (zO K (zb 0) "makes") (zc (zb 1) (zc (zb 2) zk))) (zp 4))
  (zm (zL (tIf (zB (tOp zgI (zb 4) (tC .non))) (tCB (wF K) (zc (zb 3) zk)) (zT yF [] E0 (zc (zb 3) (zc (tOp (rI0 λi j=>.int (i+j)) (zb 4) (tC (.int 1))) zk)))) (zp 5))
  (qA K t)))
def kt:TS:=zm (zL (zW t.q02 "places_of" (yo t) [] E0 (zO K (zb 0) "makes") (zc (zb 1) zk)) (zp 3))
  (zm (z5 (zW t.q02 "lay" (YU t) [] E0 (zO K (zb 0) "makes") (zc (zb 1) (zc (tOp (yp K) (zb 2) (tC (.int 2))) zk))))
  (zm (jG (xW K (tOp WN (zb 3) (zW t.q02 "places_of" (yo t) [] E0 (zO K (zb 0) "makes") (zc (zb 1) zk)))) (zp 4)
    (z5 (zW t.q03 "doubt" (jP t) [] E0 (zb 0) (zc (zb 4) (zc (zb 1) zk)))))
  (zm (jZ (zO K (zb 0) "laid") (zb 1) (zb 2))
  (zm (jZ (zO K (zb 0) "doubted") (zb 1) (tC (.bl af)))
  (jG (xW K (tOp (yp K) (zb 2) (tC (.int 1)))) (zc5 K 2 (YE (zp 4) (YE (zp 5) zc4)))
   (z5 (zT wY [] E0 (zc (zO K (zb 0) "readers") (zc (zb 4) (zc (zb 1) zk))))))))))
def Zl(K:bt)(t:Adr):TS:=zm (zQ (zB (tOp Jo (zO K (zb 0) "why") (tC .non)))
   (zJ (yP (zc (yP (zc (tC (.str "off")) (zc (zO K (zb 0) "why") zk))) (zc (zb 1) (zc (xV zk) zk)))))
   zK)
  (zJ (yP (zc (yP (zc (tC (.str "done")) (zc (tCB (zhA K) (zc (zO K (zb 0) "sayings") zk)) zk))) (zc (zb 1) (zc (tCB zd4 (zc (Kq (zO K (zb 0) "gifts")) zk)) zk)))))
def Zm:TS:=zm (zL (tCB zdZ (zc (Kq (zO K (zb 0) "notes")) zk)) (zp 1))
  (Zl K t)
def qj:TS:=zm (zQ (Xg (tB (zW t.q01 "over" (xp t) [] E0 (zb 0) zk)))
   (zJ (tC .non))
   zK)
  (Zm K t)
def Zn:TS:=zm (z5 (J8 (zO K (zb 0) "held") (zb 1)))
  (zm (z5 (zW t.q03 "lay_down" (wN t) [] E0 (zO K (zb 0) "jobs") (zc (zb 2) (zc (zW t.q01 "paper" (k9 t) [] E0 (zb 3) zk) zk))))
  (zJ (yP (zc (tC (.str "lay")) (zc (zb 1) (zc (zb 2) zk))))))
def Zo:TS:=zm (zL (zW t.q01 "asks" (Zb t) [] E0 (zb 3) zk) (zp 4))
  (zm (zQ (zB (tOp zgI (zb 4) (tC .non)))
    (zm (z5 (zW t.q01 "step" (jr t) [.int 0] E0 (zb 3) zk))
  (zJ (yP (zc (tC (.str "step")) (zc (zb 1) (zc (zb 2) zk))))))
   zK)
  (zm (zL (zW t.q02 "seen" (jO t) [] E0 (zO K (zb 0) "makes") (zc (zb 4) (zc (zb 2) zk))) (zp 5))
  (zm (z5 (zW t.q01 "step" (jr t) [] E0 (zb 3) (zc (zb 5) zk)))
  (zJ (yP (zc (tC (.str "read")) (zc (zb 1) (zc (zb 2) (zc (zb 4) (zc (zb 5) zk))))))))))
def Vh:TS:=zm (zL (tOp (yp K) (jY (zO K (zb 0) "held") (zb 1)) (tC (.int 0))) (zp 2))
  (zm (zL (tOp (yp K) (jY (zO K (zb 0) "held") (zb 1)) (tC (.int 1))) (zp 3))
  (zm (zQ (tB (zW t.q01 "over" (xp t) [] E0 (zb 3) zk))
    (Zn K t)
    zK)
  (Zo K t)))
def YW:TS:=zm (zQ (tOr (zB (tOp (rI0 λi j=>.bl (decide (i<j))) (zb 1) (tC (.int 0)))) (zB (tOp (rI0 λi j=>.bl (decide (j<=i))) (zb 1) (zO K (zb 0) "hands"))))
   JV
   zK)
  (zm (zQ (zB (tOp (Kl af) (zb 1) (zO K (zb 0) "held")))
    (zJ (zW t.q00 "moved_free" (xK t) [] E0 (zb 0) (zc (zb 1) zk)))
    zK)
  (Vh K t))
def Zp:TS:=zm (zL (xV zk) (zp 1))
  (zm (zaK (zB (tOp (rI0 λi j=>.bl (decide (i<j))) (zW t.q00 "settled" (xH t) [] E0 (zb 0) zk) (zW t.q00 "next_rank" (wd t) [] E0 (zb 0) zk))) (z5 (tBM K "list" yc (zb 1) (zc (zW t.q00 "move" (we t) [] E0 (zb 0) (zc (tOp (rI (λ_ j=>0<j) λi j=>.int (i%j)) (tCB (wF K) (zc (zb 1) zk)) (zO K (zb 0) "hands")) zk)) zk))))
  (zJ (zb 1)))
def X7:TS:=zm (zL (zW t.q00 "next_rank" (wd t) [] E0 (zb 0) zk) (zp 2))
  (zm (z5 (tBM K "list" yc (zO K (zb 0) "codes") (zc (tCB (zcB K) (zc (zb 1) zk)) zk)))
  (zm (z5 (tBM K "list" yc (zO K (zb 0) "waiting") (zc (zb 2) zk)))
  (zJ (zb 2))))
def Z0(K:bt)(t:Adr):TS:=zJ (zc2 (tCB (Wc K) (zc (zb 0) (zc (tC (.ty "int")) zk))) (zf5 (tCB (Wc K) (zc (zb 0) (zc (tC (.ty "bool")) zk)))))
def xi(K:bt)(t:Adr):TS:=zQ (zB (tOp rEq (tOp (yp K) (zb 7) (tC (.int 0))) (tC (.str "take"))))
   (zm (zQ (tOr (zB (tOp (rI0 λi j=>.bl (decide (j<i))) (tOp (yt K) (zb 3) (zb 8)) (tCB (zgi K) (zc (tSl (VF K) (zb 4) jh (vx (zb 8))) zk)))) (zB (tOp rNe (tOp (yt K) (zb 3) (zb 8)) (tOp (yt K) (zb 5) (zb 8)))))
   (zJ (tC (.bl ak)))
   zK)
  (zbT (zb 3) (zb 8) (tC (.int 1)) zdf))
   (zQ (zB (tOp rEq (tOp (yp K) (zb 7) (tC (.int 0))) (tC (.str "lay"))))
   (zm (zbT (zb 4) (zb 8) (tC (.int 1)) zdf)
  (zQ (zB (tOp rNe (tOp (yt K) (zb 4) (zb 8)) (tOp (yt K) (zb 3) (zb 8))))
   (zJ (tC (.bl ak)))
   zK))
   (zQ (zB (tOp rEq (tOp (yp K) (zb 7) (tC (.int 0))) (tC (.str "again"))))
   (zm (zbT (zb 5) (zb 8) (tC (.int 1)) zdf)
  (zQ (tOr (zB (tOp rNe (tOp (yt K) (zb 5) (zb 8)) (tOp (yt K) (zb 4) (zb 8)))) (tOr (zB (tOp rNe (tCB (wF K) (zc (zb 7) zk)) (tC (.int 6)))) (zB (tOp rEq (tOp (yp K) (zb 7) (tC (.int 4))) (tOp (yp K) (zb 7) (tC (.int 5)))))))
   (zJ (tC (.bl ak)))
   zK))
   (z5 (tBM K "list" yc (zb 6) (zc (zb 8) zk)))))
def wq:TS:=zm (zQ (tOr (zB (tOp (rI0 λi j=>.bl (decide (i<j))) (tCB (wF K) (zc (zb 7) zk)) (tC (.int 3)))) (tOr (Xg (tB (zT ZP [] E0 (zc (tOp (yp K) (zb 7) (tC (.int 2))) zk)))) (Xg (zB (WK (rI0 λi j=>.bl (decide (i<=j))) (rI0 λi j=>.bl (decide (i<j))) (tC (.int 0)) (tOp (rI0 λi j=>.int (i-j)) (tOp (yp K) (zb 7) (tC (.int 2))) (zb 1)) (zb 2))))))
   (zJ (tC (.bl ak)))
   zK)
  (zm (zL (tOp (rI0 λi j=>.int (i-j)) (tOp (yp K) (zb 7) (tC (.int 2))) (zb 1)) (zp 8))
  (xi K t))
def wt:TS:=zm (zQ (tOr (Xg (tB (tCB (Wc K) (zc (zb 7) (zc (tC (.ty "tuple")) zk))))) (tOr (zB (tOp (rI0 λi j=>.bl (decide (i<j))) (tCB (wF K) (zc (zb 7) zk)) (tC (.int 2)))) (Xg (tB (tCB (Wc K) (zc (tOp (yp K) (zb 7) (tC (.int 0))) (zc (tC (.ty "str")) zk)))))))
   (zJ (tC (.bl ak)))
   zK)
  (zm (zQ (tOr (zB (tOp rEq (tOp (yp K) (zb 7) (tC (.int 0))) (tC (.str "rest")))) (tOr (zB (tOp rEq (tOp (yp K) (zb 7) (tC (.int 0))) (tC (.str "step")))) (zB (tOp rEq (tOp (yp K) (zb 7) (tC (.int 0))) (tC (.str "read"))))))
    zf6
    zK)
  (wq K t))
def jB(K:bt)(t:Adr):TS:=zm (jG (qF (zc (zb 2) zk)) (zp 8)
   (zQ (tOr (zB (tOp rNe (tOp (yt K) (zb 4) (zb 8)) (tOp (rI0 λi j=>.int (i+j)) (tOp (yt K) (zb 5) (zb 8)) (tC (.int 1))))) (zB (tOp rNe (tOp (yt K) (zb 3) (zb 8)) (tOp (yt K) (zb 4) (zb 8)))))
   (zJ (tC (.bl ak)))
   zK))
  (zJ (tOp (zgM K ak) (zb 6) (vR (qF (zc (zb 2) zk)) (zp 0) Xp (zb 0) 1 [])))
def YX:TS:=zm (jG (xW K (zb 0)) (zp 7)
   (wt K t))
  (jB K t)
def vp:TS:=zm (zL (vR (qF (zc (zb 2) zk)) (zp 0) Xp (tC (.int 0)) 1 []) (zp 3))
  (zm (zL (vR (qF (zc (zb 2) zk)) (zp 0) Xp (tC (.int 0)) 1 []) (zp 4))
  (zm (zL (vR (qF (zc (zb 2) zk)) (zp 0) Xp (tC (.int 0)) 1 []) (zp 5))
  (zm (zL (xV zk) (zp 6))
  (YX K t))))
def qk(K:bt)(t:Adr):TS:=zm (zL (tOp (rI (λ_ j=>0<j) λi j=>.int (i%j)) (zb 0) (tC (.int 5))) (zp 2))
  (zm (zQ (zB (tOp (rI0 λi j=>.bl (decide (i<j))) (zb 2) (tC (.int 2))))
    (zJ (yP (zc (tOp (rI (λ_ j=>0<j) λi j=>.int (i%j)) (tOp (rI yu λi j=>.int (i/j)) (zb 0) (tC (.int 5))) (tC (.int 3))) zk)))
    zK)
  (zm (zQ (zB (tOp rEq (zb 2) (tC (.int 2))))
    (zJ (yP (zc (tOp (yt K) (zb 1) (tOp (rI (λ_ j=>0<j) λi j=>.int (i%j)) (tOp (rI yu λi j=>.int (i/j)) (zb 0) (tC (.int 5))) (tC (.int 2)))) zk)))
    zK)
  (zm (zQ (Qe (zB (tOp rEq (zb 2) (tC (.int 3)))) (zB (tOp rEq (tOp (rI (λ_ j=>0<j) λi j=>.int (i%j)) (tOp (rI yu λi j=>.int (i/j)) (zb 0) (tC (.int 10))) (tC (.int 3))) (tC (.int 0)))))
    (zJ (yP (zc (tC (.int 7)) (zc (tOp (yt K) (zb 1) (tOp (rI (λ_ j=>0<j) λi j=>.int (i%j)) (tOp (rI yu λi j=>.int (i/j)) (zb 0) (tC (.int 30))) (tC (.int 2)))) (zc (tC (.str "over")) zk)))))
    zK)
  (zm (zQ (zB (tOp rEq (zb 2) (tC (.int 3))))
    (zJ (yP (zc (tOp (yt K) (zb 1) (tOp (rI (λ_ j=>0<j) λi j=>.int (i%j)) (tOp (rI yu λi j=>.int (i/j)) (zb 0) (tC (.int 5))) (tC (.int 2)))) (zc (tC (.int 3)) (zc (tC (.str "rest")) zk)))))
    zK)
  (zJ (yP (zc (zT yX [] E0 (zc (tOp (rI yu λi j=>.int (i/j)) (zb 0) (tC (.int 5))) zk)) zk)))))))
def ql(K:bt)(t:Adr):TS:=zm (zL (xV (zc (tC (.str "plus")) (zc (tC (.str "minus")) (zc (tC (.str "times")) (zc (tC (.str "over")) (zc (tC (.str "rest")) (zc (tC (.str "under")) (zc (tC (.str "same")) zk)))))))) (zp 2))
  (zm (zL (tOp (rI (λ_ j=>0<j) λi j=>.int (i%j)) (zb 0) (tC (.int 9))) (zp 3))
  (zm (zQ (zB (tOp rEq (zb 3) (tC (.int 0))))
    (zJ (yP (zc (zT yX [] E0 (zc (tOp (rI yu λi j=>.int (i/j)) (zb 0) (tC (.int 9))) zk)) zk)))
    zK)
  (zm (zQ (zB (tOp rEq (zb 3) (tC (.int 1))))
    (zJ (yP (zc (tOp (yt K) (zb 1) (tOp (rI (λ_ j=>0<j) λi j=>.int (i%j)) (tOp (rI yu λi j=>.int (i/j)) (zb 0) (tC (.int 9))) (tC (.int 2)))) zk)))
    zK)
  (zm (zQ (zB (tOp rEq (tOp (rI (λ_ j=>0<j) λi j=>.int (i%j)) (tOp (rI yu λi j=>.int (i/j)) (zb 0) (tC (.int 9))) (tC (.int 2))) (tC (.int 0))))
    (zJ (yP (zc (tOp (yt K) (zb 1) (tOp (rI (λ_ j=>0<j) λi j=>.int (i%j)) (tOp (rI yu λi j=>.int (i/j)) (zb 0) (tC (.int 18))) (tC (.int 2)))) (zc (zT yX [] E0 (zc (tOp (rI yu λi j=>.int (i/j)) (zb 0) (tC (.int 36))) zk)) (zc (tOp (yt K) (zb 2) (tOp (rI0 λi j=>.int (i-j)) (zb 3) (tC (.int 2)))) zk)))))
    zK)
  (zJ (yP (zc (tOp (yt K) (zb 1) (tOp (rI (λ_ j=>0<j) λi j=>.int (i%j)) (tOp (rI yu λi j=>.int (i/j)) (zb 0) (tC (.int 18))) (tC (.int 2)))) (zc (tOp (yt K) (zb 1) (tOp (rI (λ_ j=>0<j) λi j=>.int (i%j)) (tOp (rI yu λi j=>.int (i/j)) (zb 0) (tC (.int 36))) (tC (.int 2)))) (zc (tOp (yt K) (zb 2) (tOp (rI0 λi j=>.int (i-j)) (zb 3) (tC (.int 2)))) zk)))))))))
def jS(K:bt)(t:Adr):TS:=zm (zQ (zB (tOp (rI0 λi j=>.bl (decide (i<j))) (zb 3) (tC (.int 4))))
   (zJ (yP (zc (tC (.str "take")) (zc (zb 4) (zc (zb 6) (zc (zb 5) zk))))))
   zK)
  (zm (zQ (zB (tOp (rI0 λi j=>.bl (decide (i<j))) (zb 3) (tC (.int 7))))
    (zJ (yP (zc (tC (.str "give")) (zc (zb 4) (zc (zb 6) (zc (zb 7) zk))))))
    zK)
  (zm (zQ (zB (tOp rEq (zb 3) (tC (.int 7))))
    (zJ (yP (zc (tC (.str "let")) (zc (zb 5) (zc (zb 7) zk)))))
    zK)
  (zm (zQ (zB (tOp rEq (zb 3) (tC (.int 8))))
    (zJ (yP (zc (tC (.str "say")) (zc (zb 7) zk))))
    zK)
  (zJ (yP (zc (tC (.str "off")) (zc (yP (zc (zb 5) (zc (tOp (rI0 λi j=>.int (i+j)) (tOp (rI (λ_ j=>0<j) λi j=>.int (i%j)) (tOp (yt K) (zb 0) (tC (.int 1))) (tC (.int 3))) (tC (.int 1))) (zc (tC (.str "same")) zk)))) zk)))))))
def Zq:TS:=zm (zL (tOp (rI (λ_ j=>0<j) λi j=>.int (i%j)) (tOp (yt K) (zb 0) (tC (.int 0))) (tC (.int 10))) (zp 3))
  (zm (zL (tOp (yt K) (zb 1) (tOp (rI (λ_ j=>0<j) λi j=>.int (i%j)) (tOp (rI yu λi j=>.int (i/j)) (tOp (yt K) (zb 0) (tC (.int 0))) (tC (.int 10))) (tC (.int 2)))) (zp 4))
  (zm (zL (tOp (yt K) (zb 2) (tOp (rI (λ_ j=>0<j) λi j=>.int (i%j)) (tOp (rI yu λi j=>.int (i/j)) (tOp (yt K) (zb 0) (tC (.int 0))) (tC (.int 20))) (tC (.int 2)))) (zp 5))
  (zm (zL (zT qb [] E0 (zc (tOp (yt K) (zb 0) (tC (.int 1))) (zc (zb 2) zk))) (zp 6))
  (zm (zL (zT vI [] E0 (zc (tOp (yt K) (zb 0) (tC (.int 2))) (zc (zb 2) zk))) (zp 7))
  (jS K t)))))
def je(K:bt)(t:Adr):TS:=zm (zQ (zB (tOp rEq (tOp (rI (λ_ j=>0<j) λi j=>.int (i%j)) (tOp (rI yu λi j=>.int (i/j)) (zb 0) (tC (.int 7))) (tC (.int 3))) (tC (.int 0))))
   (zm (zL (tOp (rI (λ_ j=>0<j) λi j=>.int (i%j)) (tOp (yt K) (zb 3) (tC (.int 18))) (tOp (rI0 λi j=>.int (i+j)) (tCB (wF K) (zc (zb 4) zk)) (tC (.int 1)))) (zp 5))
  (zm (zL (tOp (rI0 λi j=>.int (i+j)) (zb 5) (tOp (rI (λ_ j=>0<j) λi j=>.int (i%j)) (tOp (yt K) (zb 3) (tC (.int 21))) (tOp (rI0 λi j=>.int (i-j)) (tOp (rI0 λi j=>.int (i+j)) (tCB (wF K) (zc (zb 4) zk)) (tC (.int 1))) (zb 5)))) (zp 6))
  (zm (zL (yP (zc (tC (.str "if")) (zc (zT vI [] E0 (zc (tOp (yt K) (zb 3) (tC (.int 19))) (zc (zb 2) zk))) (zc (tSl (VF K) (zb 4) (vx (zb 5)) (vx (zb 6))) (zc (tSl (VF K) (zb 4) jh (vx (tOp (rI (λ_ j=>0<j) λi j=>.int (i%j)) (tOp (yt K) (zb 3) (tC (.int 20))) (tC (.int 3))))) zk))))) (zp 7))
  (zL (tOp WN (tOp WN (tSl (VF K) (zb 4) jh (vx (zb 5))) (xV (zc (zb 7) zk))) (tSl (VF K) (zb 4) (vx (zb 6)) jh)) (zp 4)))))
   zK)
  (zJ (zb 4))
def YY:TS:=zm (zL (zT xa [] E0 (zc (zb 0) (zc (tC (.int 22)) zk))) (zp 3))
  (zm (zL (vR (qF (zc (tOp (rI (λ_ j=>0<j) λi j=>.int (i%j)) (zb 0) (tC (.int 7))) zk)) (zp 0) Xp (zT Zd [] E0 (zc (tSl (VF K) (zb 1) (vx (tOp (rI CMulB λi j=>.int (i*j)) (tC (.int 3)) (zb 0))) (vx (tOp (rI0 λi j=>.int (i+j)) (tOp (rI CMulB λi j=>.int (i*j)) (tC (.int 3)) (zb 0)) (tC (.int 3))))) (zc (zb 2) (zc (zb 3) zk)))) 1 [3,1,2]) (zp 4))
  (je K t))
def qB(K:bt)(t:Adr):TS:=xF K (zb 0) (tC (.int 0)) "times"
def Vi:TS:=z5 (tBM K "list" yc (zb 11) (zc (zW t.q00 "move" (we t) [] E0 (zb 8) (zc (tOp (rI (λ_ j=>0<j) λi j=>.int (i%j)) (tOp (rI yu λi j=>.int (i/j)) (zb 12) (tC (.int 7))) (zb 5)) zk)) zk))
def zeq:TS:=zm (zQ (Qe (zB (tOp (rI0 λi j=>.bl (decide (i<j))) (tOp (rI (λ_ j=>0<j) λi j=>.int (i%j)) (zb 12) (tC (.int 7))) (tC (.int 2)))) (zB (tOp (rI0 λi j=>.bl (decide (i<j))) (zb 10) (zb 9))))
   (zm (z5 (zW t.q00 "add" (jt t) [] E0 (zb 8) (zc (tOp (yt K) (zb 4) (zb 10)) zk)))
  (zho 10 (tC (.int 1)) (ipI λi j=>i+j)))
   zK)
  (Vi K t)
def JD:TS:=zJ (zc2 (tOp rEq (zW t.q00 "settled" (xH t) [] E0 (zb 8) zk) (tOp (rI0 λi j=>.int (i+j)) (zb 7) (tCB (wF K) (zc (zb 4) zk)))) (zT vj [] E0 (zc (zb 11) (zc (zb 7) (zc (tCB (wF K) (zc (zb 4) zk)) zk)))))
def zcN:TS:=zm (zL (tOp WN (zb 11) (zW t.q00 "finish" (xq t) [] E0 (zb 8) zk)) (zp 11))
  (JD K t)
def JE:TS:=zm (jG (xW K (tSl (VF K) (zb 4) (vx (zb 10)) jh)) (zp 13)
   (z5 (zW t.q00 "add" (jt t) [] E0 (zb 8) (zc (zb 13) zk))))
  (zcN K t)
def JF:TS:=zm (zL (tOp WN (zb 11) (zW t.q00 "finish" (xq t) [] E0 (zb 8) zk)) (zp 11))
  (JE K t)
def JG:TS:=zm (jG (xW K (zb 0)) (zp 12)
   (zeq K t))
  (JF K t)
def JH:TS:=zm (zL (tOp (rI (λ_ j=>0<j) λi j=>.int (i%j)) (tOp (rI yu λi j=>.int (i/j)) (zT (z9 K) [] E0 (zc (zb 0) (zc (tC (.int 2)) zk))) (tC (.int 7))) (tOp (rI0 λi j=>.int (i+j)) (tCB (wF K) (zc (zb 4) zk)) (tC (.int 1)))) (zp 9))
  (zm (zL (tC (.int 0)) (zp 10))
  (zm (zL (xV zk) (zp 11))
  (JG K t)))
def zac:TS:=zm (zQ (zB (tOp rEq (zb 6) (tC (.int 2))))
   (zL (YF t.q00 (xA t) [] E0 (zc (tCB (zcB K) (zc (zb 3) zk)) (zc (zb 5) (zc (YF t.q05 (qx t) [] E0 zk) (zc (zb 7) zk))))) (zp 8))
   zK)
  (JH K t)
def zad:TS:=zm (zL (YF t.q00 (xA t) [] E0 (zc (tCB (zcB K) (zc (zb 3) zk)) (zc (zb 5) (zc (zbc t.q0e) (zc (zb 7) zk))))) (zp 8))
  (zm (zQ (zB (tOp rEq (zb 6) (tC (.int 1))))
    (zL (YF t.q00 (xA t) [] E0 (zc (tCB (zcB K) (zc (zb 3) zk)) (zc (zb 5) (zc (zbc t.q0d) (zc (zb 7) zk))))) (zp 8))
    zK)
  (zac K t))
def zae:TS:=zm (zL (tOp (rI0 λi j=>.int (i+j)) (tC (.int 1)) (tOp (rI (λ_ j=>0<j) λi j=>.int (i%j)) (zT (z9 K) [] E0 (zc (zb 0) (zc (tC (.int 0)) zk))) (tC (.int 8)))) (zp 5))
  (zm (zL (tOp (rI (λ_ j=>0<j) λi j=>.int (i%j)) (tOp (rI yu λi j=>.int (i/j)) (zT (z9 K) [] E0 (zc (zb 0) (zc (tC (.int 0)) zk))) (tC (.int 8))) (tC (.int 3))) (zp 6))
  (zm (zL (tOp (rI (λ_ j=>0<j) λi j=>.int (i%j)) (tOp (rI CMulC λi j=>.int (i*j)) (tOp (rI yu λi j=>.int (i/j)) (zT (z9 K) [] E0 (zc (zb 0) (zc (tC (.int 0)) zk))) (tC (.int 24))) (tOp (rI JX λi j=>.int (i^j.toNat)) (tC (.int 1000000007)) (tC (.int 3)))) (tOp (rI0 λi j=>.int (i-j)) (tOp (rI JX λi j=>.int (i^j.toNat)) (tC (.int 10)) (tC (.int 29))) (tC (.int 300)))) (zp 7))
  (zad K t)))
def zaf:TS:=zm (zL (vR (xW K (tSl (VF K) (zb 0) (vx (tC (.int 3))) (vx (tC (.int 7))))) (zp 0) Xp (zT Ym [] E0 (zc (zT qc [] E0 (zc (zb 0) (zc (zb 1) (zc (zb 2) zk)))) zk)) 1 [1,2]) (zp 4))
  (zae K t)
def zer:TS:=zm (zL (zT vH [] E0 (zc (zT (z9 K) [] E0 (zc (zb 0) (zc (tC (.int 1)) zk))) zk)) (zp 1))
  (zm (zL (zT vH [] E0 (zc (zT (z9 K) [] E0 (zc (zb 0) (zc (tC (.int 2)) zk))) zk)) (zp 2))
  (zm (zL (zT jM [] E0 (zc (tOp (rI yu λi j=>.int (i/j)) (zT (z9 K) [] E0 (zc (zb 0) (zc (tC (.int 1)) zk))) (tC (.int 7))) (zc (zb 1) zk))) (zp 3))
  (zaf K t)))
end
section
variable {K:bt}{t:Adr}{H:Hp}{Q:VK}
theorem zes{j:Int}(h0:0<=j)(h1:j<=100):JX 10 j:=⟨h0,by lia,by lia⟩
theorem y8(h:n<=100000):n<=Bb:=bK h (by lia)
theorem Zr(T:String):fA K (.type T) (.type T)=aa af:=by
 unfold fA
 rw[am (by simp)]
theorem kf(K:bt):KF K:=⟨by with_unfolding_all rfl,by with_unfolding_all rfl,by with_unfolding_all rfl,by with_unfolding_all rfl,by with_unfolding_all rfl,by with_unfolding_all rfl,by with_unfolding_all rfl,by with_unfolding_all rfl⟩
theorem dB{i j:Int}(h0:0<j:=by lia)(h1:j<10000000000000000000000000000000000000000000000:=by lia):yu i j:=by
 have hb:(10000000000000000000000000000000000000000000000:Int)<big:=by lia
 exact⟨h0,by lia⟩
theorem zag{α:Type}{xs:List α}{i:Int}(h0:0<=i)(h1:i<xs.length):∃x,atI xs i=aa x/\x∈xs:=by
 obtain⟨n,rfl⟩:∃n:Nat,i=(n:Int):=⟨i.toNat,by lia⟩
 have hn:n<xs.length:=by lia
 refine⟨xs[n],?_,eD hn⟩
 unfold atI ixN
 rw[am h0,am h1]
 simp[hn]
theorem zg0{α:Type}{xs:List α}(e:Int)(n:Nat)(hl:xs.length=n)(hn:0<(n:Int)):∃x,atI xs (e%n)=aa x/\x∈xs :=
 zag (cN _ (by lia)) (by rw[hl];exact cy _ hn)
theorem KB{i:Int}(hK:zfF K)(q:∀H',Same H H'->Q (.bl (inW i)) H') :
  Zh K t (qqN Q) (L2.start ["thing"] [.int i]) H:=by
 simp only[Zh,L2.start,zm,zJ,zK,tOp,tUn,zb,tC,zc,zk,zQ,tOr,Xg,tB,tCB,WK,rI,rI0,rU,Wc,cQ,bY,cg,bV,bj,bC,ao,V.int.injEq,V.bl.injEq,V.ty.injEq,bT,and_true,and_assoc,ap,cB,cp,decide_eq_true_eq,dF,Int.reduceToNat,Int.reducePow,Int.reduceNeg,if_true]
 have q:=q H (Same.refl H)
 refine⟨_,.int i,af,Zr _,?_⟩
 rw[aj (by lia)]
 refine⟨_,.int i,ak,hK,?_⟩
 rw[aj (by lia)]
 refine⟨zes (by lia) (by lia),xv (λc=>⟨zes (by lia) (by lia),?_⟩) λc=>?_⟩
 ·have e:inW i=decide (i<=1000000000000000000000000000000):=by
   unfold inW
   by_cases h:i<=1000000000000000000000000000000
   ·rw[Bj h,Bj ⟨c,h⟩]
   ·rw[Bk h,Bk λz=>h z.2]
  rw[e] at q
  exact q
 ·have e:inW i=ak:=Bk λz=>c z.1
  rw[e] at q
  exact q
theorem zah{vs:List V}{E:XK}(h:kZ t vs H Q E) :
  Yq K t E (qqN Q) (L2.start ["word","first","second"] vs) H:=by
 obtain⟨w,a,b,rfl,hw,ha,hb,q⟩:=h
 simp only[Yq,L2.start,WV,Qz,zm,zJ,zK,tOp,zb,tC,zc,zk,zQ,zB,tIf,rEq,rI,zci,cQ,bY,cg,bV,bj,bz,bC,ao,V.int.injEq,V.str.injEq,V.bl.injEq,true_and,ap,cB,cp,decide_eq_true_eq]
 have q:=q H (Same.refl H)
 have B:=Kh hb
 refine xv (λc=>?_) λc=>?_
 ·rw[am c] at q
  exact⟨by lia,λy=>⟨by lia,q⟩⟩
 ·rw[aj c] at q
  refine xv (λe=>?_) λe=>?_
  ·rw[am e] at q
   exact⟨⟨c,B⟩,q⟩
  ·rw[aj e] at q
   exact⟨c,q⟩
theorem zai{vs:List V}{E:XK}(h:k7 t vs H Q E) :
  Yr K t E (qqN Q) (L2.start ["word","first","second"] vs) H:=by
 obtain⟨w,a,b,rfl,hw,ha,hb,q⟩:=h
 simp only[Yr,kZ,L2.start,zm,zJ,zK,tOp,zb,tC,zc,zk,zQ,zB,tIf,zT,rEq,rI,rI0,zci,cQ,bY,cg,bV,bj,bz,bC,ao,V.int.injEq,V.str.injEq,V.bl.injEq,bT,and_true,true_and,and_assoc,ap,cB,cp,decide_eq_true_eq]
 have A:=Kh ha
 have B:=Kh hb
 have nd:¬ WX w->Q (.int (jk w a b)) H:=λh=>by
  have q:=q H (Same.refl H)
  rw[aj λz=>h z.1] at q
  exact q
 refine xv (λc=>?_) λc1=>xv (λc=>?_) λc2=>xv (λc=>⟨⟨A,B⟩,?_⟩) λc3=>xv (λc=>?_) λc4=>xv (λc=>?_) λc5=>⟨hw,ha,hb,λH' s=>?_⟩
 ·subst c
  have q:=nd λz=>z.1 rfl
  exact q
 ·subst c
  have q:=nd λz=>z.2.1 rfl
  rw[show jk "minus" a b=a-b by unfold jk;rw[aj c1,am rfl]] at q
  exact q
 ·subst c
  have q:=nd λz=>z.2.2.1 rfl
  rw[show jk "times" a b=a*b by unfold jk;rw[aj c1,aj c2,am rfl]] at q
  exact q
 ·subst c
  have q:=nd λz=>z.2.2.2.1 rfl
  rw[show jk "under" a b=if a<b then 1 else 0 by unfold jk;rw[aj c1,aj c2,aj c3,am rfl]] at q
  refine xv (λd=>?_) λd=>?_
  ·rw[am d] at q;exact q
  ·rw[aj d] at q;exact q
 ·subst c
  have q:=nd λz=>z.2.2.2.2 rfl
  rw[show jk "same" a b=if a=b then 1 else 0 by unfold jk;rw[aj c1,aj c2,aj c3,aj c4,am rfl]] at q
  refine xv (λd=>?_) λd=>?_
  ·rw[am d] at q;exact q
  ·rw[aj d] at q;exact q
 ·have q:=q H' s
  have hd:WX w:=⟨c1,c2,c3,c4,c5⟩
  refine xv (λd=>?_) λd=>?_
  ·rw[am ⟨hd,d⟩] at q;exact q
  ·rw[aj λz=>d z.2] at q
   unfold jk at q
   rw[aj c1,aj c2,aj c3,aj c4,aj c5] at q
   exact q
theorem zbh{vs:List V}{E:XK}(h:ZC t vs H Q E) :
  XE K t E (qqN Q) (L2.start ["word","first","second","worth"] vs) H:=by
 obtain⟨w,a,b,rfl,hw,ha,hb,q⟩:=h
 simp only[XE,k7,qZ,L2.start,WV,Qz,zm,zL,zp,zJ,zK,zb,zc,zk,zQ,Xg,tB,zT,cQ,bY,cg,cE,cX,bV,bj,bz,bC,ao,V.int.injEq,V.str.injEq,V.bl.injEq,bT,and_true,and_assoc,ap,cC,cO,cB,cp,dF]
 refine⟨hw,ha,hb,λH1 s1=>xv (λc=>?_) λc H2 s2=>xv (λd=>?_) λd=>?_⟩
 ·have q:=q H1 s1
  unfold vW at q
  rw[am c] at q
  exact q
 ·have q:=q H2 (s1.trans s2)
  unfold vW at q
  rw[aj c,aj (by rw[d];decide)] at q
  exact⟨by lia,λy=>⟨by lia,q⟩⟩
 ·have q:=q H2 (s1.trans s2)
  unfold vW at q
  rw[aj c,am (by simpa using d)] at q
  exact q
theorem zaj{xs:List V} :(xs++[y])[(xs++[y]).length-1]?=aa y:=by simp
theorem XG{xs:List V} :(xs++[y]).dropLast=xs:=by simp
theorem yz{H H':Hp}(s:Same H H')(hw:H w=ai):Same H (upd H' w o):=λb u e=>by rw[zi (zx e hw)];exact s b u e
theorem zg1(st:List Int):(∃l a b,st=l++[a,b])\/∀kvs v,isJ v=af->wB kvs st v=.error .stuck:=by
 cases h:st.reverse with
 |nil =>
  refine .inr λkvs v hv=>?_
  unfold wB
  rw[hv,am rfl,h]
  split <;> rename_i e1 e2 <;> first|rfl|cases e2
 |cons b r =>
  cases r with
  |nil =>
   refine .inr λkvs v hv=>?_
   unfold wB
   rw[hv,am rfl,h]
   split <;> rename_i e1 e2 <;> first|rfl|cases e2
  |cons a r =>
   refine .inl ⟨r.reverse,a,b,?_⟩
   have:=congrArg List.reverse h
   rw[List.reverse_reverse] at this
   rw[this];simp
theorem zet{kvs:List (Key×V)}{l:List Int}{a b:Int}{w:Str}(hw:isJ (.str w)=af):wB kvs (l++[a,b]) (.str w)=match vW w a b with|.ok c=>.ok (l++[c])|.error e=>.error e:=by
 unfold wB
 rw[hw,am rfl]
 simp only[nS,oF,oW,cX,cE]
 cases vW w a b with
 |error e=>rfl
 |ok c=>simp
def rkI(kvs:List (Key×V))(ps:List V)(tm sl w:ac)(H:Hp)(i:Nat)(σ:St)(H':Hp):Prop:=∃st,(∃o3 o4 o5,σ=[aa (.ref tm),aa (.ref sl),aa (.ref w),o3,o4,o5])/\wW kvs (ps.take i) []=.ok st/\(∀x∈st,inW x=af)/\st.length<=i/\H' w=aa (.lst (st.map V.int))/\Same H H'
theorem KC{E:XK}{kvs:List (Key×V)}{tm sl:ac}{ps:List V}{r:Except Er Int}(hK:fA K (.type "int") (.type "str")=aa ak)(hJ:∀H:Hp,SqT K H t.q0x jw)(h1:H tm=aa (.tup ps))(h2:H sl=aa (.dK kvs))(h3:Good kvs ps r)(h4:∀v∈ps,kO v)(h5:ps.length<=1000)(h6:yS kvs)
  (q:∀H',Same H H'->fin t r Q E H'):Zi K t E (qqN Q) (L2.start ["term","slots","worths","part","second","first"] [.ref tm,.ref sl]) H:=by
 simp only[Zi,L2.start,qK,zfe,zm,zL,zp,zJ,zb,xV,zk,jG,zcr,tyV,zgA,cQ,bY,cg,cE,cX,bj,bC,ao,V.ref.injEq,true_and,ap,cC,cO,cB,cp]
 refine⟨by lia,λw hw=>⟨⟨_,SqT.of ((isV w hw) _ _ h1)⟩,?_⟩⟩
 have run0:=h3.1 []
 have fe:∀ {e:Er} {H':Hp},wW kvs ps []=.error e->Same H H'->fin t (.error e) Q E H':=λ{e H'} z s=>by
  rw[z] at run0
  cases r with
  |ok i=>cases run0
  |error e' =>
   cases run0
   exact q _ s
 have ns:wW kvs ps []≠.error .stuck:=λz=>by
  rw[z] at run0
  cases r with
  |ok i=>cases run0
  |error e' =>
   cases run0
   exact h3.2 rfl
 refine zdt ps (rkI kvs ps tm sl w H) ⟨[],⟨_,_,_,rfl⟩,rfl,(λx z=>nomatch z),bi _,zh,isV w hw⟩ (λi σ H' ⟨st,a,b,c,d,e,s⟩=>SqT.of (s _ _ h1)) ?_ ?_
 ·rintro i v σ H' hv ⟨st,⟨o3,o4,o5,rfl⟩,hr,hW,hl,hst,hS⟩
  have hi:i<ps.length:=(bf.mp hv).1
  have one:=zfq hr hv
  have ok:=h4 v (bW hv)
  have fl:YG v=af:=by rcases ok with ⟨j,rfl,_⟩|⟨x,rfl,_⟩ <;> rfl
  simp only[ZU,tOp,zb,tC,zQ,zB,rIn,bj,bz,bC,ao,V.ref.injEq,V.bl.injEq,ap,cC,cO,cx,ite_false]
  refine⟨jw,.inr (hJ H'),fl,rfl,xv (λc=>?_) λc=>?_⟩
  ·simp only[ZS,ZC,yc,qK,WA,zfe,zm,zL,zp,z5,zb,zc,zk,tBM,zcr,tyV,zT,bV,bj,bz,bC,ao,V.ref.injEq,bT,and_true,true_and,and_assoc,ap,cC,cO]
   rcases zg1 st with ⟨l,a,b,rfl⟩|z
   ·obtain⟨x,rfl,hx⟩:∃x:Str,v=.str x/\x.length<=1000:=by
     rcases ok with ⟨j,rfl,_⟩|h
     ·exact absurd c (by rw[show inV (V.int j) jw=ak from rfl];decide)
     ·exact h
    have e1:cQ V.int (l++[a,b])=(l.map V.int++[.int a])++[.int b]:=by simp
    rw[e1] at hst
    have one':=one.trans (zet c)
    have wa:=hW a (by simp)
    have wb:=hW b (by simp)
    refine⟨.inl ⟨_,SqL.of hst⟩,_,hst,_,zaj,.inl ⟨_,SqL.of zh⟩,_,by rw[XG];exact zh,_,zaj,.inl ⟨_,SqL.of zh⟩,x,rfl,a,rfl,b,rfl,hx,wa,wb,λH2 s2=>?_⟩
    rw[XG,XG] at s2
    have S2:Same H H2:=(yz (yz hS hw) hw).trans s2
    cases e:vW x a b with
    |ok d =>
     rw[e] at one'
     have hd:inW d=af:=by
      unfold vW at e
      split at e
      ·cases e
      ·split at e
       ·rename_i z;cases e;exact z
       ·cases e
     refine⟨_,s2 _ _ zh,?_,l++[d],⟨_,_,_,rfl⟩,one',?_,?_,?_,yz S2 hw⟩
     ·rw[bd]
      have:(l++[a,b]).length=l.length+2:=by simp
      exact bU (by lia:l.length<=1000) (by lia)
     ·intro y hy
      rcases bx.mp hy with h|h
      ·exact hW y (cz _ h)
      ·have:y=d:=by simpa using h
       rw[this];exact hd
     ·have:(l++[a,b]).length=l.length+2:=by simp
      rw[bw];show l.length+1<=i+1
      lia
     ·rw[bM];exact zh
    |error er =>
     rw[e] at one'
     have:=fe (zbM one') S2
     cases er with
     |nought=>exact this
     |great=>exact this
     |stuck=>trivial
   ·exact absurd (zbM (one.trans (z kvs v c))) ns
  ·simp only[ZT,vf,vf,yc,WA,z5,zb,tC,zc,zk,tB,tIf,tCB,tBM,tyV,Wc,bj,bz,bC,ao,V.ref.injEq,V.bl.injEq,V.ty.injEq,bT,and_true,true_and,and_assoc,ap]
   have st1:wB kvs st v=.ok (st++[zaX kvs v]):=by
    unfold wB
    rw[aj (by unfold isJ;exact c)]
   have one':=one.trans st1
   have hwv:=QC h6 ok
   have fin1:∀u,u=V.int (zaX kvs v)->rkI kvs ps tm sl w H (i+1) [aa (V.ref tm),aa (V.ref sl),aa (V.ref w),aa v,o4,o5] (upd H' w (HO.lst (cQ V.int st++[u]))):=λu hu=>by
    subst hu
    refine⟨st++[zaX kvs v],⟨_,_,_,rfl⟩,one',?_,?_,?_,yz hS hw⟩
    ·intro y hy
     rcases bx.mp hy with h|h
     ·exact hW y h
     ·have:y=zaX kvs v:=by simpa using h
      rw[this];exact hwv
    ·rw[bw];show st.length+1<=i+1
     lia
    ·rw[bM];exact zh
   have sz:(cQ V.int st).length<Bb:=by
    rw[bd]
    exact bU (by lia:st.length<=1000) (by lia)
   refine⟨.inl ⟨_,SqL.of hst⟩,?_⟩
   rcases ok with ⟨j,rfl,hj⟩|⟨x,rfl,hx⟩
   ·refine⟨_,.int j,ak,hK,?_⟩
    rw[aj (by lia)]
    exact⟨_,hst,sz,fin1 _ rfl⟩
   ·refine⟨_,.str x,af,Zr _,?_⟩
    rw[am rfl]
    refine⟨.inl ⟨kvs,.inl (hS _ _ h2)⟩,_,DGet.k (k:=.inr x) (hS _ _ h2),_,hst,sz,fin1 _ ?_⟩
    show (z4 kvs (.inr x)).getD (V.int 0)=V.int (match z4 kvs (.inr x) with|some (.int i)=>i|_=>0)
    cases e:z4 kvs (.inr x) with
    |none=>rfl
    |some u =>
     obtain⟨i,rfl,_⟩:=h6 _ _ e
     rfl
 ·rintro σ H' ⟨st,⟨o3,o4,o5,rfl⟩,hr,hW,hl,hst,hS⟩
  rw[eR] at hr
  simp only[bj,bz,bC,ao,V.ref.injEq]
  rw[hr] at run0
  cases r with
  |error e=>cases run0
  |ok i =>
   have e:st=[i]:=by injection run0
   subst e
   exact⟨.inl ⟨_,SqL.of hst⟩,_,hst,_,rfl,q _ (yz hS hw)⟩
theorem zbU(c:Nat):({ cps:=#[c] }:Str).length=1:=rfl
theorem XH{vs:List V}{_E:XK}(h:z9 K vs H Q _E) :
  vm K t (qqN Q) (L2.start ["script","k"] vs) H:=by
 obtain⟨a,ns,k,rfl,hS,hl,hb,q⟩:=h
 simp only[vm,L2.start,zm,zJ,zK,tOp,zb,tC,zc,zk,zQ,zB,tCB,zcj,yt,rI0,wF,cQ,bY,cg,bV,bj,bz,bC,ao,V.int.injEq,V.ref.injEq,V.bl.injEq,bT,and_true,ap,cB,cp,decide_eq_true_eq]
 refine⟨_,.inl ⟨_,hS,rfl⟩,xv (λe=>?_) λe=>?_⟩
 ·rw[bd] at e
  obtain⟨v,h1,h2⟩:=zag (xs:=ns.map V.int) (i:=(k:Int)) (by lia) (by rw[bd];lia)
  obtain⟨x,hx,rfl⟩:=bE.mp h2
  exact⟨_,hS,_,h1,q _ _ (Same.refl _) (hb x hx)⟩
 ·exact q _ _ (Same.refl _) (Cb.of (by lia))
theorem zH{H H':Hp}(s:Same H H')(h:H' D=ai):H D=ai:=by
 cases e:H D with
 |none=>rfl
 |some o=>rw[s _ _ e] at h;cases h
theorem fin_err{Q:VK}{E:XK}{H:Hp}:fin t (.error e) Q E H↔zeo t e E H:=by cases e <;> rfl
theorem fin_ok{i:Int}{Q:VK}{E:XK}{H:Hp}:fin t (.ok i) Q E H↔Q (.int i) H:=pM
theorem CsAt.same{H H':Hp}(h:CsAt H v c)(s:Same H H'):CsAt H' v c:=by
 cases c with
 |row r=>exact⟨h.1.mono s,h.2⟩
 |skip e to =>
  obtain⟨p,te,h1,h2,h3⟩:=h
  exact⟨p,te,h1,s _ _ h2,s _ _ h3⟩
 |go en =>
  obtain⟨p,h1,h2⟩:=h
  exact⟨p,h1,s _ _ h2⟩
theorem wu{H H':Hp}(s:Same H H'):∀ {xs:List V} {C:List Cs},Paired (CsAt H) xs C->Paired (CsAt H') xs C
 |_,_,.nil=>.nil
 |_,_,.cons h r=>.cons (h.same s) (wu s r)
def TSm(H H':Hp):Prop:=∀b ys,H b=aa (.tup ys)->H' b=aa (.tup ys)
theorem CsAt.ts{H H':Hp}(s:TSm H H')(h:CsAt H v c):CsAt H' v c:=by
 cases c with
 |row r =>
  obtain⟨h,n⟩:=h
  refine⟨?_,n⟩
  cases r with
  |iff e a b=>exact n.elim
  |take sh e sl =>
   obtain⟨r,te,a1,a2,a3,a4,a5⟩:=h
   exact⟨r,te,a1,a2,a3,s _ _ a4,s _ _ a5⟩
  |give sh e f =>
   obtain⟨r,te,tf,a1,a2,a3,a4,a5,a6,a7⟩:=h
   exact⟨r,te,tf,a1,a2,a3,a4,s _ _ a5,s _ _ a6,s _ _ a7⟩
  |lt sl e =>
   obtain⟨r,te,a1,a2,a3,a4,a5⟩:=h
   exact⟨r,te,a1,a2,a3,s _ _ a4,s _ _ a5⟩
  |say e =>
   obtain⟨r,te,a1,a2,a3,a4,a5⟩:=h
   exact⟨r,te,a1,a2,a3,s _ _ a4,s _ _ a5⟩
  |off e =>
   obtain⟨r,te,a1,a2,a3,a4,a5⟩:=h
   exact⟨r,te,a1,a2,a3,s _ _ a4,s _ _ a5⟩
 |skip e to =>
  obtain⟨p,te,h1,h2,h3⟩:=h
  exact⟨p,te,h1,s _ _ h2,s _ _ h3⟩
 |go en =>
  obtain⟨p,h1,h2⟩:=h
  exact⟨p,h1,s _ _ h2⟩
theorem xO{H H':Hp}(s:TSm H H'):∀ {xs:List V} {C:List Cs},Paired (CsAt H) xs C->Paired (CsAt H') xs C
 |_,_,.nil=>.nil
 |_,_,.cons h r=>.cons (h.ts s) (xO s r)
theorem zbV(x:Rw):(∃e a b,x=.iff e a b)\/Vd x:=by
 cases x with
 |iff e a b=>exact .inl ⟨e,a,b,rfl⟩
 |_=>exact .inr trivial
theorem vK(h:Vd x)(k:Nat):xh x k=[.row x]:=by
 cases x with
 |iff e a b=>exact h.elim
 |_=>rw[xh];intro e a b z;cases z
theorem zfJ{F:ac->Prop}(h:RwAt F H v r):∃p xs hd,v=.ref p/\H p=aa (.tup xs)/\atI xs 0=aa (.str hd)/\(hd="if"↔¬ Vd r):=by
 cases r with
 |take sh e sl =>
  unfold RwAt at h
  obtain⟨r,te,rfl,_,_,e2,e3⟩:=h
  exact⟨r,_,_,rfl,e2,rfl,⟨λz=>absurd z (by lia),λz=>absurd trivial z⟩⟩
 |give sh e f =>
  unfold RwAt at h
  obtain⟨r,te,tf,rfl,_,_,_,e2,e3⟩:=h
  exact⟨r,_,_,rfl,e2,rfl,⟨λz=>absurd z (by lia),λz=>absurd trivial z⟩⟩
 |lt sl e =>
  unfold RwAt at h
  obtain⟨r,te,rfl,_,_,e2,e3⟩:=h
  exact⟨r,_,_,rfl,e2,rfl,⟨λz=>absurd z (by lia),λz=>absurd trivial z⟩⟩
 |say e =>
  unfold RwAt at h
  obtain⟨r,te,rfl,_,_,e2,e3⟩:=h
  exact⟨r,_,_,rfl,e2,rfl,⟨λz=>absurd z (by lia),λz=>absurd trivial z⟩⟩
 |off e =>
  unfold RwAt at h
  obtain⟨r,te,rfl,_,_,e2,e3⟩:=h
  exact⟨r,_,_,rfl,e2,rfl,⟨λz=>absurd z (by lia),λz=>absurd trivial z⟩⟩
 |iff e a b =>
  unfold RwAt at h
  obtain⟨r,te,la,lb,xs,ys,rfl,f1,f2,f3,f4,e2,e3⟩:=h
  exact⟨r,_,_,rfl,e2,rfl,⟨λ_ z=>z,λ_=>rfl⟩⟩
theorem Paired.app2{α β:Type}{F:α->β->Prop}:∀ {a:List α} {b:List β} {c:List α} {d:List β},Paired F a b->Paired F c d->Paired F (a++c) (b++d)
 |_,_,_,_,.nil,h=>h
 |_,_,_,_,.cons h r,h2=>.cons h (Paired.app2 r h2)
theorem zak{vs:List V}{_E:XK}(h:Ym vs H Q _E) :
  Yp K t (qqN Q) (L2.start ["rows"] vs) H:=by
 obtain⟨v,r,rfl,h1,h2,h3,q⟩:=h
 simp only[Yp,xo,L2.start,zJ,zb,tC,zc,zk,zT,cQ,bY,cg,bV,bj,bC,ao,V.int.injEq,bT,and_true,and_assoc,ap,cB,cp]
 exact⟨r,0,rfl,h1,h2,by lia,q⟩
def sfI(v:V)(L:ac)(xs:List V)(k n:Nat)(r:Rws)(H:Hp)(i:Nat)(σ:St)(H':Hp):Prop:=∃(rest:Rws) (ys:List V) (C:List Cs),(∃o,σ=[aa v,aa (.int k),aa (.ref L),o])/\Same H H'/\H' L=aa (.lst ys)/\Paired (CsAt H') ys C/\RwsAt Ko H (xs.drop i) rest/\Ve (n+1) rest/\C++zY rest (k+C.length)=zY r k
theorem zbi{H:Hp}(h:H L=aa (.lst ys)):TSm H (upd H L (.lst zs)):=λb us e=>by rw[zi (zG e h (by lia))];exact e
theorem KD{v:V}{r:Rws}{k n:Nat}(h1:RlAt Ko H v r)(h2:Ve (n+1) r)(h3:k+(zY r k).length<=500)(q:∀l xs H',Same H H'->H l=ai->H' l=aa (.lst xs)->Paired (CsAt H') xs (zY r k)->Q (.ref l) H') :
  X2 K t n (qqN Q) (L2.start ["rows","first","steps","row"] [v,.int k]) H:=by
 obtain⟨p,xs,rfl,_,hp,hx⟩:=h1
 refine⟨bP _,λL hL=>?_⟩
 have s0:=isV (o:=HO.lst []) L hL
 refine⟨_,rfl,p,rfl,⟨_,SqL.of (s0 _ _ hp)⟩,?_⟩
 refine yU xs (sfI (.ref p) L xs k n r H) ⟨r,[],[],⟨_,rfl⟩,s0,zh,.nil,by rw[gC];exact hx,h2,rfl⟩ (λi σ H' ⟨_,_,_,_,s,_⟩=>SqL.of (s _ _ hp)) ?_ ?_
 ·rintro i u σ H' hu ⟨rest,ys,C,⟨o,rfl⟩,s,hy,pr,hr,ok,eq⟩
  obtain⟨x,rs,rfl,rx,rr⟩:=hr.get hu
  have e0:zY (.cons x rs) (k+C.length)=xh x (k+C.length)++zY rs (k+C.length+(xh x (k+C.length)).length):=by rw[zY]
  rw[e0] at eq
  have okd:=ok.dp
  have c1:(Rws.cons x rs).deep=max x.deep rs.deep:=by rw[Rws.deep]
  rw[c1] at okd
  have okc:=ok.ct
  have c2:(Rws.cons x rs).cnt=x.cnt+rs.cnt:=by rw[Rws.cnt]
  rw[c2] at okc
  have okp:=ok.pl
  unfold qP at okp
  have le:=congrArg cg eq
  rw[bw,bw] at le
  have ly:=bL pr
  have nx:∀ {H2:Hp} {o':Option V} {zs:List V},Same H H2->H2 L=aa (.lst zs)->Paired (CsAt H2) zs (C++xh x (k+C.length))->sfI (.ref p) L xs k n r H (i+1) [aa (.ref p),aa (.int k),aa (.ref L),o'] H2:=λ{H2 o' zs} s2 g2 p2 =>
   ⟨rs,zs,_,⟨_,rfl⟩,s2,g2,p2,rr,⟨by lia,by lia,okp.2⟩,by rw[cG,bw,<-oq];exact eq⟩
  obtain⟨p1,fs,hd,rfl,e2,e3,e4⟩:=zfJ rx
  refine kQ rfl (s _ _ e2) e3 (λez=>?_) λez=>?_
  ·rcases zbV x with ⟨e,a,b,rfl⟩|hni
   rotate_left
   ·exact absurd hni (e4.mp ez)
   have d1:(Rw.iff e a b).deep=max a.deep b.deep+1:=by rw[Rw.deep]
   have d2:(Rw.iff e a b).cnt=max a.cnt b.cnt+1:=by rw[Rw.cnt]
   rw[d1] at okd
   rw[d2] at okc
   have pl:=okp.1
   unfold W7 at pl
   refine⟨_,rfl,.inl ⟨rfl,_,SqL.of hy⟩,_,rfl,_,rfl,zen rfl hy ⟨_,_,rfl,rfl,_,e,a,b,k+C.length,by rw[<-ly];rfl,rx.mono s,⟨by lia,by lia,pl.2.1⟩,⟨by lia,by lia,pl.2.2⟩,by lia,λl us H2 s2 hl pu=>?_⟩⟩
   have lu:=bL pu
   refine⟨L,_,ys,us,rfl,rfl,s2 _ _ hy,hl,bK (by lia:ys.length+us.length<=1000) (by lia),?_⟩
   exact nx (yz (s.trans s2) hL) zh (xO (zbi (s2 _ _ hy)) (Paired.app2 (wu s2 pr) pu))
  ·have hni:Vd x:=by
    rcases zbV x with ⟨e,a,b,rfl⟩|hni
    ·exact absurd (e4.mpr (λz=>z)) ez
    ·exact hni
   have ec:=vK hni (k+C.length)
   rw[ec] at nx
   refine⟨_,rfl,.inl ⟨rfl,_,SqL.of hy⟩,_,rfl,L,ys,_,rfl,rfl,hy,bU (by lia:ys.length<=900) (by lia),?_⟩
   exact nx (yz s hL) zh (Paired.snocP (xO (zbi hy) pr) (CsAt.ts (zbi hy) ⟨rx.mono s,hni⟩))
 ·rintro σ H' ⟨rest,ys,C,⟨o,rfl⟩,s,hy,pr,hr,ok,eq⟩
  have e:=hr.none
  subst e
  rw[show zY .nil (k+C.length)=[] by rw[zY],bV] at eq
  rw[eq] at pr
  exact⟨_,rfl,q L ys H' s hL hy pr⟩
theorem xk{H H':Hp}(e:upd H a o=H')(h:H a=ai):Same H H'/\H' a=aa o:=⟨e ▸ isV a h,e ▸ zh⟩
theorem Wq{v:V}{e:List V}{a b:Rws}{k n:Nat}(h1:RwAt Ko H v (.iff e a b))(h2:Ve n a)(h3:Ve n b)(h4:k+(xh (.iff e a b) k).length<=500)(q:∀l xs H',Same H H'->H' l=aa (.lst xs)->Paired (CsAt H') xs (xh (.iff e a b) k)->Q (.ref l) H') :
  Zf K t n (qqN Q) (L2.start ["row","at","steps","to","others"] [v,.int k]) H:=by
 unfold RwAt at h1
 obtain⟨p,te,la,lb,xs,ys,rfl,f1,f2,f3,f4,e2,e3,e4,e6,e5,e7⟩:=h1
 have ec:xh (.iff e a b) k=blk e k (zY a (k+1)) (Rws.isNil b) (zY b (k+2+(zY a (k+1)).length)):=by rw[xh]
 rw[ec] at h4 q
 refine W9 rfl e2 rfl ⟨_,rfl,_,_,rfl,rfl,.ref la,a,k+1,rfl,⟨la,xs,rfl,f3,e4,e6⟩,h2,?_,λl us H1 s1 fl hl pu=>?_⟩
 ·unfold blk at h4;split at h4 <;> simp only[bR,bw] at h4 <;> lia
 have lu:=bL pu
 generalize zY a (k+1)=A at *
 refine⟨_,rfl,_,_,rfl,rfl,zen rfl hl ⟨_,_,rfl,rfl,?_⟩⟩
 have ei:(k:Int)+1+us.length=((k+1+A.length:Nat):Int):=by lia
 show kn K t n _ [aa (.ref p),aa (.int k),aa (.ref l),aa (.int ((k:Int)+1+us.length)),ai] H1
 rw[ei]
 refine W9 rfl (s1 _ _ e2) rfl ⟨bP _,λz gz=>?_⟩
 generalize f0:upd H1 z _=H2
 obtain⟨s2,hz⟩:=xk f0 gz
 have S2:=s1.trans s2
 refine⟨lb,z,ys,rfl,rfl,SqL.of (S2 _ _ e5),SqL.of hz,_,rfl,?_⟩
 have nb:Rws.isNil b=decide (ys=[]):=by
  cases b with
  |nil=>unfold RwsAt at e7;simp[Rws.isNil,e7]
  |cons x r=>unfold RwsAt at e7;obtain⟨v,vs,rfl,_⟩:=e7;simp[Rws.isNil]
 have hl2:=s2 _ _ hl
 have pu2:=wu s2 pu
 show if _ then _ else _
 by_cases hb:ys=[]
 ·rw[am (Bj hb)]
  have eb:∀B,blk e k A (Rws.isNil b) B=.skip e (k+1+A.length)::A:=λB=>by unfold blk;rw[am (by rw[nb];exact Bj hb)]
  rw[eb] at q h4
  rw[bR] at h4
  refine W9 rfl (S2 _ _ e2) rfl ⟨_,rfl,by show (3:Nat)<=Bb;decide,λp1 g1=>?_⟩
  generalize c1:upd H2 p1 _=H3
  obtain⟨t1,hp1⟩:=xk c1 g1
  refine⟨by show (1:Nat)<=Bb;decide,λp2 g2=>?_⟩
  generalize c2:upd H3 p2 _=H4
  obtain⟨t2,hp2⟩:=xk c2 g2
  have T:=t1.trans t2
  refine⟨_,rfl,_,_,_,us,rfl,rfl,hp2,T _ _ hl2,bK (by show 1+us.length<=1000;lia) (by lia),λp3 g3=>?_⟩
  have t3:=isV (o:=HO.lst ([V.ref p1]++us)) p3 g3
  exact q p3 ([V.ref p1]++us) _ (S2.trans (T.trans t3)) zh (.cons ⟨p1,te,rfl,(t2.trans t3) _ _ hp1,(S2.trans (T.trans t3)) _ _ e3⟩ (wu (T.trans t3) pu2))
 ·rw[aj (by rw[decide_eq_true_eq];exact hb)]
  have eb:∀B,blk e k A (Rws.isNil b) B=.skip e (k+2+A.length)::(A++(.go (k+2+A.length+B.length)::B)):=λB=>by unfold blk;rw[aj (by rw[nb];simpa using hb)]
  rw[eb] at q h4
  rw[bR,bw,bR] at h4
  have ej:((k+1+A.length:Nat):Int)+1=((k+2+A.length:Nat):Int):=by lia
  refine W9 rfl (S2 _ _ e2) rfl ⟨_,rfl,_,_,rfl,rfl,.ref lb,b,k+2+A.length,?_,⟨lb,ys,rfl,f4,S2 _ _ e5,e7.mono S2⟩,h3,by lia,λl2 ws H3 s3 fl2 hl3 pw=>?_⟩
  ·show [V.ref lb,V.int (((k+1+A.length:Nat):Int)+1)]=_
   rw[ej]
  have lw:=bL pw
  generalize zY b (k+2+A.length)=B at *
  have S3:=S2.trans s3
  refine W9 rfl (S3 _ _ e2) rfl ⟨_,rfl,_,_,rfl,rfl,by show (3:Nat)<=Bb;decide,λp1 g1=>?_⟩
  generalize c1:upd H3 p1 _=H4
  obtain⟨t1,hp1⟩:=xk c1 g1
  have hp1:H4 p1=aa (.tup [.str (bc "skip"),.ref te,.int ((k+2+A.length:Nat):Int)]):=by rw[<-ej];exact hp1
  refine⟨by show (1:Nat)<=Bb;decide,λp2 g2=>?_⟩
  generalize c2:upd H4 p2 _=H5
  obtain⟨t2,hp2⟩:=xk c2 g2
  have T2:=t1.trans t2
  refine⟨_,rfl,_,_,_,us,rfl,rfl,hp2,(s3.trans T2) _ _ hl2,bK (by show 1+us.length<=1000;lia) (by lia),λp3 g3=>?_⟩
  generalize c3:upd H5 p3 _=H6
  obtain⟨t3,hp3⟩:=xk c3 g3
  have T3:=T2.trans t3
  refine⟨_,rfl,_,_,rfl,rfl,zen rfl (T3 _ _ hl3) ⟨_,_,rfl,rfl,by show (2:Nat)<=Bb;decide,λp4 g4=>?_⟩⟩
  generalize c4:upd H6 p4 _=H7
  obtain⟨t4,hp4⟩:=xk c4 g4
  have eg:((k+1+A.length:Nat):Int)+1+ws.length=((k+2+A.length+B.length:Nat):Int):=by lia
  have hp4:H7 p4=aa (.tup [.str (bc "go"),.int ((k+2+A.length+B.length:Nat):Int)]):=by rw[<-eg];exact hp4
  refine⟨by show (1:Nat)<=Bb;decide,λp5 g5=>?_⟩
  generalize c5:upd H7 p5 _=H8
  obtain⟨t5,hp5⟩:=xk c5 g5
  refine⟨_,_,_,_,rfl,rfl,(t4.trans t5) _ _ hp3,hp5,bK (by show ([V.ref p1]++us).length+1<=1000;rw[bw,eV];lia) (by lia),λp6 g6=>?_⟩
  generalize c6:upd H8 p6 _=H9
  obtain⟨t6,hp6⟩:=xk c6 g6
  have T6:=t4.trans (t5.trans t6)
  refine⟨_,rfl,_,_,_,ws,rfl,rfl,hp6,(T3.trans T6) _ _ hl3,bK (by rw[bw,bw,eV,eV];lia:_<=1000) (by lia),λp7 g7=>?_⟩
  generalize c7:upd H9 p7 _=H10
  obtain⟨t7,hp7⟩:=xk c7 g7
  have T7:=T6.trans t7
  have U:=T3.trans T7
  have el:[V.ref p1]++us++[V.ref p4]++ws=V.ref p1::(us++(V.ref p4::ws)):=by simp
  refine q p7 ([V.ref p1]++us++[V.ref p4]++ws) _ (S3.trans U) hp7 ?_
  rw[el]
  exact .cons ⟨p1,te,rfl,(t2.trans (t3.trans T7)) _ _ hp1,(S3.trans U) _ _ e3⟩ (Paired.app2 (wu (s3.trans U) pu2) (.cons ⟨p4,rfl,(t5.trans (t6.trans t7)) _ _ hp4⟩ (wu U pw)))
theorem YZ{H:Hp}{Q:VK}{E:XK}(h:xo 0 vs H Q E):False:=by
 obtain⟨v,r,k,e,h1,h2,h3⟩:=h
 have:=h2.dp
 lia
theorem rnF{P:Str->Option ae}(T:Txt K P t):RnF K t:=⟨T.q06,T.q2j,T.q2i,T.q2o,T.q2n,T.q2k,T.q2l,T.q2m⟩
section
variable {x:ac}{a:RAd}{C:List Cs}{s:RSt}
theorem RnAt.notup(R:RnAt t H x a C s)(h:H b=aa (.tup zs)):¬ Ow x a b:=by
 rintro(rfl|rfl|rfl|rfl|rfl)
 ·rw[R.ix] at h;cases h
 ·rw[R.hs] at h;cases h
 ·rw[R.hg] at h;cases h
 ·rw[R.hn] at h;cases h
 ·rw[R.ha] at h;cases h
theorem RnAt.ts{H':Hp}(R:RnAt t H x a C s)(k:Kp x a H H'):TSm H H':=λb ys e=>k b _ (R.notup e) e
theorem Kp.of_same{H':Hp}(s:Same H H'):Kp x a H H':=λb o _ e=>s b o e
theorem Kp.trans{H' H'':Hp}(h:Kp x a H H')(k:Kp x a H' H''):Kp x a H H'':=λb o n e=>k b o n (h b o n e)
theorem wP(h:Ow x a b):Kp x a H (upd H b o):=λc o' n e=>by rw[zi (λz=>n (by rw[z];exact h))];exact e
theorem RnAt.same{H':Hp}(R:RnAt t H x a C s)(k:Same H H'):RnAt t H' x a C s :=
 ⟨k _ _ R.ix,let ⟨xs,h1,h2⟩:=R.hc;⟨xs,k _ _ h1,wu k h2⟩,k _ _ R.hs,k _ _ R.hg,k _ _ R.hn,k _ _ R.ha,R.ng,R.nc⟩
theorem RnAt.putI(R:RnAt t H x a C s)(s':RSt)(e1:s'.sl=s.sl)(e2:s'.gi=s.gi)(e3:s'.no=s.no)(e4:s'.sa=s.sa):RnAt t (upd H x (.ins t.q01 a.dx (zhG a s'))) x a C s':=by
 refine⟨zh,?_,?_,?_,?_,?_,R.ng,R.nc⟩
 ·obtain⟨xs,h1,h2⟩:=R.hc
  exact⟨xs,by rw[zi (zG h1 R.ix (by lia))];exact h1,xO (R.ts (wP (.inl rfl))) h2⟩
 ·rw[zi (zG R.hs R.ix (by lia)),e1];exact R.hs
 ·rw[zi (zG R.hg R.ix (by lia)),e2];exact R.hg
 ·rw[zi (zG R.hn R.ix (by lia)),e3];exact R.hn
 ·rw[zi (zG R.ha R.ix (by lia)),e4];exact R.ha
theorem RnAt.putS(R:RnAt t H x a C s)(kvs:List (Key×V)):RnAt t (upd H a.sl (.dK kvs)) x a C { s with sl:=kvs }:=by
 refine⟨by rw[zi (zG R.ix R.hs (by lia))];exact R.ix,?_,zh,?_,?_,?_,R.ng,R.nc⟩
 ·obtain⟨xs,h1,h2⟩:=R.hc
  exact⟨xs,by rw[zi (zG h1 R.hs (by lia))];exact h1,xO (R.ts (wP (.inr (.inl rfl)))) h2⟩
 ·rw[zi (zG R.hg R.hs (by lia))];exact R.hg
 ·rw[zi (zG R.hn R.hs (by lia))];exact R.hn
 ·rw[zi (zG R.ha R.hs (by lia))];exact R.ha
theorem RnAt.putG(R:RnAt t H x a C s)(rows:List Row):RnAt t (upd H a.gi (.dT (dOf rows))) x a C { s with gi:=rows }:=by
 refine⟨by rw[zi (zG R.ix R.hg (by lia))];exact R.ix,?_,?_,zh,?_,?_,R.ng,R.nc⟩
 ·obtain⟨xs,h1,h2⟩:=R.hc
  exact⟨xs,by rw[zi (zG h1 R.hg (by lia))];exact h1,xO (R.ts (wP (.inr (.inr (.inl rfl))))) h2⟩
 ·rw[zi (zG R.hs R.hg (by lia))];exact R.hs
 ·rw[zi (eL R.ng)];exact R.hn
 ·rw[zi (zG R.ha R.hg (by lia))];exact R.ha
theorem RnAt.putO(R:RnAt t H x a C s)(rows:List Row):RnAt t (upd H a.no (.dT (dOf rows))) x a C { s with no:=rows }:=by
 refine⟨by rw[zi (zG R.ix R.hn (by lia))];exact R.ix,?_,?_,?_,zh,?_,R.ng,R.nc⟩
 ·obtain⟨xs,h1,h2⟩:=R.hc
  exact⟨xs,by rw[zi (zG h1 R.hn (by lia))];exact h1,xO (R.ts (wP (.inr (.inr (.inr (.inl rfl)))))) h2⟩
 ·rw[zi (zG R.hs R.hn (by lia))];exact R.hs
 ·rw[zi R.ng];exact R.hg
 ·rw[zi (zG R.ha R.hn (by lia))];exact R.ha
theorem RnAt.putA(R:RnAt t H x a C s)(is:List Int):RnAt t (upd H a.sa (.lst (is.map V.int))) x a C { s with sa:=is }:=by
 refine⟨by rw[zi (zG R.ix R.ha (by lia))];exact R.ix,?_,?_,?_,?_,zh,R.ng,R.nc⟩
 ·obtain⟨xs,h1,h2⟩:=R.hc
  exact⟨xs,by rw[zi R.nc];exact h1,xO (R.ts (wP (.inr (.inr (.inr (.inr rfl)))))) h2⟩
 ·rw[zi (zG R.hs R.ha (by lia))];exact R.hs
 ·rw[zi (zG R.hg R.ha (by lia))];exact R.hg
 ·rw[zi (zG R.hn R.ha (by lia))];exact R.hn
end
theorem Y0(h:¬ yD C s=af):s.n<C.length:=by
 unfold yD at h
 simp only[Bool.or_eq_true,decide_eq_true_eq,not_or] at h
 lia
theorem zbj(rows:List Row)(p:Pl)(w:Int):zI (rows++[(p,w)]) p=aa w:=by
 have h:=xY (rows++[(p,w)]) p
 rw[qM,WO,am rfl] at h
 cases hl:zI (rows++[(p,w)]) p with
 |none=>rw[hl] at h;cases h
 |some i=>rw[hl] at h;cases h;rfl
theorem zg2(h:CsAt H v c):∃p zs hd,v=.ref p/\H p=aa (.tup zs)/\atI zs 0=aa (.str hd)/\(hd=bc "take"->∃sh e x te,c=.row (.take sh e x)/\atI zs 1=aa (.str sh)/\atI zs 2=aa (.ref te)/\H te=aa (.tup e))/\(hd≠bc "take"->∀s,kh c s=ai):=by
 cases c with
 |row r =>
  have h1:=h.1
  cases r with
  |take sh e sl=>unfold RwAt at h1;obtain⟨r,te,rfl,_,_,e2,e3⟩:=h1;exact⟨r,_,_,rfl,e2,rfl,λ_=>⟨sh,e,sl,te,rfl,rfl,rfl,e3⟩,λz=>absurd rfl z⟩
  |give sh e f=>unfold RwAt at h1;obtain⟨r,te,tf,rfl,_,_,_,e2,e3⟩:=h1;exact⟨r,_,_,rfl,e2,rfl,λz=>absurd z (by lia),λ_ _=>rfl⟩
  |lt sl e=>unfold RwAt at h1;obtain⟨r,te,rfl,_,_,e2,e3⟩:=h1;exact⟨r,_,_,rfl,e2,rfl,λz=>absurd z (by lia),λ_ _=>rfl⟩
  |say e=>unfold RwAt at h1;obtain⟨r,te,rfl,_,_,e2,e3⟩:=h1;exact⟨r,_,_,rfl,e2,rfl,λz=>absurd z (by lia),λ_ _=>rfl⟩
  |off e=>unfold RwAt at h1;obtain⟨r,te,rfl,_,_,e2,e3⟩:=h1;exact⟨r,_,_,rfl,e2,rfl,λz=>absurd z (by lia),λ_ _=>rfl⟩
  |iff e b d=>exact(h.2:False).elim
 |skip e to=>obtain⟨p,te,e1,e2,_⟩:=h;exact⟨p,_,_,e1,e2,rfl,λz=>absurd z (by lia),λ_ _=>rfl⟩
 |go en=>obtain⟨p,e1,e2⟩:=h;exact⟨p,_,_,e1,e2,rfl,λz=>absurd z (by lia),λ_ _=>rfl⟩
theorem KG{κ:Type} [DecidableEq κ]{kvs:List (κ×V)}{k:κ}(h:k ∉ kvs.map (·.1)):z4 kvs k=ai:=by
 cases e:z4 kvs k with
 |none=>rfl
 |some v=>exact absurd (zbE e) h
theorem zbW:∀(gs:List Row) (kvs:List (List Key×V)),(∀r∈gs,zC r.1 ∉ kvs.map (·.1))->(gs.map (·.1)).Nodup->gs.foldl YL kvs=kvs++gs.map λr=>(zC r.1,V.int r.2)
 |[],kvs,_,_=>by simp
 |r::gs,kvs,h,nd=>by
  rw[bo,bZ] at nd
  rw[eO,YL,vQ _ (KG (h r bq)),zbW gs _ (λq hq=>?_) nd.2,bo,cG,List.singleton_append]
  rw[bM,bx,not_or]
  refine⟨h q (bn _ hq),λz=>nd.1 ?_⟩
  have z2:zC q.1=zC r.1:=by simpa using z
  rw[<-yV z2]
  exact bu hq
theorem XI{gs:List Row}(nd:(gs.map (·.1)).Nodup):dOf gs=gs.map λr=>(zC r.1,V.int r.2):=by
 unfold dOf
 rw[zbW gs [] (λ_ _ h=>nomatch h) nd,cX]
theorem Y1{H H':Hp}(s:Same H H'):∀ {ys:List V} {rows:List Row},Paired (PrAt H) ys rows->Paired (PrAt H') ys rows
 |_,_,.nil=>.nil
 |_,_,.cons ⟨r,p,e1,e2,e3⟩ t=>.cons ⟨r,p,e1,s _ _ e2,s _ _ e3⟩ (Y1 s t)
section
variable {x:ac}{a:RAd}{C:List Cs}{s:RSt}{E:XK}
theorem KH{vs:List V}{_E:XK}(F:RnF K t)(h:xp t vs H Q _E) :
  Zg K t (qqN Q) (L2.start ["self"] vs) H:=by
 obtain⟨x,a,C,s,rfl,R,q⟩:=h
 simp only[Zg,zO,L2.start,zJ,tOp,zb,tC,zc,zk,zgw,tCB,zcj,rI0,Jo,wF,cQ,bY,cg,bV,bj,bC,ao,V.int.injEq,V.ref.injEq,V.bl.injEq,bT,and_true,true_and,ap,cB,cp,dF,decide_eq_false_iff_not]
 obtain⟨xs,hx,pr⟩:=R.hc
 have lx:=bL pr
 refine⟨_,_,_,R.ix,F.cl,F.n3,_,rfl,?_⟩
 cases hw:s.why with
 |some w =>
  rw[am (by lia)]
  have e:yD C s=af:=by unfold yD;rw[hw];rfl
  rw[e] at q
  exact q H λ_ _ z=>z
 |none =>
  rw[aj (λz=>z rfl)]
  refine⟨_,_,_,R.ix,F.cl,F.n2,_,rfl,_,_,_,R.ix,F.cl,F.n1,_,rfl,xs.length,.inl ⟨_,SqL.of hx,rfl⟩,_,rfl,?_⟩
  have e:yD C s=decide ((xs.length:Int)<=(s.n:Int)):=by unfold yD;rw[hw,lx];simp
  rw[<-e]
  exact q H λ_ _ z=>z
theorem XJ{tm:ac}{e:List V}(F:RnF K t)(R:RnAt t H x a C s)(h2:yS s.sl)(h3:H tm=aa (.tup e))(h4:TermOk e)
  (q:∀H',Same H H'->fin t (rk s.sl e) Q E H'):vn K t E (qqN Q) (L2.start ["self","term"] [.ref x,.ref tm]) H:=by
 simp only[vn,q8,zO,L2.start,zJ,zb,zc,zk,zT,cQ,bY,cg,bV,bj,bz,bC,ao,V.ref.injEq,bT,and_true,and_assoc,ap,cB,cp]
 exact⟨_,_,_,R.ix,F.cl,F.n4,_,rfl,s.sl,_,rfl,e,h3,R.hs,_,h4.good s.sl,h4.2.1,h4.2.2,h2,q⟩
theorem XL{vs:List V}(F:RnF K t)(h:yN t vs H Q E) :
  vo K t E (qqN Q) (L2.start ["self","due"] vs) H:=by
 obtain⟨x,p,xs,sh,te,e,a,C,s,rfl,R,h2,h3,h4,h5,h6,h7,q1,q2⟩:=h
 simp only[vo,z8,zW,L2.start,yp,zJ,tOp,zb,tC,yP,zc,zk,yp,cQ,bY,cg,bV,bj,bz,bC,ao,V.int.injEq,V.ref.injEq,bT,and_true,and_assoc,ap,cB,cp]
 refine⟨_,SqT.of h3,_,h4,_,_,R.ix,rfl,_,SqT.of h3,_,h5,_,rfl,e,a,C,s,R,h2,h6,h7,λH1 s1=>?_⟩
 cases hk:rk s.sl e with
 |error er=>exact fin_err.mpr (q2 er H1 hk s1)
 |ok n =>
  refine fin_ok.mpr ⟨by lia,λp hp=>?_⟩
  exact q1 n p _ hk (s1.trans (isV (o:=HO.tup [V.str sh,V.int n]) p hp)) zh
theorem VU{vs:List V}{_E:XK}(F:RnF K t)(h:k8 t vs H Q _E) :
  qh K t (qqN Q) (L2.start ["self","place","worth"] vs) H:=by
 obtain⟨x,q,p,w,a,C,s,rfl,R,h2,h3,k⟩:=h
 simp only[qh,jZ,Kl,jY,zO,L2.start,zm,zJ,zK,tOp,zb,zQ,zB,cQ,bY,cg,bV,bj,bz,bC,ao,V.ref.injEq,V.bl.injEq,ap,cB,cp,dF,if_true,cx,ite_false]
 have g1:DGet H a.gi (.ref q) ((zI s.gi p).map V.int):=.inr ⟨dOf s.gi,zC p,q,.inl R.hg,rfl,h2,(xY _ _).symm⟩
 have g2:DGet H a.no (.ref q) ((zI s.no p).map V.int):=.inr ⟨dOf s.no,zC p,q,.inl R.hn,rfl,h2,(xY _ _).symm⟩
 refine⟨_,_,_,R.ix,F.cl,F.n5,_,rfl,_,rfl,_,g1,?_⟩
 cases hg:zI s.gi p with
 |some i =>
  rw[am (by simp)]
  have e:wC p w s=s:=by unfold wC;rw[am (.inl (by rw[hg];rfl))]
  have e2:jK p w s=i:=by unfold jK;rw[hg];rfl
  rw[e,e2] at k
  rw[hg] at g1
  exact⟨_,_,_,R.ix,F.cl,F.n5,_,rfl,_,rfl,_,g1,k H (.of_same λ_ _ z=>z) R⟩
 |none =>
  rw[aj (by simp)]
  refine⟨_,_,_,R.ix,F.cl,F.n6,_,rfl,_,rfl,_,g2,?_⟩
  cases ho:zI s.no p with
  |some i =>
   rw[aj (by simp)]
   have e:wC p w s=s:=by unfold wC;rw[am (.inr (by rw[ho];rfl))]
   have e2:jK p w s=i:=by unfold jK;rw[hg,ho];rfl
   rw[e,e2] at k
   rw[ho] at g2
   exact⟨_,_,_,R.ix,F.cl,F.n6,_,rfl,_,rfl,_,g2,k H (.of_same λ_ _ z=>z) R⟩
  |none =>
   rw[am (by simp)]
   have e:wC p w s={ s with no:=s.no++[(p,w)] }:=by unfold wC;rw[aj (by rw[hg,ho];simp)]
   have e2:jK p w s=w:=by unfold jK;rw[hg,ho];rfl
   rw[e,e2] at k
   have ld:=jm s.no
   have ep:yA (dOf s.no) (zC p) (V.int w)=dOf (s.no++[(p,w)]):=(qM s.no (p,w)).symm
   have D:=DPut.t (k:=zC p) (v:=V.int w) R.hn h2 (bU (by lia:_<=900) (by lia))
   rw[ep] at D
   have R2:=R.putO (s.no++[(p,w)])
   have K2:Kp x a H (upd H a.no (.dT (dOf (s.no++[(p,w)])))):=wP (.inr (.inr (.inr (.inl rfl))))
   refine⟨_,_,_,R.ix,F.cl,F.n6,_,rfl,_,rfl,_,D,_,_,_,R2.ix,F.cl,F.n6,_,rfl,_,rfl,V.int w,?_,k _ K2 R2⟩
   refine .inr ⟨_,zC p,q,.inl R2.hn,rfl,K2 _ _ (R.notup h2) h2,?_⟩
   rw[xY,zbj];rfl
theorem VV{vs:List V}{_E:XK}(F:RnF K t)(h:k9 t vs H Q _E) :
  qj K t (qqN Q) (L2.start ["self","notes"] vs) H:=by
 obtain⟨x,a,C,s,rfl,R,h2,h3,h4,q1,q2⟩:=h
 simp only[qj,xp,zW,L2.start,zm,zJ,zK,zb,tC,zk,zQ,Xg,tB,cQ,bY,cg,cE,cX,bV,bj,bC,ao,V.ref.injEq,V.bl.injEq,bT,and_true,ap,cB,cp,dF]
 refine⟨_,_,R.ix,rfl,a,C,s,R,λH1 s1=>?_⟩
 have R1:=R.same s1
 cases ho:yD C s with
 |false=>rw[am rfl];exact q1 H1 ho s1
 |true =>
  rw[aj (by lia)]
  simp only[Zm,Zl,zhA,zO,Kq,zdZ,zd4,zm,zL,zp,zJ,zK,tOp,zb,tC,xV,yP,zc,zk,zQ,zB,tCB,Jo,cg,bj,bz,bC,ao,V.ref.injEq,V.bl.injEq,bT,and_true,true_and,ap,cC,cO,cp,dF,decide_eq_false_iff_not]
  refine⟨_,_,_,R1.ix,F.cl,F.n6,_,rfl,_,rfl,_,R1.hn,λr hr=>⟨a.no,zh,dOf s.no,(by rw[zi (zx R1.hn hr)];exact R1.hn),(by have:=jm s.no;lia),λl ys H2 s2 fl hl pr=>?_⟩⟩
  have sv:=isV (o:=ZN r a.no) r hr
  have S2:=sv.trans s2
  have R2:=R1.same S2
  have nl:H l=ai:=zH (s1.trans sv) fl
  rw[XI h3] at pr
  have pn:=zd5 pr
  refine⟨_,_,_,R2.ix,F.cl,F.n3,_,rfl,?_⟩
  cases hw:s.why with
  |some w =>
   rw[am (by lia)]
   refine⟨_,_,_,R2.ix,F.cl,F.n3,_,rfl,by lia,λp hp=>⟨by lia,λg hg=>⟨by lia,λr2 hr2=>?_⟩⟩⟩
   rw[hw]
   rw[hw] at hg hr2
   have t1:=isV (o:=HO.tup [V.str (bc "off"),zhF (aa w)]) p hp
   have t2:=isV (o:=HO.lst []) g hg
   have t3:=isV (o:=HO.tup [V.ref p,V.ref l,V.ref g]) r2 hr2
   have T3:=t1.trans (t2.trans t3)
   refine q2 r2 (.ref p) l g [] _ ho (s1.trans (S2.trans T3)) nl (zH (s1.trans (S2.trans t1)) hg) (λz=>by rw[<-z,t1 _ _ hl] at hg;cases hg) zh ?_ ⟨ys,T3 _ _ hl,Y1 T3 pn⟩ ⟨[],t3 _ _ zh,.nil⟩ ?_
   ·unfold zgY;rw[hw];exact⟨p,rfl,(t2.trans t3) _ _ zh⟩
   ·unfold Vf;rw[hw]
  |none =>
   rw[aj (λz=>z rfl)]
   refine⟨_,_,_,R2.ix,F.cl,F.n7,_,rfl,_,rfl,_,.inl ⟨SqL.of R2.ha,λy hy=>⟨by lia,λp hp=>?_⟩⟩⟩
   have t1:=isV (o:=HO.tup (cQ V.int s.sa)) y hy
   have t2:=isV (o:=HO.tup [V.str (bc "done"),V.ref y]) p hp
   have R3:=R2.same (t1.trans t2)
   have ly:=t2 _ _ (zh (H:=H2) (a:=y) (o:=HO.tup (cQ V.int s.sa)))
   have lp:upd (upd H2 y (HO.tup (cQ V.int s.sa))) p (HO.tup [V.str (bc "done"),V.ref y]) p=aa (HO.tup [V.str (bc "done"),V.ref y]):=zh
   have T2:=t1.trans t2
   generalize upd (upd H2 y (HO.tup (cQ V.int s.sa))) p (HO.tup [V.str (bc "done"),V.ref y])=H3 at *
   refine⟨_,_,_,R3.ix,F.cl,F.n5,_,rfl,_,rfl,_,R3.hg,λr3 hr3=>⟨a.gi,zh,s.gi,(by rw[zi (zx R3.hg hr3)];exact R3.hg),(by have:=jm s.gi;lia),λg zs srt H4 s4 fg hg ps ri mi=>⟨by lia,λr2 hr2=>?_⟩⟩⟩
   have t3:=(isV (o:=ZN r3 a.gi) r3 hr3).trans s4
   have t5:=isV (o:=HO.tup [V.ref p,V.ref l,V.ref g]) r2 hr2
   have T5:=t3.trans t5
   have fg3:H3 g=ai:=zH (isV (o:=ZN r3 a.gi) r3 hr3) fg
   refine q2 r2 (.ref p) l g srt _ ho (s1.trans (S2.trans (T2.trans T5))) nl (zH (s1.trans (S2.trans T2)) fg3) (λz=>by rw[<-z,T2 _ _ hl] at fg3;cases fg3) zh ?_ ⟨ys,(T2.trans T5) _ _ hl,Y1 (T2.trans T5) pn⟩ ⟨zs,t5 _ _ hg,Y1 t5 ps⟩ ?_
   ·unfold zgY;rw[hw];exact⟨p,y,rfl,T5 _ _ lp,T5 _ _ ly⟩
   ·unfold Vf;rw[hw];exact⟨ri,mi⟩
end
theorem zeu(p:Pl)(w:Int)(s:RSt):(wC p w s).sl=s.sl:=by unfold wC;split <;> rfl
theorem zfK(p:Pl)(w:Int)(s:RSt):(wC p w s).n=s.n:=by unfold wC;split <;> rfl
theorem zhH{w:Int}(h:Yl r)(e:doR r w s=.ok s'):s'.n=s.n:=by
 cases r with
 |take sh e' x =>
  cases hk:rk s.sl e' with
  |error er=>simp only[doR,hk] at e;cases e
  |ok n=>simp only[doR,hk] at e;cases e;exact zfK _ _ _
 |give sh e' f =>
  cases hk:rk s.sl e' with
  |error er=>simp only[doR,hk] at e;cases e
  |ok n =>
   cases hk2:rk s.sl f with
   |error er=>simp only[doR,hk,hk2] at e;cases e
   |ok i=>simp only[doR,hk,hk2] at e;cases e;rfl
 |lt x e' =>
  cases hk:rk s.sl e' with
  |error er=>simp only[doR,hk] at e;cases e
  |ok n=>simp only[doR,hk] at e;cases e;rfl
 |say e' =>
  cases hk:rk s.sl e' with
  |error er=>simp only[doR,hk] at e;cases e
  |ok n=>simp only[doR,hk] at e;cases e;rfl
 |off e'=>exact h.elim
 |iff e' b d=>exact h.elim
theorem zal{r:Rw}{w:Int}{s:RSt}(h:Yl r):vG (.row r) w s=match doR r w s with
  |.error er=>.error er
  |.ok s'=>.ok (s.n+1,s'):=by
 cases r with
 |off e'=>exact h.elim
 |iff e' b d=>exact h.elim
 |take sh e' x=>rfl
 |give sh e' f=>rfl
 |lt x e'=>rfl
 |say e'=>rfl
theorem zfL(r:Rw)(h:Vd r):(∃e,r=.off e)\/Yl r:=by
 cases r with
 |off e'=>exact .inl ⟨e',rfl⟩
 |iff e' b d=>exact h.elim
 |take sh e' x=>exact .inr trivial
 |give sh e' f=>exact .inr trivial
 |lt x e'=>exact .inr trivial
 |say e'=>exact .inr trivial
theorem zfM{F:ac->Prop}(h:RwAt F H v r)(d:Yl r):∃p xs hd,v=.ref p/\H p=aa (.tup xs)/\atI xs 0=aa (.str hd)/\hd≠bc "go"/\hd≠bc "skip"/\hd≠bc "off":=by
 cases r with
 |take sh e sl=>unfold RwAt at h;obtain⟨r,te,rfl,_,_,e2,e3⟩:=h;exact⟨r,_,_,rfl,e2,rfl,by lia,by lia,by lia⟩
 |give sh e f=>unfold RwAt at h;obtain⟨r,te,tf,rfl,_,_,_,e2,e3⟩:=h;exact⟨r,_,_,rfl,e2,rfl,by lia,by lia,by lia⟩
 |lt sl e=>unfold RwAt at h;obtain⟨r,te,rfl,_,_,e2,e3⟩:=h;exact⟨r,_,_,rfl,e2,rfl,by lia,by lia,by lia⟩
 |say e=>unfold RwAt at h;obtain⟨r,te,rfl,_,_,e2,e3⟩:=h;exact⟨r,_,_,rfl,e2,rfl,by lia,by lia,by lia⟩
 |off e=>exact d.elim
 |iff e a b=>exact d.elim
theorem ZD(h:yJ x=af):cM x=af:=(zdH h).flat
def zam(H H':Hp):Prop:=∀b ys,H b=aa (.tup ys)->H' b=aa (.tup ys)
theorem Same.ts{H H':Hp}(s:Same H H'):zam H H':=λb ys e=>s _ _ e
theorem zev{J:It}{H1:Hp}{Q:Hp->Prop}{B:V->St->Hp->(V->St->Hp->Prop)->(St->Hp->Prop)->Prop}(n:Nat)(hn:n<=1000000)(C:St->Prop)(R:Nat->List V->Hp->Prop)(hm:∀i ys H H',zam H H'->R i ys H->R i ys H')(hC:C τ₀)(h0:R 0 [] H1)
  (go:∀i H,Same H1 H->i<n->J.go i H) (stop:∀H,Same H1 H->J.stop n H) (hD:H1 D=ai)
  (hs:∀i x τ ys H H',C τ->Same H1 H->i<n->R i ys H->J.yld i H x H'->B x τ H' (λv τ' H4=>C τ'/\R (i+1) (ys++[v]) H4/\Same H H4) (λτ' H4=>C τ'/\R (i+1) ys H4/\Same H H4))
  (hd:∀ys H,ys.length<=n->R n ys H->Same H1 H->H D=aa (.lst ys)->Q H) :
  ∃W:Nat->Nat->List V->St->Hp->Prop,(∃m,W 0 m [] τ₀ (upd H1 D (.lst [])))/\∀i m ys τ H,W i m ys τ H->H D=aa (.lst ys) /\
  ((J.stop i H/\Q H)\/(J.go i H/\ys.length<Bb/\∃N:V->St->Hp->Prop,
   (∀v τ' H',N v τ' H'->H' D=aa (.lst ys)/\∃m',m'<m/\W (i+1) m' (ys++[v]) τ' (upd H' D (.lst (ys++[v]))))/\∃Nf:St->Hp->Prop,(∀τ' H',Nf τ' H'->∃m',m'<m/\W (i+1) m' ys τ' H') /\
   ∀x H',J.yld i H x H'->B x τ H' N Nf)):=by
 have ext:∀ {H:Hp} {o:HO},Same H1 H->Same H1 (upd H D o):=λ{H o} h b u e=>by
  rw[zi (zx e hD)];exact h b u e
 refine⟨λi m ys τ H=>m=n-i/\i<=n/\ys.length<=i/\R i ys H/\Same H1 H/\H D=aa (.lst ys)/\C τ,⟨n,by simp,bP _,bi _,hm _ _ _ _ (Same.ts (ext (Same.refl _))) h0,ext (Same.refl _),zh,hC⟩,?_⟩
 rintro i m ys τ H ⟨rfl,hi,hl,hR,hS,hy,hc⟩
 refine⟨hy,?_⟩
 by_cases hlt:i<n
 ·refine .inr ⟨go i H hS hlt,bU (by lia:ys.length<=1000000) (by lia),_,?_,_,?_,λx H' y=>hs i x τ ys H H' hc hS hlt hR y⟩
  ·rintro v τ' H4 ⟨c4,r4,s4⟩
   have y4:=s4 _ _ hy
   exact⟨y4,n-(i+1),by lia,rfl,hlt,by simp;lia,hm _ _ _ _ (λb zs e=>by rw[zi (zG e y4 (by simp))];exact e) r4,ext (hS.trans s4),zh,c4⟩
  ·rintro τ' H4 ⟨c4,r4,s4⟩
   exact⟨n-(i+1),by lia,rfl,hlt,by lia,r4,hS.trans s4,s4 _ _ hy,c4⟩
 ·obtain rfl:i=n:=by lia
  exact .inl ⟨stop H hS,hd ys H hl hR hS hy⟩
theorem Y2{P:Nat->Bool}(h:YT P x)(h':YT P y):YT P (x++y):=by
 unfold YT at *
 rw[zfn,pD,h,h'];rfl
theorem zew{P:Nat->Bool}(h:P c=af):YT P ⟨#[c]⟩:=by
 show [c].all P=af
 rw[fB,h];rfl
theorem zfN{P:Nat->Bool}(h:YT P x)(k:Nat):YT P (gB x ai (aa (k:Int))):=by
 unfold YT at *
 rw[QA]
 rw[iI] at *
 exact λc hc=>h c (dt hc)
theorem zcO{P:Nat->Bool}(h:YT P x)(k:Nat):YT P (gB x (aa (k:Int)) ai):=by
 unfold YT at *
 rw[WW]
 rw[iI] at *
 exact λc hc=>h c (cZ hc)
theorem zg3(x:Str)(k:Nat)(h:k<=x.length):(gB x ai (aa (k:Int))).length=k:=by
 rw[YJ] at *
 rw[QA,cR];lia
theorem zex(x:Str)(k:Nat):(gB x (aa (k:Int)) ai).length=x.length-k:=by
 rw[YJ,YJ,WW,cK]
theorem zbX{P:Str->Prop}:∀ {ys:List V},(∀v∈ys,∃x,v=.str x/\P x)->∃ls:List Str,ys=ls.map V.str/\∀x∈ls,P x
 |[],_=>⟨[],rfl,λ_ z=>nomatch z⟩
 |v::r,h=>by
  obtain⟨x,rfl,px⟩:=h v bq
  obtain⟨ls,rfl,pl⟩:=zbX (ys:=r) λu hu=>h u (bn _ hu)
  exact⟨x::ls,rfl,λy hy=>by
   rcases bD.mp hy with rfl|hy
   ·exact px
   ·exact pl y hy⟩
structure RnP(m:Nat)(s:RSt):Prop where
 ok:RnOk m s
 ng:∀r∈s.gi,cM r.1.1=af
 nn:∀r∈s.no,cM r.1.1=af
theorem RnOk.up(h:RnOk m s):RnOk (m+1) s:=⟨h.so,h.gw,h.nw,cf h.l1,cf h.l2,cf h.l3,cf h.l4,h.nd⟩
theorem RnP.up(h:RnP m s):RnP (m+1) s:=⟨h.ok.up,h.ng,h.nn⟩
theorem zey{p:Pl}{l:List Row}(nd:(l.map (·.1)).Nodup)(h:zI l p=ai):p ∉ l.map (·.1):=λz=>by
 obtain⟨r,hr,e⟩:=bE.mp z
 have:=(WC (w:=r.2) nd).mpr (show (p,r.2)∈l by rw[<-e];exact hr)
 rw[h] at this
 cases this
theorem zez{w:Int}(h:RnOk m s)(hw:inW w=af):inW (jK p w s)=af:=by
 unfold jK
 cases e:zI s.gi p with
 |some i=>exact vE (P:=λr=>inW r.2=af) h.gw e
 |none =>
  cases e2:zI s.no p with
  |some i=>exact vE (P:=λr=>inW r.2=af) h.nw e2
  |none=>exact hw
theorem zfO{m:Nat}{s:RSt}{p:Pl}{w i:Int}{x:Str}(h:RnP m s)(hp:cM p.1=af)(hw:inW w=af)(hi:inW i=af):RnP (m+1) { wC p w s with sl:=yA s.sl (.inr x) (.int i) }:=by
 have so:=Jx h.ok.so (.inr x) hi
 have l1:(yA s.sl (.inr x) (V.int i)).length<=m+1:=bK (xS _ _ _) (eA h.ok.l1)
 unfold wC
 by_cases c:(zI s.gi p).isSome=af\/(zI s.no p).isSome=af
 ·rw[am c]
  exact⟨⟨so,h.ok.gw,h.ok.nw,l1,cf h.ok.l2,cf h.ok.l3,cf h.ok.l4,h.ok.nd⟩,h.ng,h.nn⟩
 ·rw[aj c]
  have cn:zI s.no p=ai:=by
   cases e:zI s.no p with
   |none=>rfl
   |some i=>exact absurd (.inr (by rw[e];rfl)) c
  refine⟨⟨so,h.ok.gw,λr hr=>?_,l1,cf h.ok.l2,?_,cf h.ok.l4,?_⟩,h.ng,λr hr=>?_⟩
  ·rcases bx.mp hr with hr|hr
   ·exact h.ok.nw r hr
   ·rw[br.mp hr];exact hw
  ·show (s.no++[(p,w)]).length<=m+1
   rw[bw];exact eA h.ok.l3
  ·show ((s.no++[(p,w)]).map (·.1)).Nodup
   rw[bM]
   refine dH.mpr ⟨h.ok.nd,by simp,λa ha b hb=>?_⟩
   have hb:b=p:=by simpa using hb
   rw[hb]
   exact λz=>zey h.ok.nd cn (by rw[<-z];exact ha)
  ·rcases bx.mp hr with hr|hr
   ·exact h.nn r hr
   ·rw[br.mp hr];exact hp
theorem zg4{w:Int}(h:RnP m s)(d:Yl r)(k:qO r)(pl:W7 r)(hw:inW w=af)(e:doR r w s=.ok s'):RnP (m+1) s'/\s'.why=s.why:=by
 cases r with
 |off e'=>exact d.elim
 |iff e' b c=>exact d.elim
 |take sh e' x =>
  cases hk:rk s.sl e' with
  |error er=>simp only[doR,hk] at e;cases e
  |ok n =>
   simp only[doR,hk] at e
   cases e
   exact⟨zfO h pl.1 hw (zez h.ok hw),by show (wC _ _ _).why=_;unfold wC;split <;> rfl⟩
 |give sh e' f =>
  cases hk:rk s.sl e' with
  |error er=>simp only[doR,hk] at e;cases e
  |ok n =>
   cases hk2:rk s.sl f with
   |error er=>simp only[doR,hk,hk2] at e;cases e
   |ok i =>
    simp only[doR,hk,hk2] at e
    cases e
    have hi:=zdV h.ok.so k.2.2.1 hk2
    refine⟨⟨⟨h.ok.so,λr hr=>?_,h.ok.nw,cf h.ok.l1,?_,cf h.ok.l3,cf h.ok.l4,h.ok.nd⟩,λr hr=>?_,h.nn⟩,rfl⟩
    ·rcases bx.mp hr with hr|hr
     ·exact h.ok.gw r hr
     ·rw[br.mp hr];exact hi
    ·show (s.gi++[((sh,n),i)]).length<=m+1
     rw[bw];exact eA h.ok.l2
    ·rcases bx.mp hr with hr|hr
     ·exact h.ng r hr
     ·rw[br.mp hr];exact pl.1
 |lt x e' =>
  cases hk:rk s.sl e' with
  |error er=>simp only[doR,hk] at e;cases e
  |ok i =>
   simp only[doR,hk] at e
   cases e
   have hi:=zdV h.ok.so k.2.1 hk
   exact⟨⟨⟨Jx h.ok.so _ hi,h.ok.gw,h.ok.nw,bK (xS _ _ _) (eA h.ok.l1),cf h.ok.l2,cf h.ok.l3,cf h.ok.l4,h.ok.nd⟩,h.ng,h.nn⟩,rfl⟩
 |say e' =>
  cases hk:rk s.sl e' with
  |error er=>simp only[doR,hk] at e;cases e
  |ok i =>
   simp only[doR,hk] at e
   cases e
   exact⟨⟨⟨h.ok.so,h.ok.gw,h.ok.nw,cf h.ok.l1,cf h.ok.l2,cf h.ok.l3,by show (s.sa++[i]).length<=m+1;rw[bw];exact eA h.ok.l4,h.ok.nd⟩,h.ng,h.nn⟩,rfl⟩
theorem zg5(er:Er):cM (QT er)=af:=by cases er <;> lia
theorem zfP{w:Int}(O:zbg C)(h:RnI C m s)(ho:yD C s=ak)(hw:inW w=af):RnI C (m+1) (xn C w s):=by
 have no:¬ yD C s=af:=by rw[ho];decide
 have lt:=Y0 no
 have hc:C[s.n]?=aa C[s.n]:=bb lt
 have es:xn C w s=y9 C[s.n] w s:=by unfold xn;rw[aj no,hc]
 have wn:s.why=ai:=by
  cases e:s.why with
  |none=>rfl
  |some v=>exact absurd (show yD C s=af by unfold yD;rw[e];rfl) no
 have mn:=h.at_ wn
 have ok:=O.ok _ (eD lt)
 have pl:=O.pl _ (eD lt)
 have P:RnP m s:=⟨h.ok,h.ng,h.nn⟩
 have fin:∀ {s':RSt} {k:Nat},RnP (m+1) s'->(s'.why=ai->m+1<=k)->(∀v,s'.why=aa v->cM v=af)->RnI C (m+1) { s' with n:=k }:=λ{s' k} p l y =>
  ⟨⟨p.ok.so,p.ok.gw,p.ok.nw,p.ok.l1,p.ok.l2,p.ok.l3,p.ok.l4,p.ok.nd⟩,p.ng,p.nn,l,y⟩
 have bad:∀er,RnI C (m+1) { s with why:=aa (QT er) }:=λer=>⟨⟨P.up.ok.so,P.up.ok.gw,P.up.ok.nw,P.up.ok.l1,P.up.ok.l2,P.up.ok.l3,P.up.ok.l4,P.up.ok.nd⟩,P.ng,P.nn,λz=>(by cases z),λv z=>by cases z;exact zg5 er⟩
 have does:∀r:Rw,Yl r->Kz (.row r)->zfG (.row r)->RnI C (m+1) (y9 (.row r) w s):=λr hf ok pl=>by
  unfold y9
  rw[zal hf]
  cases hk:doR r w s with
  |error er=>exact bad er
  |ok s' =>
   obtain⟨a,b⟩:=zg4 P hf ok pl hw hk
   exact fin a (λ_=>by lia) (λv z=>h.wy v (by rw[<-b];exact z))
 rw[es]
 have hg:∀to,C[s.n]=.go to->s.n<to:=λto e=>O.fg s.n to (by rw[hc,e])
 have hs:∀e to,C[s.n]=.skip e to->s.n<to:=λe to e2=>O.fw s.n to e (by rw[hc,e2])
 generalize C[s.n]=c at *
 cases c with
 |go to =>
  have:=hg to rfl
  exact fin P.up (λ_=>by lia) h.wy
 |skip e to =>
  have:=hs e to rfl
  cases hk:rk s.sl e with
  |error er=>simp only[y9,vG,hk];exact bad er
  |ok i =>
   simp only[y9,vG,hk]
   refine fin P.up (λ_=>?_) h.wy
   split <;> lia
 |row r =>
  cases r with
  |off e =>
   cases hk:rk s.sl e with
   |error er=>simp only[y9,vG,hk];exact bad er
   |ok i =>
    by_cases hi:i=0
    ·simp only[y9,vG,hk,am hi]
     exact fin P.up (λ_=>by lia) h.wy
    ·simp only[y9,vG,hk,aj hi]
     exact fin (s':={ s with why:=aa (bc "told") }) ⟨⟨P.up.ok.so,P.up.ok.gw,P.up.ok.nw,P.up.ok.l1,P.up.ok.l2,P.up.ok.l3,P.up.ok.l4,P.up.ok.nd⟩,P.ng,P.nn⟩ (λz=>by cases z) (λv z=>by cases z;lia)
  |iff e b d=>exact fin (k:=s.n+1) P.up (λ_=>by lia) h.wy
  |take sh e x=>exact does (.take sh e x) trivial ok pl
  |give sh e x=>exact does (.give sh e x) trivial ok pl
  |lt sh e=>exact does (.lt sh e) trivial ok pl
  |say e=>exact does (.say e) trivial ok pl
theorem WD{w:Int}(ho:yD C s=ak):(qw C s=ai->(xn C w s).no=s.no)/\∀p,qw C s=aa p->(xn C w s).no=s.no++[(p,w)]:=by
 have no:¬ yD C s=af:=by rw[ho];decide
 have lt:=Y0 no
 have hc:C[s.n]?=aa C[s.n]:=bb lt
 have es:xn C w s=y9 C[s.n] w s:=by unfold xn;rw[aj no,hc]
 have ea:qw C s=kh C[s.n] s:=by unfold qw;rw[aj no,hc];rfl
 rw[es,ea]
 generalize C[s.n]=c at *
 have triv:∀c',(∀p,kh c' s≠aa p)->(y9 c' w s).no=s.no->(kh c' s=ai->(y9 c' w s).no=s.no)/\∀p,kh c' s=aa p->(y9 c' w s).no=s.no++[(p,w)]:=λc' a b=>⟨λ_=>b,λp z=>absurd z (a p)⟩
 cases c with
 |go to=>exact triv _ (λp z=>nomatch z) rfl
 |skip e to =>
  refine triv _ (λp z=>nomatch z) ?_
  cases hk:rk s.sl e <;> simp only[y9,vG,hk]
 |row r =>
  cases r with
  |off e =>
   refine triv _ (λp z=>nomatch z) ?_
   cases hk:rk s.sl e with
   |error er=>simp only[y9,vG,hk]
   |ok i =>
    simp only[y9,vG,hk]
    split <;> rfl
  |iff e b d=>exact triv _ (λp z=>nomatch z) rfl
  |give sh e f =>
   refine triv _ (λp z=>nomatch z) ?_
   cases hk:rk s.sl e with
   |error er=>simp only[y9,vG,doR,hk]
   |ok i=>cases hk2:rk s.sl f <;> simp only[y9,vG,doR,hk,hk2]
  |lt x e =>
   refine triv _ (λp z=>nomatch z) ?_
   cases hk:rk s.sl e <;> simp only[y9,vG,doR,hk]
  |say e =>
   refine triv _ (λp z=>nomatch z) ?_
   cases hk:rk s.sl e <;> simp only[y9,vG,doR,hk]
  |take sh e x =>
   cases hk:rk s.sl e with
   |error er=>exact triv _ (λp z=>by simp only[kh,hk] at z;cases z) (by simp only[y9,vG,doR,hk])
   |ok n =>
    simp only[y9,vG,doR,kh,hk]
    by_cases c:(zI s.gi (sh,n)).isSome=af\/(zI s.no (sh,n)).isSome=af
    ·rw[am c]
     exact⟨λ_=>by unfold wC;rw[am c],λp z=>nomatch z⟩
    ·rw[aj c]
     exact⟨λz=>(nomatch z),λp z=>by cases z;unfold wC;rw[aj c]⟩
structure FwC(k:Nat)(C:List Cs):Prop where
 ok:∀c∈C,Kz c/\zfG c
 fw:∀(i to:Nat) (e:List V),C[i]?=aa (Cs.skip e to)->k+i<to
 fg:∀(i to:Nat),C[i]?=aa (Cs.go to)->k+i<to
theorem FwC.nil(k:Nat):FwC k []:=⟨λc h=>(nomatch h),λi to e h=>by simp at h,λi to h=>by simp at h⟩
theorem FwC.cons(h1:Kz c/\zfG c)(h2:∀e to,c=.skip e to->k<to)(h3:∀to,c=.go to->k<to)(h:FwC (k+1) C):FwC k (c::C):=by
 refine⟨λx hx=>?_,λi to e hi=>?_,λi to hi=>?_⟩
 ·rcases bD.mp hx with rfl|hx
  ·exact h1
  ·exact h.ok x hx
 ·cases i with
  |zero=>have:=h2 e to (by simpa using hi);lia
  |succ i=>have:=h.fw i to e (by simpa using hi);lia
 ·cases i with
  |zero=>have:=h3 to (by simpa using hi);lia
  |succ i=>have:=h.fg i to (by simpa using hi);lia
theorem FwC.app:∀ {A:List Cs} {k:Nat} {B:List Cs},FwC k A->FwC (k+A.length) B->FwC k (A++B)
 |[],k,B,_,h=>by simpa using h
 |c::A,k,B,h,h'=>by
  rw[cE]
  refine .cons (h.ok c bq) (λe to z=>by have:=h.fw 0 to e (by rw[z];rfl);lia) (λto z=>by have:=h.fg 0 to (by rw[z];rfl);lia) (FwC.app ⟨λx hx=>h.ok x (bn _ hx),λi to e hi=>?_,λi to hi=>?_⟩ (by rw[bR] at h';rw[show k+1+A.length=k+(A.length+1) by lia];exact h'))
  ·have:=h.fw (i+1) to e (by simpa using hi);lia
  ·have:=h.fg (i+1) to (by simpa using hi);lia
mutual
theorem zeA:∀(r:Rw) (k:Nat),qO r->W7 r->FwC k (xh r k)
 |.iff e a b,k,o,p=>by
  unfold qO at o
  unfold W7 at p
  have ha:=ZE a (k+1) o.2.1 p.2.1
  have hb:=ZE b (k+2+(zY a (k+1)).length) o.2.2 p.2.2
  have ec:xh (.iff e a b) k=blk e k (zY a (k+1)) (Rws.isNil b) (zY b (k+2+(zY a (k+1)).length)):=by rw[xh]
  rw[ec]
  generalize zY a (k+1)=A at *
  generalize zY b (k+2+A.length)=B at *
  unfold blk
  split
  ·exact .cons ⟨o.1,trivial⟩ (λe' to z=>by cases z;lia) (λto z=>nomatch z) ha
  ·refine .cons ⟨o.1,trivial⟩ (λe' to z=>by cases z;lia) (λto z=>nomatch z) (.app ha (.cons ⟨trivial,trivial⟩ (λe' to z=>nomatch z) (λto z=>by cases z;lia) ?_))
   rw[show k+1+A.length+1=k+2+A.length by lia]
   exact hb
 |.take sh e sl,k,o,p=>by rw[vK (x:=.take sh e sl) trivial];exact .cons ⟨o,p⟩ (λ_ _ z=>nomatch z) (by lia) (.nil _)
 |.give sh e f,k,o,p=>by rw[vK (x:=.give sh e f) trivial];exact .cons ⟨o,p⟩ (λ_ _ z=>nomatch z) (by lia) (.nil _)
 |.lt sl e,k,o,p=>by rw[vK (x:=.lt sl e) trivial];exact .cons ⟨o,p⟩ (λ_ _ z=>nomatch z) (by lia) (.nil _)
 |.say e,k,o,p=>by rw[vK (x:=.say e) trivial];exact .cons ⟨o,p⟩ (λ_ _ z=>nomatch z) (by lia) (.nil _)
 |.off e,k,o,p=>by rw[vK (x:=.off e) trivial];exact .cons ⟨o,p⟩ (λ_ _ z=>nomatch z) (by lia) (.nil _)
theorem ZE:∀(r:Rws) (k:Nat),ZM r->qP r->FwC k (zY r k)
 |.nil,k,o,p=>by rw[zY];exact .nil k
 |.cons r rs,k,o,p=>by
  unfold ZM at o
  unfold qP at p
  rw[zY]
  exact .app (zeA r k o.1 p.1) (ZE rs _ o.2 p.2)
end
theorem zhI(h1:Ve 6 r)(h2:ZM r)(h3:(zY r 0).length<=40):zbg (zY r 0):=by
 have f:=ZE r 0 h2 h1.pl
 exact⟨λc hc=>(f.ok c hc).1,λc hc=>(f.ok c hc).2,λi to e h=>by have:=f.fw i to e h;lia,λi to h=>by have:=f.fg i to h;lia,h3⟩
section
variable {C:List Cs}{s:RSt}{m:Nat}
theorem zeB(h:Vf s out):out.length<=s.gi.length:=by
 unfold Vf at h
 cases e:s.why with
 |some w=>rw[e] at h;rw[h];exact bP _
 |none =>
  rw[e] at h
  have ld:=jm s.gi
  have n1:((dOf s.gi).map (·.1)).Nodup:=(kg s.gi).1
  have n2:((out.map (·.1)).map zC).Nodup:=by
   have:=h.1.nd
   unfold gc at *
   rw[gb]
   exact this.imp λ{a b} hab z=>hab (yV z)
  have sub2:∀k∈(out.map (·.1)).map zC,k∈(dOf s.gi).map (·.1):=λk hk=>by
   obtain⟨p,hp,rfl⟩:=bE.mp hk
   obtain⟨r,hr,rfl⟩:=bE.mp hp
   exact bu (f:=(·.1)) (mem_dOf.mpr ⟨r.1,r.2,rfl,(h.2 r.1 r.2).mp hr⟩)
  have:=wG n2 sub2
  simp only[bd] at this
  lia
end
theorem zg6{H0 H1 H3:Hp}(s1:Same H0 H1)(hx:H1 x=ai)(hdx:H1 dx=ai)(k3:JC x (upd (upd H1 dx (.own x)) x (.ins t.q01 dx [])) H3)(fr:∀b,OwA x a b->b=x\/upd (upd H1 dx (.own x)) x (.ins t.q01 dx []) b=ai):Same H1 H3/\∀b,OwA x a b->H1 b=ai:=by
 have s2:Same H1 (upd (upd H1 dx (HO.own x)) x (HO.ins t.q01 dx [])):=λb o e=>by rw[zi (zx e hx),zi (zx e hdx)];exact e
 refine⟨λb o e=>k3 b o (λz=>by rw[z,hx] at e;cases e) (s2 b o e),λb ob=>?_⟩
 rcases fr b ob with z|z
 ·rw[z];exact hx
 ·exact zH s2 z
section
variable {C:List Cs}
theorem RnAt.has(R:RnAt t H x a C s)(ow:OwA x a b):H b≠ai:=by
 obtain⟨ys,hy,_⟩:=R.hc
 rcases ow with (z|z|z|z|z)|z
 ·rw[z,R.ix];exact λz=>nomatch z
 ·rw[z,R.hs];exact λz=>nomatch z
 ·rw[z,R.hg];exact λz=>nomatch z
 ·rw[z,R.hn];exact λz=>nomatch z
 ·rw[z,R.ha];exact λz=>nomatch z
 ·rw[z,hy];exact λz=>nomatch z
end
theorem _root_.L2.PrAt.same{H H':Hp}(h:zaa H v q)(s:Same H H'):zaa H' v q:=by
 obtain⟨r,p,e,h1,h2⟩:=h
 exact⟨r,p,e,s _ _ h1,s _ _ h2⟩
theorem _root_.L2.PrAt.tsame{H H':Hp}(h:zaa H v q)(s:zam H H'):zaa H' v q:=by
 obtain⟨r,p,e,h1,h2⟩:=h
 exact⟨r,p,e,s _ _ h1,s _ _ h2⟩
theorem Vj{H H':Hp}(s:zam H H'):∀ {vs:List V} {rows:List Row},Yn H vs rows->Yn H' vs rows
 |_,_,.nil=>.nil
 |_,_,.cons h r=>.cons (h.tsame s) (Vj s r)
theorem ku{H H':Hp}(s:Same H H'):∀ {vs:List V} {rows:List Row},Yn H vs rows->Yn H' vs rows
 |_,_,.nil=>.nil
 |_,_,.cons h r=>.cons (h.same s) (ku s r)
theorem JI{H:Hp}{v:V}{q:Row}:∀ {ys:List V} {rows:List Row},Yn H ys rows->zaa H v q->Yn H (ys++[v]) (rows++[q])
 |_,_,.nil,h=>.cons h .nil
 |_,_,.cons a r,h=>.cons a (JI r h)
theorem zan(rows:List Row):∃qs:List Pl,(dOf rows).map (·.1)=qs.map zC/\qs.Nodup/\∀p,p∈qs↔(zI rows p).isSome=af:=by
 have h:=kg rows
 have:∀(kvs:List (List Key×V)),(∀kv∈kvs,∃(p:Pl) (w:Int),kv=(zC p,.int w))->∃qs:List Pl,kvs.map (·.1)=qs.map zC:=λkvs=>by
  induction kvs with
  |nil=>exact λ_=>⟨[],rfl⟩
  |cons kv r ih =>
   intro hk
   obtain⟨qs,e⟩:=ih λz hz=>hk z (bn _ hz)
   obtain⟨p,w,e2⟩:=hk kv bq
   exact⟨p::qs,by rw[bo,bo,e,e2]⟩
 obtain⟨qs,e⟩:=this _ h.2
 refine⟨qs,e,xG (f:=zC) (by rw[<-e];exact h.1),λp=>?_⟩
 constructor
 ·intro hp
  have:zC p∈(dOf rows).map (·.1):=by rw[e];exact bu hp
  obtain⟨kv,hk,e1⟩:=bE.mp this
  obtain⟨p',w,rfl,hw⟩:=mem_dOf.mp hk
  have:=yV e1
  subst this
  rw[hw];rfl
 ·intro hp
  obtain⟨w,hw⟩:=fm.mp hp
  have:zC p∈qs.map zC:=by rw[<-e];exact bu (f:=(·.1)) (mem_dOf.mpr ⟨p,w,rfl,hw⟩)
  obtain⟨p',hp',e1⟩:=bE.mp this
  rw[<-yV e1];exact hp'
def JJ(rows:List Row)(p:Pl):Option Row:=match zI rows p with
 |some w=>if w=0 then ai else aa (p,w)
 |none=>ai
def zg7(rows:List Row)(qs:List Pl)(i:Nat)(ys:List V)(H:Hp):Prop:=∃out:List Row,Yn H ys out/\out=(qs.take i).filterMap (JJ rows)
theorem zfQ{H H':Hp}(s:zam H H')(h:zg7 rows qs i ys H):zg7 rows qs i ys H':=by
 obtain⟨out,h1,h2⟩:=h
 exact⟨out,Vj s h1,h2⟩
theorem toRow_iff :JJ rows p=aa b↔b.1=p/\zI rows p=aa b.2/\b.2≠0:=by
 unfold JJ
 obtain⟨p',w'⟩:=b
 cases e:zI rows p with
 |none=>simp
 |some w =>
  by_cases h:w=0
  ·subst h
   simp only[if_true]
   constructor
   ·intro z;cases z
   ·rintro⟨_,z,h2⟩
    exact absurd (bQ z).symm h2
  ·simp only[aj h,bC,Prod.mk.injEq]
   constructor
   ·rintro⟨rfl,rfl⟩;exact⟨rfl,rfl,h⟩
   ·rintro⟨rfl,rfl,_⟩;exact⟨rfl,rfl⟩
theorem zg8{ps:List Pl}(hw:ps.Pairwise λa b=>yv a b=af)(hm:∀p,p∈ps↔(zI rows p).isSome=af):zgh rows (ps.filterMap (JJ rows)):=by
 constructor
 ·unfold Rising
  rw[List.pairwise_filterMap]
  refine hw.imp λ{a a'} h b hb b' hb'=>?_
  rw[(toRow_iff.mp hb).1,(toRow_iff.mp hb').1];exact h
 ·intro p w
  rw[List.mem_filterMap]
  constructor
  ·rintro⟨a,_,h⟩
   obtain⟨h1,h2,h3⟩:=toRow_iff.mp h
   cases h1
   exact⟨h2,h3⟩
  ·rintro⟨h1,h2⟩
   exact⟨p,(hm p).mpr (by rw[h1];rfl),toRow_iff.mpr ⟨rfl,h1,h2⟩⟩
theorem Vk{p:Pl}{w:Int}:∀ {l:List Row},zI l p=aa w->(p,w)∈l
 |[],h=>by cases h
 |r::t,h=>by
  rw[zI] at h
  cases e:zI t p with
  |some w' =>
   rw[e] at h
   have:w'=w:=by simpa using h
   subst this
   exact bn _ (Vk e)
  |none =>
   rw[e] at h
   by_cases c:r.1=p
   ·rw[am c] at h
    have:r.2=w:=by simpa using h
    rw[<-c,<-this];exact bq
   ·rw[aj c] at h;cases h
theorem LsAt.same{H H':Hp}(h:LsAt H a rows)(s:Same H H'):LsAt H' a rows:=by
 obtain⟨xs,h1,h2⟩:=h
 exact⟨xs,s _ _ h1,ku s h2⟩
theorem zhJ(h:lfV v):kO v/\isJ v=ak/\plV v:=by
 rcases h with ⟨i,rfl,hi⟩|⟨x,rfl,hx⟩
 ·exact⟨.inl ⟨i,rfl,hi⟩,rfl,.inl ⟨i,rfl⟩⟩
 ·have:=YK hx
  exact⟨.inr ⟨x,rfl,by lia⟩,this.2.2.1,.inr ⟨x,rfl,ZD hx⟩⟩
theorem NamesAt.same{H H':Hp}(h:NamesAt H nm ws)(s:Same H H'):NamesAt H' nm ws:=⟨s _ _ h.1,h.2⟩
theorem zao(h:NamesAt H nm ws)(n:Nat)(hl:ws.length=n)(hn:0<(n:Int))(e:Int):∃x,atI (ws.map V.str) (e%n)=aa (.str x)/\x∈ws/\yJ x=af:=by
 obtain⟨v,hv,hm⟩:=zg0 e n (xs:=ws.map V.str) (by rw[bd,hl]) hn
 obtain⟨x,hx,rfl⟩:=bE.mp hm
 exact⟨x,hv,hx,h.2 x hx⟩
theorem JK(ha:TermOk a)(hb:TermOk b)(hw:wdJ w)(l:a.length+b.length<1000):TermOk (a++b++[.str w]):=by
 refine⟨λkvs=>?_,λz hz=>?_,by rw[bw,bw,eV];lia⟩
 ·obtain⟨r1,g1⟩:=ha.1 kvs
  obtain⟨r2,g2⟩:=hb.1 kvs
  exact⟨_,zcA hw.1 g1 g2⟩
 ·rcases bx.mp hz with hz|hz
  ·rcases bx.mp hz with hz|hz
   ·exact ha.2.1 z hz
   ·exact hb.2.1 z hz
  ·rw[br.mp hz];exact .inr ⟨w,rfl,hw.2.1⟩
theorem zbY(ha:tmP a)(hb:tmP b)(hw:wdJ w):tmP (a++b++[.str w]):=λz hz=>by
 rcases bx.mp hz with hz|hz
 ·rcases bx.mp hz with hz|hz
  ·exact ha z hz
  ·exact hb z hz
 ·rw[br.mp hz];exact .inr ⟨w,rfl,hw.2.2⟩
theorem Y3(h:lfV u):TermOk [u]/\tmP [u]:=by
 obtain⟨o1,j1,p1⟩:=zhJ h
 exact⟨zd9 o1 j1,λz hz=>by rw[br.mp hz];exact p1⟩
mutual
theorem zfR:∀(r:Rw) (k:Nat),(xh r k).length<=szR r/\r.cnt<=szR r
 |.iff e a b,k=>by
  have h1:=Y4 a (k+1)
  have h2:=Y4 b (k+2+(zY a (k+1)).length)
  have c:(Rw.iff e a b).cnt=max a.cnt b.cnt+1:=by rw[Rw.cnt]
  have z:szR (.iff e a b)=Zc a+Zc b+2:=by rw[szR]
  rw[xh,c,z]
  unfold blk
  split
  ·exact⟨by simp;lia,by lia⟩
  ·exact⟨by simp;lia,by lia⟩
 |.take sh e sl,k=>by simp[xh,szR,Rw.cnt]
 |.give sh e f,k=>by simp[xh,szR,Rw.cnt]
 |.lt sl e,k=>by simp[xh,szR,Rw.cnt]
 |.say e,k=>by simp[xh,szR,Rw.cnt]
 |.off e,k=>by simp[xh,szR,Rw.cnt]
theorem Y4:∀(r:Rws) (k:Nat),(zY r k).length<=Zc r/\r.cnt<=Zc r
 |.nil,k=>by simp[zY,Zc,Rws.cnt]
 |.cons r rs,k=>by
  have h1:=zfR r k
  have h2:=Y4 rs (k+(xh r k).length)
  rw[zY,Zc,Rws.cnt,bw]
  lia
end
theorem rn0 :RnI C 0 st0:=⟨⟨(λk v e=>by cases e),(λr h=>nomatch h),(λr h=>nomatch h),bi _,bi _,bi _,bi _,cU⟩,(λr h=>nomatch h),(λr h=>nomatch h),λ_=>bP _,λw z=>nomatch z⟩
theorem zcP{J:It}{H1:Hp}{Q:Hp->Prop}{B:V->St->Hp->(V->St->Hp->Prop)->(St->Hp->Prop)->Prop}(n:Nat)(hn:n<=1000000)(C:St->Prop)(R:Nat->List V->Hp->Prop)(hm:∀i ys H H',(∀b o,b≠D->H b=aa o->H' b=aa o)->R i ys H->R i ys H')(hC:C τ₀)(h0:R 0 [] H1)
  (go:∀i H,Same H1 H->i<n->J.go i H) (stop:∀H,Same H1 H->J.stop n H) (hD:H1 D=ai)
  (hs:∀i x τ ys H H',C τ->Same H1 H->i<n->R i ys H->H D=aa (.lst ys)->J.yld i H x H'->B x τ H' (λv τ' H4=>C τ'/\R (i+1) (ys++[v]) H4/\Same H H4) (λτ' H4=>C τ'/\R (i+1) ys H4/\Same H H4))
  (hd:∀ys H,ys.length<=n->R n ys H->Same H1 H->H D=aa (.lst ys)->Q H) :
  ∃W:Nat->Nat->List V->St->Hp->Prop,(∃m,W 0 m [] τ₀ (upd H1 D (.lst [])))/\∀i m ys τ H,W i m ys τ H->H D=aa (.lst ys) /\
  ((J.stop i H/\Q H)\/(J.go i H/\ys.length<Bb/\∃N:V->St->Hp->Prop,
   (∀v τ' H',N v τ' H'->H' D=aa (.lst ys)/\∃m',m'<m/\W (i+1) m' (ys++[v]) τ' (upd H' D (.lst (ys++[v]))))/\∃Nf:St->Hp->Prop,(∀τ' H',Nf τ' H'->∃m',m'<m/\W (i+1) m' ys τ' H') /\
   ∀x H',J.yld i H x H'->B x τ H' N Nf)):=by
 have ext:∀ {H:Hp} {o:HO},Same H1 H->Same H1 (upd H D o):=λ{H o} h b u e=>by
  rw[zi (zx e hD)];exact h b u e
 refine⟨λi m ys τ H=>m=n-i/\i<=n/\ys.length<=i/\R i ys H/\Same H1 H/\H D=aa (.lst ys)/\C τ,⟨n,by simp,bP _,bi _,hm _ _ _ _ (λb o hb e=>by rw[zi hb];exact e) h0,ext (Same.refl _),zh,hC⟩,?_⟩
 rintro i m ys τ H ⟨rfl,hi,hl,hR,hS,hy,hc⟩
 refine⟨hy,?_⟩
 by_cases hlt:i<n
 ·refine .inr ⟨go i H hS hlt,bU (by lia:ys.length<=1000000) (by lia),_,?_,_,?_,λx H' y=>hs i x τ ys H H' hc hS hlt hR hy y⟩
  ·rintro v τ' H4 ⟨c4,r4,s4⟩
   have y4:=s4 _ _ hy
   exact⟨y4,n-(i+1),by lia,rfl,hlt,by simp;lia,hm _ _ _ _ (λb o hb e=>by rw[zi hb];exact e) r4,ext (hS.trans s4),zh,c4⟩
  ·rintro τ' H4 ⟨c4,r4,s4⟩
   exact⟨n-(i+1),by lia,rfl,hlt,by lia,r4,hS.trans s4,s4 _ _ hy,c4⟩
 ·obtain rfl:i=n:=by lia
  exact .inl ⟨stop H hS,hd ys H hl hR hS hy⟩
theorem zg9(I:RnI C m s)(h:Vf s out):∀r∈out,inW r.2=af:=by
 unfold Vf at h
 cases e:s.why with
 |some w=>rw[e] at h;rw[h];exact λr hr=>nomatch hr
 |none =>
  rw[e] at h
  intro r hr
  exact vE (P:=λr=>inW r.2=af) I.ok.gw ((h.2 r.1 r.2).mp hr)
theorem zeC(xs:List V)(n:Nat):jX xs ai (aa (n:Int))=xs.take n:=by
 unfold jX
 rw[HT.sIx_none,HT.sIx_nat,gC,mZ]
 by_cases c:n<=xs.length
 ·rw[dv c]
 ·rw[gG (by lia),cj (bi _),cj (by lia)]
structure MkF(K:bt)(t:Adr):Prop where
 cl:Cls K t.q02
 g:NoAttr K t.q02 "ground"
 f:NoAttr K t.q02 "folded"
 w:NoAttr K t.q02 "worths"
 r:NoAttr K t.q02 "ranks"
theorem mkF{P:Str->Option ae}(T:Txt K P t):MkF K t:=⟨T.q0b,T.q2f,T.q2e,T.q2h,T.q2g⟩
section
variable {gr wo rk:ac}{low:Int}
theorem zh0:cW (bc "ground") (Yo gr low wo rk)=aa (.ref gr):=by simp only[Yo,b7,beq_self_eq_true]
theorem zhK:cW (bc "folded") (Yo gr low wo rk)=aa (.int low):=by
 have h1:(bc "folded" == bc "ground")=ak:=by lia
 simp only[Yo,b7,h1,beq_self_eq_true]
theorem zfS:cW (bc "worths") (Yo gr low wo rk)=aa (.ref wo):=by
 have h1:(bc "worths" == bc "ground")=ak:=by lia
 have h2:(bc "worths" == bc "folded")=ak:=by lia
 simp only[Yo,b7,h1,h2,beq_self_eq_true]
theorem zfT:cW (bc "ranks") (Yo gr low wo rk)=aa (.ref rk):=by
 have h1:(bc "ranks" == bc "ground")=ak:=by lia
 have h2:(bc "ranks" == bc "folded")=ak:=by lia
 have h3:(bc "ranks" == bc "worths")=ak:=by lia
 simp only[Yo,b7,h1,h2,h3,beq_self_eq_true]
end
theorem zbZ{rs:List Int}{k:Nat}{x:Int}(h:rs.Pairwise (· < ·))(e:rs[k]?=aa x):∀r∈rs.take (k+1),r<=x:=λr hr=>by
 obtain⟨j,hj⟩:=cP hr
 rw[fO] at hj
 split at hj
 ·obtain⟨h1,h2⟩:=bf.mp hj
  obtain⟨h3,h4⟩:=bf.mp e
  rcases iz j k with hl|hg
  ·have:=e9.mp h j k h1 h3 hl
   lia
  ·have:j=k:=by lia
   subst this
   lia
 ·cases hj
theorem zfU{rs:List Int}{k:Nat}{x:Int}(h:rs.Pairwise (· < ·))(e:rs[k]?=aa x):∀r∈rs.drop k,x<=r:=λr hr=>by
 obtain⟨j,hj⟩:=cP hr
 rw[ou] at hj
 obtain⟨h1,h2⟩:=bf.mp hj
 obtain⟨h3,h4⟩:=bf.mp e
 rcases lH j with rfl|hp
 ·simp only[Nat.add_zero] at h2
  lia
 ·have:=e9.mp h k (k+j) h3 h1 (by lia)
  lia
def mbW(a:ac)(rank:Int)(rs:List Int)(H:Hp)(m:Nat)(σ:St)(H':Hp):Prop:=∃(lo hi:Nat) (o:Option V),σ=[aa (.ref a),aa (.int rank),aa (.int lo),aa (.int hi),o]/\Same H H'/\lo<=hi/\hi<=rs.length/\m=hi-lo/\(∀r∈rs.take lo,r<rank)/\(∀r∈rs.drop hi,rank<=r)
theorem ZH{vs:List V}{_E:XK}(MF:MkF K t)(h:yL t vs H Q _E) :
  xL K t (qqN Q) (L2.start ["self","rank"] vs) H:=by
 obtain⟨m,dx,fs,low,rank,rfl,h1,h2,h3,q⟩:=h
 simp only[xL,zO,L2.start,zK,JV,tOp,zb,zQ,zB,rI0,cQ,bY,cg,bV,bj,bz,bC,ao,V.int.injEq,V.ref.injEq,V.bl.injEq,ap,cB,cp,decide_eq_true_eq]
 refine⟨_,_,_,h1,MF.cl,MF.f,_,h2,low,rfl,?_⟩
 rw[aj (by lia)]
 exact q H (Same.refl H)
theorem zbk{H:Hp}(h:H p=ai):∃H',H'=upd H p o/\Same H H'/\H' p=aa o:=⟨_,rfl,isV p h,zh⟩
theorem Vl(p:Pl)(made:Int):∀(gs:List Row) (s:Int×Int),Vg p made gs s=match zI gs p with|none=>s|some w=>(made,w)
 |[],s=>rfl
 |r::gs,s=>by
  rw[Vg,Vl p made gs,zI]
  cases zI gs p with
  |some w=>rfl
  |none =>
   by_cases e:r.1=p
   ·rw[am e,am e];rfl
   ·rw[aj e,aj e];rfl
theorem kA(p:Pl)(rank:Int):∀(lays:List (Int×List Row)) (s:Int×Int),(wD p rank lays s=s/\∀y∈lays,s.1<y.1->y.1<rank->zI y.2 p=ai) \/
  ∃y∈lays,∃w,zI y.2 p=aa w/\y.1<rank/\s.1<y.1/\wD p rank lays s=(y.1,w)/\∀z∈lays,z.1<rank->zI z.2 p≠ai->z.1<=y.1
 |[],s=>.inl ⟨rfl,λ_ h=>nomatch h⟩
 |l::ls,s=>by
  rw[wD]
  by_cases c:s.1<l.1/\l.1<rank
  ·rw[am c,Vl]
   cases e:zI l.2 p with
   |some w =>
    rcases kA p rank ls (l.1,w) with ⟨h1,h2⟩|⟨y,hy,w',e1,e2,e3,e4,e5⟩
    ·refine .inr ⟨l,bq,w,e,c.2,c.1,h1,λz hz zr zn=>?_⟩
     rcases bD.mp hz with rfl|hz
     ·exact Int.le_refl _
     ·rcases Int.lt_or_le l.1 z.1 with hl|hl
      ·exact absurd (h2 z hz hl zr) zn
      ·exact hl
    ·have e3':l.1<y.1:=e3
     refine .inr ⟨y,bn _ hy,w',e1,e2,by lia,e4,λz hz zr zn=>?_⟩
     rcases bD.mp hz with rfl|hz
     ·lia
     ·exact e5 z hz zr zn
   |none =>
    rcases kA p rank ls s with ⟨h1,h2⟩|⟨y,hy,w',e1,e2,e3,e4,e5⟩
    ·refine .inl ⟨h1,λy hy a b=>?_⟩
     rcases bD.mp hy with rfl|hy
     ·exact e
     ·exact h2 y hy a b
    ·refine .inr ⟨y,bn _ hy,w',e1,e2,e3,e4,λz hz zr zn=>?_⟩
     rcases bD.mp hz with rfl|hz
     ·exact absurd e zn
     ·exact e5 z hz zr zn
  ·rw[aj c]
   rcases kA p rank ls s with ⟨h1,h2⟩|⟨y,hy,w',e1,e2,e3,e4,e5⟩
   ·refine .inl ⟨h1,λy hy a b=>?_⟩
    rcases bD.mp hy with rfl|hy
    ·exact absurd ⟨a,b⟩ c
    ·exact h2 y hy a b
   ·refine .inr ⟨y,bn _ hy,w',e1,e2,e3,e4,λz hz zr zn=>?_⟩
    rcases bD.mp hz with rfl|hz
    ·rcases Int.lt_or_le s.1 z.1 with hl|hl
     ·exact absurd ⟨hl,zr⟩ c
     ·lia
    ·exact e5 z hz zr zn
theorem vE{gs:List Row}{p:Pl}(nd:(gs.map (·.1)).Nodup):p∈gs.map (·.1)↔zI gs p≠ai:=by
 constructor
 ·intro h e
  obtain⟨r,hr,rfl⟩:=bE.mp h
  have:=(WC (p:=r.1) (w:=r.2) nd).mpr hr
  rw[e] at this
  cases this
 ·intro h
  cases e:zI gs p with
  |none=>exact absurd e h
  |some w=>exact bE.mpr ⟨_,(WC nd).mp e,rfl⟩
theorem KI{rk:ac}{F:ac->Prop}{r:Int}{gs:List Row}:∀ {wk:List (Key×V)} {l:List (Int×List Row)},Paired (zab H rk F) wk l->(l.map (·.1)).Nodup->(r,gs)∈l->∃d,z4 wk (.inl r)=aa (.ref d)/\F d/\d≠rk/\H d=aa (.dT (dOf gs))
 |_,_,.nil,_,h=>nomatch h
 |_,_,@Paired.cons _ _ _ kv y wk l ⟨e,d,e2,fd,nd,hd⟩ rest,n,h=>by
  rw[bo,bZ] at n
  rcases bD.mp h with rfl|h
  ·exact⟨d,by rw[yG e,e2],fd,nd,hd⟩
  ·have ne:¬ kv.1=.inl r:=λz=>n.1 (by rw[e] at z;cases z;exact bu (f:=(·.1)) h)
   rw[yH ne]
   exact KI rest n.2 h
theorem zb0{rk:ac}{F:ac->Prop}:∀ {wk:List (Key×V)} {l:List (Int×List Row)},Paired (zab H rk F) wk l->wk.map (·.1)=l.map λy=>(gL y.1:Key)
 |_,_,.nil=>rfl
 |_,_,.cons h rest=>by rw[bo,bo,h.1,zb0 rest]
theorem KJ{rk:ac}{F:ac->Prop}{r:Int}{wk:List (Key×V)}{l:List (Int×List Row)}(h:Paired (zab H rk F) wk l)(n:r ∉ l.map (·.1)):z4 wk (.inl r)=ai:=by
 refine KG λz=>n ?_
 rw[zb0 h] at z
 obtain⟨y,hy,e⟩:=bE.mp z
 cases e
 exact bu hy
theorem KK{rk:ac}{F:ac->Prop}{r:Int}:∀ {wk:List (Key×V)} {l:List (Int×List Row)},Paired (zab H rk F) wk l->Paired (zab H rk F) (ye wk (.inl r)) (VN l r)
 |_,_,.nil=>.nil
 |_,_,@Paired.cons _ _ _ kv y wk l h rest=>by
  unfold VN
  by_cases e:y.1=r
  ·rw[Jm (by rw[h.1,e]),fE (by simp[e])]
   exact KK rest
  ·rw[Xo (λz=>e (by rw[h.1] at z;cases z;rfl)),fG (by simp[e])]
   exact .cons h (KK rest)
theorem zfV{l:List (Int×List Row)}{r:Int}(h:r ∉ l.map (·.1)):VN l r=l:=nU.mpr λy hy=>Bj λe=>h (by rw[<-e];exact bu hy)
theorem Vm{l:List (Int×List Row)}{r:Int}:r ∉ (VN l r).map (·.1):=λh=>by
 obtain⟨y,hy,e⟩:=bE.mp h
 exact of_decide_eq_true (cH.mp hy).2 e
theorem RkAt.get{rk:ac}{F:ac->Prop}{P:Pl->Int->Prop}{kk:List (List Key×V)}(h:RkAt H rk F P kk)(p:Pl):(∃a rs,(zC p,V.ref a)∈kk/\z4 kk (zC p)=aa (.ref a)/\F a/\H a=aa (.lst (rs.map V.int))/\rs.Pairwise (· < ·)/\rs≠[]/\∀r,r∈rs↔P p r)\/(z4 kk (zC p)=ai/\zC p ∉ kk.map (·.1)/\∀r,¬ P p r):=by
 by_cases hm:zC p∈kk.map (·.1)
 ·obtain⟨kv,hk,e⟩:=bE.mp hm
  obtain⟨p',a,rs,rfl,z⟩:=h.ls kv hk
  have:p'=p:=yV e
  subst this
  exact .inl ⟨a,rs,hk,Km h.nk _ hk,z⟩
 ·exact .inr ⟨KG hm,hm,λr hr=>hm (h.al p r hr)⟩
theorem zha{rs:List Int}{l:List (Int×List Row)}{p:Pl}(h:rs.Pairwise (· < ·))(hr:∀r,r∈rs->ZG l p r):rs.length<=l.length:=by
 have nd:rs.Nodup:=lU (λh=>oU h) h
 have:=wG (b:=l.map (·.1)) nd λx hx=>let ⟨gs,h1,_⟩:=hr x hx;bE.mpr ⟨_,h1,rfl⟩
 simpa using this
section
variable {G:ac->Prop}{rk a:ac}{H' H'':Hp}
theorem KeepR.refl:KeepR G rk H H:=λ_ _ e _ _=>e
theorem KeepR.same(k:KeepR G rk H H')(s:Same H' H''):KeepR G rk H H'':=λb o e n z=>s _ _ (k b o e n z)
theorem KeepR.dct(k:KeepR G rk H H')(o:HO):KeepR G rk H (upd H' rk o):=λb u e n z=>by rw[zi n];exact k b u e n z
theorem KeepR.lst(k:KeepR G rk H H')(ha:H' a=aa (.lst xs))(ga:G a):KeepR G rk H (upd H' a (.lst ys)):=λb u e n z=>by
 have e2:=k b u e n z
 by_cases hb:b=a
 ·subst hb
  rcases z with z|z
  ·rw[ha] at e2;exact absurd (bQ e2).symm (z xs)
  ·exact absurd ga z
 ·rw[zi hb];exact e2
end
theorem KL{α β:Type}{f:α->β}:∀ {l:List α},(l.map f).Nodup->∀ {x y:α},x∈l->y∈l->f x=f y->x=y
 |[],_,_,_,h,_,_=>nomatch h
 |c::l,n,x,y,hx,hy,e=>by
  rw[bo,bZ] at n
  rcases bD.mp hx with h1|h1
  ·rcases bD.mp hy with h2|h2
   ·rw[h1,h2]
   ·exact absurd (by rw[<-h1,e];exact bu h2) n.1
  ·rcases bD.mp hy with h2|h2
   ·exact absurd (by rw[<-h2,<-e];exact bu h1) n.1
   ·exact KL n.2 h1 h2 e
section
variable {G:ac->Prop}{rk a:ac}{P P':Pl->Int->Prop}{kk:List (List Key×V)}{q0:Pl}{rank:Int}{rs:List Int}
theorem RkAt.one(h:RkAt H rk G P kk)(hk:(zC q0,V.ref a)∈kk){p':Pl}(hk2:(zC p',V.ref a')∈kk):a'=a↔p'=q0:=by
 constructor
 ·intro e
  have:=KL h.nv hk2 hk (by rw[e])
  exact yV (congrArg Prod.fst this)
 ·intro e
  have:=KL h.nk hk2 hk (by rw[e])
  exact V.ref.inj (congrArg Prod.snd this)
theorem zap(h:RkAt H rk G P kk)(ha:H a=aa (.lst (rs.map V.int))):rk≠a:=zG h.at_ ha (by lia)
theorem JL{r:Int}(hs:rs.Pairwise (· < ·)):r∈rs.erase rank↔r∈rs/\r≠rank:=by
 have nd:rs.Nodup:=lU (λh=>oU h) hs
 rw[nd.mem_erase_iff,and_comm]
theorem RkAt.out1(h:RkAt H rk G P kk)(hk:(zC q0,V.ref a)∈kk)(ha:H a=aa (.lst (rs.map V.int)))(hs:rs.Pairwise (· < ·))(hi:∀r,r∈rs↔P q0 r)(hne:rs.erase rank≠[])(hP:∀p r,P' p r↔P p r/\¬ (r=rank/\p=q0)):RkAt (upd H a (.lst ((rs.erase rank).map V.int))) rk G P' kk where
 at_:=by rw[zi (zap h ha)];exact h.at_
 nk:=h.nk
 nv:=h.nv
 ls:=λkv hkv=>by
  obtain⟨p',a',rs',rfl,ga,ha',hs',hn',hi'⟩:=h.ls kv hkv
  by_cases e:a'=a
  ·have ep:=(h.one hk hkv).mp e
   subst e ep
   refine⟨p',a',rs.erase rank,rfl,ga,zh,hs.sublist oy,hne,λr=>?_⟩
   rw[JL hs,hP,hi]
   exact⟨λz=>⟨z.1,λy=>z.2 y.1⟩,λz=>⟨z.1,λy=>z.2 ⟨y,rfl⟩⟩⟩
  ·have ep:¬ p'=q0:=λz=>e ((h.one hk hkv).mpr z)
   refine⟨p',a',rs',rfl,ga,by rw[zi e];exact ha',hs',hn',λr=>?_⟩
   rw[hi',hP]
   exact⟨λz=>⟨z,λy=>ep y.2⟩,λz=>z.1⟩
 al:=λp r z=>h.al p r ((hP p r).mp z).1
theorem RkAt.out2(h:RkAt H rk G P kk)(hk:(zC q0,V.ref a)∈kk)(ha:H a=aa (.lst (rs.map V.int)))(hs:rs.Pairwise (· < ·))(hi:∀r,r∈rs↔P q0 r)(hne:rs.erase rank=[])(hP:∀p r,P' p r↔P p r/\¬ (r=rank/\p=q0)){us:List V}:RkAt (upd (upd H a (.lst us)) rk (.dT (ye kk (zC q0)))) rk G P' (ye kk (zC q0)) where
 at_:=zh
 nk:=gQ (iL _ dD) h.nk
 nv:=gQ (iL _ dD) h.nv
 ls:=λkv hkv=>by
  have hkv2:=zcv hkv
  have ne:kv.1≠zC q0:=of_decide_eq_true (cH.mp hkv).2
  obtain⟨p',a',rs',rfl,ga,ha',hs',hn',hi'⟩:=h.ls kv hkv2
  have ep:¬ p'=q0:=λz=>ne (by rw[z])
  have e:¬ a'=a:=λz=>ep ((h.one hk hkv2).mp z)
  refine⟨p',a',rs',rfl,ga,by rw[zi (zap h ha').symm,zi e];exact ha',hs',hn',λr=>?_⟩
  rw[hi',hP]
  exact⟨λz=>⟨z,λy=>ep y.2⟩,λz=>z.1⟩
 al:=λp r z=>by
  obtain⟨z1,z2⟩:=(hP p r).mp z
  obtain⟨kv,hkv,e⟩:=bE.mp (h.al p r z1)
  refine bE.mpr ⟨kv,cH.mpr ⟨hkv,Bj λy=>?_⟩,e⟩
  have:p=q0:=yV (e.symm.trans y)
  subst this
  have hr:r∈rs:=(hi r).mpr z1
  by_cases er:r=rank
  ·exact z2 ⟨er,rfl⟩
  ·have:=(JL (rank:=rank) hs).mpr ⟨hr,er⟩
   rw[hne] at this
   cases this
theorem zbl{k:Nat}(hs:rs.Pairwise (· < ·))(hlt:∀r∈rs.take k,r<rank)(hge:∀r∈rs.drop k,rank<=r)(hno:rank ∉ rs):(rs.take k++rank::rs.drop k).Pairwise (· < ·):=by
 have gt:∀r∈rs.drop k,rank<r:=λr hr=>by
  have h1:=hge r hr
  have h2:r≠rank:=λz=>hno (by rw[<-z];exact cZ hr)
  lia
 rw[gq,List.pairwise_cons]
 refine⟨hs.sublist (oB ..),⟨gt,hs.sublist (oI ..)⟩,λx hx y hy=>?_⟩
 have:=hlt x hx
 rcases bD.mp hy with rfl|hy
 ·exact this
 ·have:=gt y hy;lia
theorem zfW{r:Int}:r∈rs.take k++rank::rs.drop k↔r∈rs\/r=rank:=by
 rw[bx,bD]
 constructor
 ·rintro(h|h|h)
  ·exact .inl (dt h)
  ·exact .inr h
  ·exact .inl (cZ h)
 ·rintro(h|h)
  ·have:r∈rs.take k++rs.drop k:=by rw[eW];exact h
   rcases bx.mp this with z|z
   ·exact .inl z
   ·exact .inr (.inr z)
  ·exact .inr (.inl h)
theorem RkAt.in1{k:Nat}(h:RkAt H rk G P kk)(hk:(zC q0,V.ref a)∈kk)(ha:H a=aa (.lst (rs.map V.int)))(hs:rs.Pairwise (· < ·))(hi:∀r,r∈rs↔P q0 r)(hlt:∀r∈rs.take k,r<rank)(hge:∀r∈rs.drop k,rank<=r)(hno:¬ P q0 rank)(hP:∀p r,P' p r↔P p r\/(r=rank/\p=q0)):RkAt (upd H a (.lst ((rs.take k++rank::rs.drop k).map V.int))) rk G P' kk where
 at_:=by rw[zi (zap h ha)];exact h.at_
 nk:=h.nk
 nv:=h.nv
 ls:=λkv hkv=>by
  obtain⟨p',a',rs',rfl,ga,ha',hs',hn',hi'⟩:=h.ls kv hkv
  by_cases e:a'=a
  ·have ep:=(h.one hk hkv).mp e
   subst e ep
   refine⟨p',a',_,rfl,ga,zh,zbl hs hlt hge (λz=>hno ((hi _).mp z)),by simp,λr=>?_⟩
   rw[zfW,hP,hi]
   exact⟨λz=>z.imp_right λy=>⟨y,rfl⟩,λz=>z.imp_right λy=>y.1⟩
  ·have ep:¬ p'=q0:=λz=>e ((h.one hk hkv).mpr z)
   refine⟨p',a',rs',rfl,ga,by rw[zi e];exact ha',hs',hn',λr=>?_⟩
   rw[hi',hP]
   exact⟨λz=>.inl z,λz=>z.elim id λy=>absurd y.2 ep⟩
 al:=λp r z=>by
  rcases(hP p r).mp z with z|⟨_,rfl⟩
  ·exact h.al p r z
  ·exact bE.mpr ⟨_,hk,rfl⟩
theorem RkAt.in2(h:RkAt H rk G P kk)(hk:zC q0 ∉ kk.map (·.1))(hno:∀r,¬ P q0 r)(ga:G a)(hf:∀kv∈kk,kv.2≠.ref a)(ha:a≠rk)(hP:∀p r,P' p r↔P p r\/(r=rank/\p=q0)):RkAt (upd (upd H rk (.dT (kk++[(zC q0,V.ref a)]))) a (.lst [V.int rank])) rk G P' (kk++[(zC q0,V.ref a)]) where
 at_:=by rw[zi ha.symm];exact zh
 nk:=by
  rw[bM,dH]
  refine⟨h.nk,by simp,λx hx y hy=>?_⟩
  have:y=zC q0:=by simpa using hy
  rw[this]
  exact λz=>hk (by rw[<-z];exact hx)
 nv:=by
  rw[bM,dH]
  refine⟨h.nv,by simp,λx hx y hy=>?_⟩
  have:y=V.ref a:=by simpa using hy
  rw[this]
  obtain⟨kv,hkv,rfl⟩:=bE.mp hx
  exact hf kv hkv
 ls:=λkv hkv=>by
  rcases bx.mp hkv with hkv|hkv
  ·obtain⟨p',a',rs',rfl,ga',ha',hs',hn',hi'⟩:=h.ls kv hkv
   have e:a'≠a:=λz=>hf _ hkv (by rw[z])
   have ep:p'≠q0:=λz=>hk (bE.mpr ⟨_,hkv,by rw[z]⟩)
   refine⟨p',a',rs',rfl,ga',by rw[zi e,zi (zap h ha').symm];exact ha',hs',hn',λr=>?_⟩
   rw[hi',hP]
   exact⟨λz=>.inl z,λz=>z.elim id λy=>absurd y.2 ep⟩
  ·have:=br.mp hkv
   subst this
   refine⟨q0,a,[rank],rfl,ga,zh,by simp,by simp,λr=>?_⟩
   rw[hP,br]
   exact⟨λz=>.inr ⟨z,rfl⟩,λz=>z.elim (λy=>absurd y (hno r)) λy=>y.1⟩
 al:=λp r z=>by
  rw[bM,bx]
  rcases(hP p r).mp z with z|⟨_,rfl⟩
  ·exact .inl (h.al p r z)
  ·exact .inr (by simp)
theorem RkAt.eqv(h:RkAt H rk G P kk)(e:∀p r,P p r↔P' p r):RkAt H rk G P' kk:=⟨h.at_,h.nk,h.nv,λkv hk=>let ⟨p,a,rs,e1,fa,ha,hs,hn,hi⟩:=h.ls kv hk;⟨p,a,rs,e1,fa,ha,hs,hn,λr=>(hi r).trans (e p r)⟩,λp r z=>h.al p r ((e p r).mpr z)⟩
end
def taI(m L rk:ac)(rank:Int)(ys:List V)(F:ac->Prop)(P:Pl->Int->Prop)(gs:List Row)(H:Hp)(i:Nat)(σ:St)(H':Hp):Prop:=(∃o3,σ=[aa (.ref m),aa (.int rank),aa (.ref L),o3])/\KeepR F rk H H'/\Dm H H'/\∃kk,RkAt H' rk F (λp r=>P p r/\¬ (r=rank/\p∈(gs.take i).map (·.1))) kk
theorem RkAt.keep2{H':Hp}{rk:ac}{F F':ac->Prop}{P:Pl->Int->Prop}(h:RkAt H rk F P kvs)(hr:H' rk=H rk)(k:∀b xs,F b->H b=aa (.lst xs)->H' b=aa (.lst xs))(ff:∀b,F b->(∃o,H' b=aa o)->F' b):RkAt H' rk F' P kvs:=
 ⟨hr.trans h.at_,h.nk,h.nv,λkv hk=>let ⟨p,a,rs,e,fa,ha,z⟩:=h.ls kv hk;⟨p,a,rs,e,ff a fa ⟨_,k _ _ fa ha⟩,k _ _ fa ha,z⟩,h.al⟩
theorem Dm.refl:Dm H H:=λb o e=>⟨o,e,λ_ z=>z⟩
theorem Dm.trans{H1 H2:Hp}(h:Dm H H1)(k:Dm H1 H2):Dm H H2:=λb o e=>by
 obtain⟨o1,e1,z1⟩:=h b o e
 obtain⟨o2,e2,z2⟩:=k b o1 e1
 exact⟨o2,e2,λzs z=>z1 zs (z2 zs z)⟩
theorem Dm.of_same{H1:Hp}(s:Same H H1):Dm H H1:=λb o e=>⟨o,s _ _ e,λ_ z=>z⟩
theorem Dm.upd(n:∀zs,o'≠.tup zs):Dm H (upd H a o'):=λb o e=>by
 by_cases c:b=a
 ·subst c;exact⟨_,zh,λzs z=>absurd z (n zs)⟩
 ·exact⟨o,by rw[zi c];exact e,λ_ z=>z⟩
theorem VW{vs:List V}{_E:XK}(h:xx vs H Q _E) :
  qi K t (qqN Q) (L2.start ["ranks_at","place","rank","ranks"] vs) H:=by
 obtain⟨rk,pl,rank,G,P,kk,q0,rfl,hr,fk,hp,hP,q⟩:=h
 rcases hr.get q0 with ⟨a,rs,hk,hv,fa,ha,hs,hne,hi⟩|⟨_,_,hn⟩
 ·have hir:rank∈rs:=(hi rank).mpr hP
  have ar:=zap hr ha
  simp only[qi,jY,zbb,jo,L2.start,Kg,zm,zL,zp,z5,zK,tOp,zb,xV,zc,zk,zQ,zB,tBM,tyV,cQ,bY,cg,cE,cX,bj,bz,bC,ao,V.int.injEq,V.ref.injEq,V.bl.injEq,bT,and_true,true_and,ap,cC,cO,cB,cp,decide_eq_true_eq]
  refine⟨.ref a,(by rw[<-hv];exact .t hr.at_ hp),.inl ⟨_,SqL.of ha⟩,a,rfl,rs,ha,hir,by lia,λz hz=>?_⟩
  have k2:=(KeepR.refl (G:=G) (rk:=rk) (H:=H)).lst (ys:=(rs.erase rank).map V.int) ha fa
  have d2:Dm H (upd H a (.lst ((rs.erase rank).map V.int))):=Dm.upd λ_ z=>nomatch z
  have pa:pl≠a:=zG hp ha (by lia)
  have hp2:upd H a (.lst ((rs.erase rank).map V.int)) pl=aa (.tup ((zC q0).map kV)):=by rw[zi pa];exact hp
  have hk2:upd H a (.lst ((rs.erase rank).map V.int)) rk=aa (.dT kk):=by rw[zi ar];exact hr.at_
  obtain⟨H3,eH,s3,q3⟩:=zbk (o:=HO.lst []) hz
  rw[<-eH];clear eH
  refine⟨a,rfl,_,SqL.of (s3 _ _ zh),SqL.of q3,?_⟩
  by_cases e:rs.erase rank=[]
  ·rw[am (by rw[e];rfl)]
   refine⟨.inr ⟨_,.inl (s3 _ _ hk2)⟩,kk,s3 _ _ hk2,zC q0,s3 _ _ hp2,_,hv,q _ (ye kk (zC q0)) ((k2.same s3).dct _) (d2.trans ((Dm.of_same s3).trans (Dm.upd λ_ z=>nomatch z))) ?_⟩
   refine(hr.out2 (us:=(rs.erase rank).map V.int) hk ha hs hi e λp r=>pM).keep fk (λb o fb eb=>?_) (λ_ z=>z)
   by_cases hb:b=rk
   ·subst hb;rw[zh] at eb ⊢;exact eb
   ·rw[zi hb] at eb ⊢;exact s3 _ _ eb
  ·rw[aj (λz=>e (List.map_eq_nil_iff.mp z))]
   exact q _ kk (k2.same s3) (d2.trans (Dm.of_same s3)) ((hr.out1 hk ha hs hi e λp r=>pM).keep fk (λb o _ eb=>s3 _ _ eb) (λ_ z=>z))
 ·exact absurd hP (hn rank)
theorem KeepR.trans{G:ac->Prop}{rk:ac}{H1 H2:Hp}(h:KeepR G rk H H1)(k:KeepR G rk H1 H2):KeepR G rk H H2:=λb o e n z=>k b o (h b o e n z) n z
theorem zb1{m L dx gr wo rk:ac}{rank low:Int}{ys:List V}{F:ac->Prop}{P:Pl->Int->Prop}{gs:List Row}{kk:List (List Key×V)}{o3:Option V}(MF:MkF K t)(hm:H m=aa (.ins t.q02 dx (Yo gr low wo rk)))(hL:H L=aa (.lst ys))(nL:¬ F L)(hy:Paired (zcI H) ys (dOf gs))(nd:(gs.map (·.1)).Nodup)(hP:∀r∈gs,P r.1 rank)(hr:RkAt H rk F P kk)(fk:F rk)
  (q:∀H' kk',KeepR F rk H H'->Dm H H'->RkAt H' rk F (λp r=>P p r/\¬ (r=rank/\p∈gs.map (·.1))) kk'->Q .non H') :
  xt K t (qqN Q) [aa (.ref m),aa (.int rank),aa (.ref L),o3] H:=by
 have mr:m≠rk:=zG hm hr.at_ (by lia)
 have ly:ys.length=gs.length:=by rw[bL hy,XI nd,bd]
 simp only[xt,xx,zO,zp,z5,zb,zc,zk,jG,zT,xW,bV,bj,bz,bC,ao,V.ref.injEq,bT,and_true,and_assoc,ap]
 refine⟨⟨_,SqL.of hL⟩,yU ys (taI m L rk rank ys F P gs H) ⟨⟨_,rfl⟩,KeepR.refl,Dm.refl,kk,hr.eqv λp r=>by simp⟩ (λi σ H' ⟨_,k,_⟩=>SqL.of (k _ _ hL (λz=>nL (by rw[z];exact fk)) (.inr nL))) ?_ ?_⟩
 ·rintro i u σ H' hu ⟨⟨o3,rfl⟩,k,dm,kk',hr'⟩
  obtain⟨kv,hkv,p,rfl,hp⟩:=Paired.getP hy hu
  rw[XI nd,bp] at hkv
  obtain⟨r0,hr0,rfl⟩:=b6.mp hkv
  have hp:H p=aa (.tup ((zC r0.1).map kV)):=hp
  have hp':H' p=aa (.tup ((zC r0.1).map kV)):=k _ _ hp (zG hp hr.at_ (by lia)) (.inl λ_ z=>nomatch z)
  have hm':=k _ _ hm mr (.inl λ_ z=>nomatch z)
  have hno:r0.1 ∉ (gs.take i).map (·.1):=λz=>by
   obtain⟨j,hj⟩:=cP z
   rw[bp,fO] at hj
   split at hj
   ·rename_i hji
    have a1:(gs.map (·.1))[j]?=aa r0.1:=by rw[bp];exact hj
    have a2:(gs.map (·.1))[i]?=aa r0.1:=by rw[bp,hr0];rfl
    have:=(gg (bf.mp a1).1 nd).mp (a1.trans a2.symm)
    lia
   ·cases hj
  have hPi:∀p r,((P p r/\¬ (r=rank/\p∈(gs.take i).map (·.1)))/\¬ (r=rank/\p=r0.1))↔(P p r/\¬ (r=rank/\p∈(gs.take (i+1)).map (·.1))):=λp r=>by
   rw[dU,hr0,bM,bx]
   have:p∈cQ (·.1) (aa r0).toList↔p=r0.1:=by simp
   rw[this]
   exact⟨λ⟨⟨a,b⟩,c⟩=>⟨a,λd=>d.2.elim (λe=>b ⟨d.1,e⟩) λe=>c ⟨d.1,e⟩⟩,λ⟨a,b⟩=>⟨⟨a,λc=>b ⟨c.1,.inl c.2⟩⟩,λc=>b ⟨c.1,.inr c.2⟩⟩⟩
  simp only[bj,bz,bC,ao,V.int.injEq,V.ref.injEq,cC,cO]
  refine⟨_,_,_,hm',MF.cl,MF.r,_,zfT,rk,rfl,F,_,kk',hr',fk,r0.1,hp',⟨hP r0 (bW hr0),λz=>hno z.2⟩,λH2 kk2 k2 d2 r2=>⟨⟨_,rfl⟩,k.trans k2,dm.trans d2,kk2,r2.eqv hPi⟩⟩
 ·rintro σ H' ⟨⟨o3,rfl⟩,k,dm,kk',hr'⟩
  rw[ly,eR] at hr'
  exact q H' kk' k dm hr'
theorem ZI{vs:List V}{_E:XK}(MF:MkF K t)(h:yo t vs H Q _E) :
  xM K t (qqN Q) (L2.start ["self","rank"] vs) H:=by
 obtain⟨m,rank,F,g,lays,low,rfl,h1,q⟩:=h
 simp only[xM,kK,vf,zO,zei,L2.start,vf,zJ,zb,zc,zk,tCB,cQ,bY,cg,bV,bj,bz,bC,ao,V.ref.injEq,bT,and_true,ap,cB,cp]
 obtain⟨dx,gr,wo,rk,wk,kk,M⟩:=h1.ex
 refine⟨_,_,_,M.im,MF.cl,MF.w,_,zfS,wo,rfl,.inl ⟨_,.inl M.hw⟩,λp hp=>?_⟩
 obtain⟨H1,eH,s1,q1⟩:=zbk (o:=HO.dT []) hp
 rw[<-eH];clear eH
 have M1:=M.keep h1.me λb o _ e=>s1 _ _ e
 by_cases hin:rank∈lays.map (·.1)
 ·obtain⟨y,hy,ey⟩:=bE.mp hin
  obtain⟨r',gs⟩:=y
  have ey:r'=rank:=ey
  subst ey
  obtain⟨d,v1,fd,nd,hd⟩:=KI M1.wp h1.nd hy
  have hg:=DGet.k (k:=.inl r') M1.hw
  rw[v1] at hg
  refine⟨_,hg,d,rfl,dOf gs,hd,λl ys hl pr=>?_⟩
  have s3:=isV (o:=HO.lst ys) l hl
  exact q l ys gs _ (s1.trans s3) (zH s1 hl) zh (Paired.mapP pr λ_ _ ⟨p,e,h⟩=>⟨p,e,s3 _ _ h⟩) (.inl hy)
 ·have hg:=DGet.k (k:=.inl rank) M1.hw
  rw[KJ M1.wp hin] at hg
  refine⟨_,hg,p,rfl,[],q1,λl ys hl pr=>?_⟩
  have s3:=isV (o:=HO.lst ys) l hl
  exact q l ys [] _ (s1.trans s3) (zH s1 hl) zh (Paired.mapP pr λ_ _ ⟨p,e,h⟩=>⟨p,e,s3 _ _ h⟩) (.inr ⟨hin,rfl⟩)
theorem zeD{m dx gr wo rk:ac}{low:Int}{F:ac->Prop}{g:List Row}{l':List (Int×List Row)}{wk':List (Key×V)}{kk':List (List Key×V)}{H3 H':Hp}(me:F m)(fg:F gr)(fw:F wo)(fk:F rk)(nr:gr≠rk)(im:H3 m=aa (.ins t.q02 dx (Yo gr low wo rk)))(hg:H3 gr=aa (.dT (dOf g)))(hw:H3 wo=aa (.dK wk'))(hk3:∃kk,H3 rk=aa (.dT kk))(wp:Paired (zab H3 rk F) wk' l')(k:KeepR F rk H3 H')(own:∀b,F b->∃o,H' b=aa o)(rr:RkAt H' rk F (ZG l') kk')(nd:(l'.map (·.1)).Nodup)(ok:∀y∈l',0<=y.1/\Wk y.2):MrAt t H' m F g l' low:=by
 obtain⟨kk,hk3⟩:=hk3
 exact⟨own,me,nd,ok,dx,gr,wo,rk,wk',kk',k _ _ im (zG im hk3 (by lia)) (.inl λ_ z=>nomatch z),fg,fw,fk,nr,k _ _ hg nr (.inl λ_ z=>nomatch z),k _ _ hw (zG hw hk3 (by lia)) (.inl λ_ z=>nomatch z),Paired.mapP wp λ_ _ ⟨e,d,e2,fd,nd,hd⟩=>⟨e,d,e2,fd,nd,k _ _ hd nd (.inl λ_ z=>nomatch z)⟩,rr⟩
theorem JM{F:ac->Prop}{rk:ac}{H H':Hp}(fk:F rk)(k:KeepR F rk H H'):∀b o,¬ F b->H b=aa o->H' b=aa o:=λb o n e=>k b o e (λz=>n (by rw[z];exact fk)) (.inr n)
theorem zeE{l:List (Int×List Row)}{rank:Int}{gs:List Row}(nd:(l.map (·.1)).Nodup)(h:(rank,gs)∈l)(p:Pl)(r:Int):(ZG l p r/\¬ (r=rank/\p∈gs.map (·.1)))↔ZG (VN l rank) p r:=by
 constructor
 ·rintro⟨⟨g2,h1,h2⟩,n⟩
  refine⟨g2,cH.mpr ⟨h1,Bj λz=>?_⟩,h2⟩
  have z:r=rank:=z
  subst z
  have:=KL nd h1 h rfl
  cases this
  exact n ⟨rfl,h2⟩
 ·rintro⟨g2,h1,h2⟩
  obtain⟨h3,h4⟩:=cH.mp h1
  exact⟨⟨g2,h3,h2⟩,λz=>of_decide_eq_true h4 z.1⟩
theorem ZJ{vs:List V}{_E:XK}(MF:MkF K t)(h:y6 t vs H Q _E) :
  xN K t (qqN Q) (L2.start ["self","rank","places","place"] vs) H:=by
 obtain⟨m,rank,F,g,lays,low,rfl,h1,q⟩:=h
 simp only[xN,yo,zO,zW,J9,L2.start,zm,zL,zp,z5,zb,tC,zc,zk,cQ,bY,cg,cE,cX,bV,bj,bz,bC,ao,V.int.injEq,V.ref.injEq,bT,and_true,and_assoc,ap,cC,cO,cB,cp]
 obtain⟨dx,gr,wo,rk,wk,kk,M⟩:=h1.ex
 refine⟨_,_,M.im,ki (by lia),F,g,lays,low,h1,λL ys gs H1 s1 fL hL hy ho=>?_⟩
 have M1:=M.keep h1.me λb o _ e=>s1 _ _ e
 have okf:∀y∈VN lays rank,0<=y.1/\Wk y.2:=λy hy=>h1.ok y (cH.mp hy).1
 have ndf:((VN lays rank).map (·.1)).Nodup:=gQ (iL _ dD) h1.nd
 have nL:¬ F L:=λz=>by obtain⟨o,e⟩:=h1.own L z;rw[fL] at e;cases e
 have ownD:∀ {H2:Hp},Dm H1 H2->∀b,F b->∃o,H2 b=aa o:=λdm b hb=>by
  obtain⟨o,e⟩:=h1.own b hb
  obtain⟨o',e',_⟩:=dm b o (s1 _ _ e)
  exact⟨o',e'⟩
 refine⟨_,_,_,M1.im,MF.cl,MF.w,_,zfS,wo,rfl,.inl ⟨_,.inl M1.hw⟩,wk,M1.hw,.inl rank,rfl,λv hv=>?_,λhv=>?_⟩
 ·have hin:rank∈lays.map (·.1):=fh λz=>by rw[KJ M1.wp z] at hv;cases hv
  have hy0:(rank,gs)∈lays:=ho.resolve_right λz=>z.1 hin
  have okg:=(h1.ok _ hy0).2
  have wm:m≠wo:=zG M1.im M1.hw (by lia)
  have wg:gr≠wo:=zG M1.hg M1.hw (by lia)
  have wr:rk≠wo:=zG M1.rr.at_ M1.hw (by lia)
  have n2:∀b o,b≠wo->H1 b=aa o->upd H1 wo (HO.dK (ye wk (.inl rank))) b=aa o:=λb o n e=>by rw[zi n];exact e
  have w2:upd H1 wo (HO.dK (ye wk (.inl rank))) wo=aa (HO.dK (ye wk (.inl rank))):=zh
  have d2:Dm H1 (upd H1 wo (HO.dK (ye wk (.inl rank)))):=Dm.upd λ_ z=>nomatch z
  generalize upd H1 wo (HO.dK (ye wk (.inl rank)))=H2 at *
  have rr2:RkAt H2 rk F (ZG lays) kk:=M1.rr.keep2 (by rw[n2 _ _ wr M1.rr.at_,M1.rr.at_]) (λb xs _ e=>n2 _ _ (zG e M1.hw (by lia)) e) (λ_ z _=>z)
  refine zb1 MF (n2 _ _ wm M1.im) (n2 _ _ (zG hL M1.hw (by lia)) hL) nL (Paired.mapP hy λ_ _ ⟨p,e,h⟩=>⟨p,e,n2 _ _ (zG h M1.hw (by lia)) h⟩) okg.nd (λr hr=>⟨gs,hy0,bu hr⟩) rr2 M.fk λH' kk' k dm rr'=>?_
  have wp3:Paired (zab H2 rk F) (ye wk (.inl rank)) (VN lays rank):=Paired.mapP (KK M1.wp) λ_ _ ⟨e,d,e2,fd,nd,hd⟩=>⟨e,d,e2,fd,nd,n2 _ _ (zG hd M1.hw (by lia)) hd⟩
  refine q H' F (λb o nf e=>JM M.fk k b o nf (n2 _ _ (λz=>nf (by rw[z];exact M.fw)) (s1 _ _ e))) (λb zs e=>k _ _ (n2 _ _ (zG (s1 _ _ e) M1.hw (by lia)) (s1 _ _ e)) (zG (s1 _ _ e) M1.rr.at_ (by lia)) (.inl λ_ z=>nomatch z)) ?_ (λ_ z=>.inl z) λ_ z=>z
  exact zeD h1.me M.fg M.fw M.fk M.nr (n2 _ _ wm M1.im) (n2 _ _ wg M1.hg) w2 ⟨_,rr2.at_⟩ wp3 k (ownD (d2.trans dm)) (rr'.eqv (zeE h1.nd hy0)) ndf okf
 ·have hin:rank ∉ lays.map (·.1):=λz=>by
   obtain⟨y,hy,ey⟩:=bE.mp z
   obtain⟨r',gs⟩:=y
   have ey:r'=rank:=ey
   subst ey
   obtain⟨d,v1,_⟩:=KI M1.wp h1.nd hy
   rw[v1] at hv
   cases hv
  have eg:gs=[]:=(ho.resolve_left λz=>hin (bE.mpr ⟨_,z,rfl⟩)).2
  subst eg
  rw[zfV hin] at okf ndf q
  refine zb1 (gs:=[]) MF M1.im hL nL hy cU (λr hr=>nomatch hr) M1.rr M.fk λH' kk' k dm rr'=>?_
  refine q H' F (λb o nf e=>JM M.fk k b o nf (s1 _ _ e)) (λb zs e=>k _ _ (s1 _ _ e) (zG (s1 _ _ e) M1.rr.at_ (by lia)) (.inl λ_ z=>nomatch z)) ?_ (λ_ z=>.inl z) λ_ z=>z
  exact zeD h1.me M.fg M.fw M.fk M.nr M1.im M1.hg M1.hw ⟨_,M1.rr.at_⟩ M1.wp k (ownD dm) (rr'.eqv λp r=>by simp) ndf okf
theorem zeF{rk:ac}{F:ac->Prop}{l:List (Int×List Row)}{P:Pl->Int->Prop}(h:RkAt H rk F P kk)(hp:∀p r,P p r->ZG l p r)(ok:∀y∈l,Wk y.2)(hl:l.length<=300):kk.length<=18900:=by
 have h1:=wG (b:=(l.flatMap λy=>y.2.map (·.1)).map zC) h.nk λx hx=>by
  obtain⟨kv,hkv,rfl⟩:=bE.mp hx
  obtain⟨p,a,rs,rfl,_,_,_,hn,hi⟩:=h.ls kv hkv
  obtain⟨r,hr⟩:∃r,r∈rs:=by
   cases rs with
   |nil=>exact absurd rfl hn
   |cons r _=>exact⟨r,bq⟩
  obtain⟨gs,h2,h3⟩:=hp p r ((hi r).mp hr)
  exact bu (List.mem_flatMap.mpr ⟨_,h2,h3⟩)
 rw[bd,bd] at h1
 have h2:∀l:List (Int×List Row),(∀y∈l,Wk y.2)->(l.flatMap λy=>y.2.map (·.1)).length<=63*l.length:=by
  intro l
  induction l with
  |nil=>intro _;simp
  |cons y l ih =>
   intro ok
   rw[List.flatMap_cons,bw,bd,bR]
   have:=(ok y bq).le
   have:=ih λz hz=>ok z (bn _ hz)
   lia
 have:=h2 l ok
 lia
def lyI(m gv d rk:ac)(rank:Int)(G:ac->Prop)(P:Pl->Int->Prop)(gs:List Row)(H:Hp)(i:Nat)(σ:St)(H':Hp):Prop:=(∃o4,σ=[aa (.ref m),aa (.int rank),aa (.ref gv),aa (.ref d),o4])/\KeepR G rk H H'/\Dm H H'/\∃kk,RkAt H' rk G (λp r=>P p r\/(r=rank/\p∈(gs.take i).map (·.1))) kk
theorem zeG{D:YB}{gv d m dx gr wo rk:ac}{rank low:Int}{G:ac->Prop}{gs:List Row}{l:List (Int×List Row)}{kk:List (List Key×V)}(MF:MkF K t)(hm:H m=aa (.ins t.q02 dx (Yo gr low wo rk)))(hd:H d=aa (.dT (dOf gs)))(dr:d≠rk)(gf:Wk gs)(hr:RkAt H rk G (ZG l) kk)(hno:rank ∉ l.map (·.1))(ok:∀y∈l,Wk y.2)(hl:l.length<=200)(gk:G rk)(gn:∀b,H b=ai->G b)
  (q:∀H' o4 kk',KeepR G rk H H'->(∀b o,H b=aa o->∃o',H' b=aa o')->RkAt H' rk G (λp r=>ZG l p r\/(r=rank/\p∈gs.map (·.1))) kk'->ja K t D [aa (.ref m),aa (.int rank),aa (.ref gv),aa (.ref d),o4] H') :
  jd K t D [aa (.ref m),aa (.int rank),aa (.ref gv),aa (.ref d),ai] H:=by
 have mr:m≠rk:=zG hm hr.at_ (by lia)
 have md:m≠d:=zG hm hd (by lia)
 simp only[jd,zgP,wY,iDT,zO,zm,zp,z5,zb,zc,zk,jG,zT,bV,bj,bz,bC,ao,V.ref.injEq,bT,and_true,and_assoc,ap]
 refine⟨d,_,hd,dOf gs,.inl rfl,λob=>?_⟩
 have f0:upd H d (.frz ob (.dT (dOf gs))) d=aa (.frz ob (.dT (dOf gs))):=zh
 have rr0:RkAt (upd H d (.frz ob (.dT (dOf gs)))) rk G (ZG l) kk:=hr.keep2 (by rw[zi dr.symm]) (λb xs _ e=>by rw[zi (zG e hd (by lia))];exact e) (λ_ z _=>z)
 have hm0:upd H d (.frz ob (.dT (dOf gs))) m=aa (.ins t.q02 dx (Yo gr low wo rk)):=by rw[zi md];exact hm
 have d0:Dm H (upd H d (.frz ob (.dT (dOf gs)))):=Dm.upd λ_ z=>nomatch z
 have back:∀ {H'},KeepR G rk (upd H d (.frz ob (.dT (dOf gs)))) H'->KeepR G rk H (upd H' d (.dT (dOf gs))):=λ{H'} k b o e n z=>by
  by_cases eb:b=d
  ·subst eb;rw[zh,<-hd];exact e
  ·rw[zi eb];exact k b o (by rw[zi eb];exact e) n z
 have gn0:∀b,upd H d (.frz ob (.dT (dOf gs))) b=ai->G b:=λb e=>gn b (by
  by_cases eb:b=d
  ·subst eb;rw[zh] at e;cases e
  ·rw[zi eb] at e;exact e)
 generalize upd H d (.frz ob (.dT (dOf gs)))=H0 at *
 have kd:∀ {H'},KeepR G rk H0 H'->H' d=aa (.frz ob (.dT (dOf gs))):=λ{H'} k=>k _ _ f0 dr (.inl λ_ z=>nomatch z)
 refine⟨ob,dOf gs,f0,za4 (lyI m gv d rk rank G (ZG l) gs H0) ⟨⟨_,rfl⟩,KeepR.refl,Dm.refl,kk,rr0.eqv λp r=>by simp⟩ (λi σ H' ⟨_,k,_⟩=>kd k) ?_ ?_⟩
 ·rintro i k v p σ H' hkv hp ⟨⟨o4,rfl⟩,ke,dm,kk',hr'⟩
  rw[XI gf.nd,bp] at hkv
  obtain⟨r0,hr0,er⟩:=b6.mp hkv
  cases er
  have hm':=ke _ _ hm0 mr (.inl λ_ z=>nomatch z)
  have hnr:r0.1 ∉ (gs.take i).map (·.1):=λz=>by
   obtain⟨j,hj⟩:=cP z
   rw[bp,fO] at hj
   split at hj
   ·rename_i hji
    have a1:(gs.map (·.1))[j]?=aa r0.1:=by rw[bp];exact hj
    have a2:(gs.map (·.1))[i]?=aa r0.1:=by rw[bp,hr0];rfl
    have:=(gg (bf.mp a1).1 gf.nd).mp (a1.trans a2.symm)
    lia
   ·cases hj
  have hPi:∀p r,((ZG l p r\/(r=rank/\p∈(gs.take i).map (·.1)))\/(r=rank/\p=r0.1))↔(ZG l p r\/(r=rank/\p∈(gs.take (i+1)).map (·.1))):=λp r=>by
   rw[dU,hr0,bM,bx]
   have:p∈cQ (·.1) (aa r0).toList↔p=r0.1:=by simp
   rw[this,and_or_left,or_assoc]
  have hnP:¬ (ZG l r0.1 rank\/(rank=rank/\r0.1∈(gs.take i).map (·.1))):=λz=>z.elim (λ⟨g2,h2,_⟩=>hno (bE.mpr ⟨_,h2,rfl⟩)) λy=>hnr y.2
  have kl:kk'.length<=18900:=zeF (l:=(rank,gs)::l) hr' (λp r z=>z.elim (λ⟨g2,h2,h3⟩=>⟨g2,bn _ h2,h3⟩) λ⟨e,h3⟩=>⟨gs,by rw[e];exact bq,(by
   obtain⟨x,hx,rfl⟩:=bE.mp h3
   exact bu (dt hx))⟩) (λy hy=>by
   rcases bD.mp hy with rfl|hy
   ·exact gf
   ·exact ok y hy) (by rw[bR];lia)
  have gn1:∀b,H' b=ai->G b:=λb e=>gn0 b (by
   cases e0:H0 b with
   |none=>rfl
   |some o=>obtain⟨o',e',_⟩:=dm b o e0;rw[e] at e';cases e')
  have hrl:∀rs:List Int,rs.Pairwise (· < ·)->(∀r∈rs,ZG l r0.1 r\/(r=rank/\r0.1∈(gs.take i).map (·.1)))->rs.length<=300:=λrs hs hall=>by
   have rl:rs.length<=((rank,gs)::l).length:=zha (p:=r0.1) hs λr hr=>(hall r hr).elim (λ⟨g2,h2,h3⟩=>⟨g2,bn _ h2,h3⟩) λy=>absurd y.2 hnr
   rw[bR] at rl
   lia
  simp only[bj,bz,bC,ao,V.int.injEq,V.ref.injEq,cC,cO]
  exact⟨_,_,_,hm',MF.cl,MF.r,_,zfT,rk,rfl,G,_,kk',hr',gk,gn1,r0.1,hp,hnP,kl,hrl,λH2 kk2 k2 d2 r2=>⟨⟨_,rfl⟩,ke.trans k2,dm.trans d2,kk2,r2.eqv hPi⟩⟩
 ·rintro σ H' ⟨⟨o4,rfl⟩,ke,dm,kk',hr'⟩
  rw[XI gf.nd,bd,eR] at hr'
  have D2:Dm H (upd H' d (.dT (dOf gs))):=(d0.trans dm).trans (Dm.upd λ_ z=>nomatch z)
  refine⟨kd ke,q _ o4 kk' (back ke) (λb o e=>let ⟨o',e',_⟩:=D2 b o e;⟨o',e'⟩) (hr'.keep2 (by rw[zi dr.symm]) (λb xs _ e=>by rw[zi (zG e (kd ke) (by lia))];exact e) (λ_ z _=>z))⟩
theorem zeH{m gv:ac}{rank low:Int}{F:ac->Prop}{g:List Row}{lays:List (Int×List Row)}{gs:List Row}(MF:MkF K t)(h1:MrAt t H m F g lays low)(h2:low<=rank)(h20:0<=rank)(h3:LsAt H gv gs)(hgv:¬ F gv)(h4:Wk gs)(h5:lays.length<=200)(q:∀H' F',(∀b o,¬ F b->H b=aa o->H' b=aa o)->(∀b zs,H b=aa (.tup zs)->H' b=aa (.tup zs))->MrAt t H' m F' g (kj lays rank gs) low->(∀b,F' b->F b\/H b=ai)->(∀b,F b->F' b)->Q .non H') :
  vJ K t (qqN Q) (L2.start ["self","rank","gifts","worths","place"] [.ref m,.int rank,.ref gv]) H:=by
 simp only[vJ,yL,y6,QO,zW,L2.start,zm,zL,zp,z5,zb,zc,zk,tCB,cQ,bY,cg,cE,cX,bV,bj,bz,bC,ao,V.int.injEq,V.ref.injEq,bT,and_true,and_assoc,ap,cC,cO,cB,cp]
 obtain⟨dx,gr,wo,rk,wk,kk,M⟩:=h1.ex
 refine⟨_,_,M.im,ki (by lia),_,_,M.im,_,zhK,h2,λH1 s1=>?_⟩
 have M1:=h1.keep (H':=H1) λb o _ e=>s1 _ _ e
 refine⟨_,_,s1 _ _ M.im,ki (by lia),F,g,lays,low,M1,λH2 F2 fr2 ts2 m2 ff2 fs2=>?_⟩
 clear M wk kk gr wo rk dx
 obtain⟨xs,hx,hp⟩:=h3
 have hx2:=fr2 _ _ hgv (s1 _ _ hx)
 have hp2:Paired (PrAt H2) xs gs:=Paired.mapP hp λ_ _ ⟨r,p,e,e1,e2⟩=>⟨r,p,e,ts2 _ _ (s1 _ _ e1),ts2 _ _ (s1 _ _ e2)⟩
 refine⟨xs,hx2,gs,hp2,by have:=h4.le;lia,λd hd=>?_⟩
 obtain⟨H3,eH,s3,q3⟩:=zbk (o:=HO.dT (dOf gs)) hd
 rw[<-eH];clear eH
 obtain⟨dx,gr,wo,rk,wk,kk,M2⟩:=m2.ex
 have M3:=M2.keep m2.me λb o _ e=>s3 _ _ e
 have ndF:¬ F2 d:=λz=>by obtain⟨o,e⟩:=m2.own d z;rw[hd] at e;cases e
 have dr:d≠rk:=λz=>ndF (by rw[z];exact M2.fk)
 have hl:(VN lays rank).length<=200:=bK (mY _ _) h5
 have fresh:∀b,H2 b=ai->H b=ai:=λb e=>by
  cases e2:H b with
  |none=>rfl
  |some o =>
   exfalso
   by_cases fb:F b
   ·obtain⟨o',e'⟩:=m2.own b (fs2 b fb);rw[e] at e';cases e'
   ·have:=fr2 _ _ fb (s1 _ _ e2);rw[e] at this;cases this
 refine zeG (G:=λb=>F2 b\/H2 b=ai) MF M3.im q3 dr h4 (M3.rr.keep (F':=λb=>F2 b\/H2 b=ai) M3.fk (λb o _ e=>e) (λ_ z=>.inl z)) Vm (λy hy=>(m2.ok y hy).2) hl (.inl M2.fk) (λb e=>.inr (zH s3 e)) λH4 o4 kk' ke dm rr4=>?_
 have im4:=ke _ _ M3.im (zG M3.im M3.rr.at_ (by lia)) (.inl λ_ z=>nomatch z)
 have hw4:=ke _ _ M3.hw (zG M3.hw M3.rr.at_ (by lia)) (.inl λ_ z=>nomatch z)
 have hg4:=ke _ _ M3.hg M3.nr (.inl λ_ z=>nomatch z)
 have hd4:=ke _ _ q3 dr (.inl λ_ z=>nomatch z)
 have wl:wk.length<=200:=by rw[bL M2.wp];exact hl
 simp only[ja,jZ,zO,zb,bj,bz,bC,ao,V.ref.injEq,ap]
 refine⟨_,_,_,im4,MF.cl,MF.w,_,zfS,wo,rfl,_,(.k (k:=.inl rank) hw4 (by rw[bS];lia)),?_⟩
 rw[vQ _ (KJ M3.wp Vm)]
 have mw:m≠wo:=zG im4 hw4 (by lia)
 have gw:gr≠wo:=zG hg4 hw4 (by lia)
 have rw_:rk≠wo:=zG rr4.at_ hw4 (by lia)
 have dw:d≠wo:=zG hd4 hw4 (by lia)
 have n5:∀b o,b≠wo->H4 b=aa o->upd H4 wo (HO.dK (wk++[(.inl rank,V.ref d)])) b=aa o:=λb o n e=>by rw[zi n];exact e
 have w5:upd H4 wo (HO.dK (wk++[(.inl rank,V.ref d)])) wo=aa (HO.dK (wk++[(.inl rank,V.ref d)])):=zh
 have dm5:∀b o,H3 b=aa o->∃o',upd H4 wo (HO.dK (wk++[(.inl rank,V.ref d)])) b=aa o':=λb o e=>by
  by_cases eb:b=wo
  ·subst eb;exact⟨_,w5⟩
  ·obtain⟨o',e'⟩:=dm b o e;exact⟨o',n5 _ _ eb e'⟩
 generalize upd H4 wo (HO.dK (wk++[(.inl rank,V.ref d)]))=H5 at *
 refine q H5 (λb=>F2 b\/(H2 b=ai/\∃o,H5 b=aa o)) (λb o nf e=>?_) (λb zs e=>?_) ?_ (λb z=>?_) λb z=>.inl (fs2 b z)
 ·have e2:=fr2 _ _ nf (s1 _ _ e)
  have nf2:¬ F2 b:=λz=>(ff2 b z).elim nf λy=>by rw[s1 _ _ e] at y;cases y
  have nr:b≠rk:=λz=>nf2 (by rw[z];exact M2.fk)
  have nw:b≠wo:=λz=>nf2 (by rw[z];exact M2.fw)
  exact n5 _ _ nw (ke _ _ (s3 _ _ e2) nr (.inr λz=>z.elim nf2 λy=>by rw[e2] at y;cases y))
 ·have e2:=s3 _ _ (ts2 _ _ (s1 _ _ e))
  have e4:=ke _ _ e2 (zG e2 M3.rr.at_ (by lia)) (.inl λ_ z=>nomatch z)
  exact n5 _ _ (zG e4 hw4 (by lia)) e4
 ·refine⟨λb z=>z.elim (λf=>let ⟨o,e⟩:=m2.own b f;dm5 b o (s3 _ _ e)) λy=>y.2,.inl m2.me,?_,?_,dx,gr,wo,rk,_,kk',n5 _ _ mw im4,.inl M2.fg,.inl M2.fw,.inl M2.fk,M2.nr,n5 _ _ gw hg4,w5,?_,?_⟩
  ·unfold kj
   rw[bM,dH]
   refine⟨m2.nd,by simp,λx hx y hy=>?_⟩
   have:y=rank:=by simpa using hy
   rw[this]
   exact λz=>Vm (l:=lays) (r:=rank) (by have h:=hx;rw[z] at h;exact h)
  ·intro y hy
   rcases bx.mp hy with hy|hy
   ·exact m2.ok y hy
   ·rw[br.mp hy];exact⟨h20,h4⟩
  ·refine Paired.snocP (Paired.mapP M3.wp λ_ _ ⟨e,d',e2,fd,nd',hd'⟩=>?_) ⟨rfl,d,rfl,.inr ⟨hd,_,n5 _ _ dw hd4⟩,dr,n5 _ _ dw hd4⟩
   have e4:=ke _ _ hd' nd' (.inl λ_ z=>nomatch z)
   exact⟨e,d',e2,.inl fd,nd',n5 _ _ (zG e4 hw4 (by lia)) e4⟩
  ·refine(rr4.keep2 (F':=λb=>F2 b\/(H2 b=ai/\∃o,H5 b=aa o)) ((n5 _ _ rw_ rr4.at_).trans rr4.at_.symm) (λb xs _ e=>n5 _ _ (zG e hw4 (by lia)) e) (λb z ex=>z.imp id λy=>⟨y,ex⟩)).eqv λp r=>?_
   unfold kj
   constructor
   ·rintro(⟨g2,h6,h7⟩|⟨rfl,h7⟩)
    ·exact⟨g2,cz _ h6,h7⟩
    ·exact⟨gs,bI _ (br.mpr rfl),h7⟩
   ·rintro⟨g2,h6,h7⟩
    rcases bx.mp h6 with h6|h6
    ·exact .inl ⟨g2,h6,h7⟩
    ·cases br.mp h6
     exact .inr ⟨rfl,h7⟩
 ·rcases z with z|z
  ·exact(ff2 b z).imp id λy=>zH s1 y
  ·exact .inr (fresh b z.1)
theorem VX{m gv:ac}{rank:Int}{F:ac->Prop}{g:List Row}{lays:List (Int×List Row)}{gs:List Row}(MF:MkF K t)(h1:MkAt t H m F g lays)(h2:0<=rank)(h3:LsAt H gv gs)(hgv:¬ F gv)(h4:Wk gs)(h5:lays.length<=200)(q:∀H' F',(∀b o,¬ F b->H b=aa o->H' b=aa o)->(∀b zs,H b=aa (.tup zs)->H' b=aa (.tup zs))->MkAt t H' m F' g (kj lays rank gs)->(∀b,F' b->F b\/H b=ai)->(∀b,F b->F' b)->Q .non H') :
  vJ K t (qqN Q) (L2.start ["self","rank","gifts","worths","place"] [.ref m,.int rank,.ref gv]) H:=zeH MF h1 h2 h2 h3 hgv h4 h5 q
theorem zeI{H:Hp}(hp:H p=ai)(hx:∃u,H x=aa u):∃H',H'=upd (upd H p o) x o2/\H' x=aa o2/\H' p=aa o/\(∀b u,b≠x->H b=aa u->H' b=aa u)/\(∀b,H' b=ai->H b=ai):=by
 have px:p≠x:=λz=>by obtain⟨u,e⟩:=hx;rw[<-z,hp] at e;cases e
 refine⟨_,rfl,zh,by rw[zi px];exact zh,λb u n e=>by rw[zi n];exact isV p hp _ _ e,λb e=>?_⟩
 by_cases eb:b=x
 ·subst eb;rw[zh] at e;cases e
 ·rw[zi eb] at e
  exact zH (isV p hp) e
theorem pf2 :xI (bc "folded") (V.int 0) [(bc "ground",v)]=[(bc "ground",v),(bc "folded",V.int 0)]:=by
 have h:bc "ground"≠bc "folded":=by lia
 simp only[xI,aj h]
theorem pf3 :xI (bc "worths") w [(bc "ground",v),(bc "folded",V.int 0)]=[(bc "ground",v),(bc "folded",V.int 0),(bc "worths",w)]:=by
 have h:bc "ground"≠bc "worths":=by lia
 have h2:bc "folded"≠bc "worths":=by lia
 simp only[xI,aj h,aj h2]
theorem pf4 :xI (bc "ranks") r [(bc "ground",v),(bc "folded",V.int 0),(bc "worths",w)]=[(bc "ground",v),(bc "folded",V.int 0),(bc "worths",w),(bc "ranks",r)]:=by
 have h:bc "ground"≠bc "ranks":=by lia
 have h2:bc "folded"≠bc "ranks":=by lia
 have h3:bc "worths"≠bc "ranks":=by lia
 simp only[xI,aj h,aj h2,aj h3]
theorem Vn{vs:List V}{_E:XK}(MF:MkF K t)(h:jN t vs H Q _E) :
  jQ K t (qqN Q) (L2.start ["self","table"] vs) H:=by
 obtain⟨x,h,dx,rows,rfl,h1,h2,h3,q⟩:=h
 obtain⟨xs,hx,hp⟩:=h2
 simp only[jQ,kK,QO,xF,L2.start,zm,zb,tC,zc,zk,tCB,Z8,cQ,bY,cg,bV,bj,bz,bC,ao,V.ref.injEq,bT,and_true,ap,cB,cp]
 refine⟨xs,hx,rows,hp,by have:=h3;lia,λgr hgr=>?_⟩
 have s1:=isV (o:=HO.dT (dOf rows)) gr hgr
 refine⟨_,_,_,s1 _ _ h1,MF.cl,MF.g,by lia,?_⟩
 rw[show xI (bc "ground") (V.ref gr) []=[(bc "ground",V.ref gr)] from rfl]
 refine⟨_,_,_,zh,MF.cl,MF.f,(by show 1<1000;decide),?_⟩
 rw[pf2,Yz]
 obtain⟨H2,eH,x2,g2,n2,f2⟩:=zeI (o:=HO.dT (dOf rows)) (o2:=HO.ins t.q02 dx [(bc "ground",V.ref gr),(bc "folded",V.int 0)]) hgr ⟨_,h1⟩
 rw[<-eH];clear eH
 intro wo hwo
 have s3:=isV (o:=HO.dK []) wo hwo
 refine⟨_,_,_,s3 _ _ x2,MF.cl,MF.w,(by show 2<1000;decide),?_⟩
 rw[pf3]
 obtain⟨H4,eH,x4,w4,n4,f4⟩:=zeI (o:=HO.dK []) (o2:=HO.ins t.q02 dx [(bc "ground",V.ref gr),(bc "folded",V.int 0),(bc "worths",V.ref wo)]) hwo ⟨_,x2⟩
 rw[<-eH];clear eH
 intro rk hrk
 have s5:=isV (o:=HO.dT []) rk hrk
 refine⟨_,_,_,s5 _ _ x4,MF.cl,MF.r,(by show 3<1000;decide),?_⟩
 rw[pf4]
 obtain⟨H6,eH,x6,r6,n6,f6⟩:=zeI (o:=HO.dT []) (o2:=HO.ins t.q02 dx [(bc "ground",V.ref gr),(bc "folded",V.int 0),(bc "worths",V.ref wo),(bc "ranks",V.ref rk)]) hrk ⟨_,x4⟩
 rw[<-eH];clear eH
 have gx:gr≠x:=zG g2 x2 (by lia)
 have wx:wo≠x:=zG w4 x4 (by lia)
 have g4:=n4 _ _ gx g2
 have g6:=n6 _ _ gx g4
 have w6:=n6 _ _ wx w4
 have gk:gr≠rk:=λz=>by rw[z,hrk] at g4;cases g4
 refine q H6 (λb=>b=x\/b=gr\/b=wo\/b=rk) (λb o n e=>n6 _ _ n (n4 _ _ n (n2 _ _ n e))) ?_ λb z=>?_
 ·refine⟨λb z=>?_,.inl rfl,cU,λ_ h=>(nomatch h),dx,gr,wo,rk,[],[],x6,.inr (.inl rfl),.inr (.inr (.inl rfl)),.inr (.inr (.inr rfl)),gk,g6,w6,.nil,r6,cU,cU,λ_ h=>(nomatch h),λp r ⟨_,h,_⟩=>(nomatch h)⟩
  rcases z with rfl|rfl|rfl|rfl
  ·exact⟨_,x6⟩
  ·exact⟨_,g6⟩
  ·exact⟨_,w6⟩
  ·exact⟨_,r6⟩
 ·rcases z with rfl|rfl|rfl|rfl
  ·exact .inl rfl
  ·exact .inr hgr
  ·exact .inr (f2 _ hwo)
  ·exact .inr (f2 _ (f4 _ hrk))
theorem Vo(p:Pl)(rank:Int)(y:Int×List Row):∀(l:List (Int×List Row)) (s:Int×Int),wD p rank (l++[y]) s=(if (wD p rank l s).1<y.1/\y.1<rank then Vg p y.1 y.2 (wD p rank l s) else wD p rank l s)
 |[],s=>rfl
 |a::t,s=>by rw[cE,wD,Vo p rank y t,wD]
theorem ym{σ:St}{i:Nat}{x C dx:ac}{fs:List (Str×V)}{f:Str}{R:V->Prop}(h1:H x=aa (.ins C dx fs))(c:Cls K C)(n:NoAttr K C f)(h0:σ[i]?=aa (aa (.ref x)))(hv:fs.lookup f=aa v)(q:R v):∃y,σ[i]?=aa (aa y)/\∃a C dx fs v,y=.ref a/\H a=aa (.ins C dx fs)/\Cls K C/\NoAttr K C f/\fs.lookup f=aa v/\R v:=⟨_,h0,x,C,dx,fs,v,rfl,h1,c,n,hv,q⟩
theorem Wr{σ:St}{i:Nat}{x C dx:ac}{fs:List (Str×V)}{R:V->Prop}(h1:H x=aa (.ins C dx fs))(h0:σ[i]?=aa (aa (.ref x)))(hv:fs.lookup m=ai)(q:R (.ref x)):∃y,σ[i]?=aa (aa y)/\∃a dx fs,y=.ref a/\H a=aa (.ins C dx fs)/\fs.lookup m=ai/\R y:=⟨_,h0,x,dx,fs,rfl,h1,hv,q⟩
theorem zhb{P U:Prop}(f:U->P)(u:U):P:=f u
theorem ya{P R:Prop}(h:b=ak)(r:R):if b=af then P else R:=by rw[aj (by rw[h];decide)];exact r
theorem yY{P R:Prop}(h:b=af)(p:P):if b=af then P else R:=by rw[am h];exact p
theorem mB{i j:Int}(a:-10000000000000000000000000000000000000000000000<i)(b:i<10000000000000000000000000000000000000000000000)(c:-10000000000000000000000000000000000000000000000<j)(d:j<10000000000000000000000000000000000000000000000):CMulB i j:=by
 have hb:(10000000000000000000000000000000000000000000000:Int)<big:=by lia
 exact⟨⟨by lia,by lia⟩,by lia,by lia⟩
def drI(c:Int)(m:Nat)(l:ac)(H0:Hp)(i:Nat)(σ:St)(H:Hp):Prop:=∃(ds:List Int) (x y:Int),(∃o5,σ=[aa (.int c),aa (.int (m:Nat)),aa (.ref l),aa (.int x),aa (.int y),o5])/\Same H0 H/\H l=aa (.lst (ds.map V.int))/\ds.length=i/\(∀d∈ds,okD d)/\0<=x/\x<1000100/\0<=y/\y<1000100
theorem mS{i j:Int}(a:0<=i)(b:i<1000100)(c:0<=j)(d:j<1000100):CMulB i j:=mB (by lia) (by lia) (by lia) (by lia)
theorem KM{k:Int}(h0:σ[i]?=aa (aa (.ref p)))(h1:H p=aa (.lst xs))(h2:atI xs k=aa v)(q:Q v H):tOp (yt K) (zb i) (tC (.int k)) σ H Q:=⟨_,h0,p,xs,k,v,rfl,rfl,SqL.of h1,h2,q⟩
theorem KN{σ:St}{te:TE}{y n:Int}(he:∀Q:VK,Q (.int y) H->te σ H Q)(hn:0<n)(q:∀k,0<=k->k<n->Q (.int k) H):tOp (rI (λ_ j=>0<j) λi j=>.int (i%j)) te (tC (.int n)) σ H Q:=he _ ⟨_,_,rfl,rfl,hn,q _ (cN _ (by lia)) (cy _ hn)⟩
theorem Vp{vs:List V}{_E:XK}(h:xa vs H Q _E) :
  ZQ K t (qqN Q) (L2.start ["cell","many","found","one","two","k"] vs) H:=by
 obtain⟨c,m,rfl,hm,q⟩:=h
 refine⟨by lia,λl hl=>?_⟩
 generalize c_:upd H l _=H0
 obtain⟨s0,e0⟩:=xk c_ hl
 unfold zm zL zp
 show tOp (rI (λ_ j=>0<j) λi j=>.int (i%j)) (zb 0) (tC (.int 1000003)) _ _ _
 refine KN (λ_ q=>⟨_,rfl,q⟩) (by lia) λx0 a1 a2=>⟨_,_,rfl,rfl,?_⟩
 show tOp (rI (λ_ j=>0<j) λi j=>.int (i%j)) (tOp (rI yu λi j=>.int (i/j)) (zb 0) (tC (.int 1000003))) (tC (.int 999983)) _ _ _
 refine KN (λ_ q=>⟨_,rfl,_,_,rfl,rfl,dB,q⟩) (by lia) λy0 a3 a4=>⟨_,_,rfl,rfl,?_⟩
 refine⟨_,rfl,m,rfl,by lia,by lia,Z9 (drI c m l H) ⟨[],x0+17,y0+29,⟨_,rfl⟩,s0,e0,rfl,(λd z=>nomatch z),by lia,by lia,by lia,by lia⟩ ?_ ?_⟩
 ·rintro i σ H1 hi ⟨ds,x,y,⟨o5,rfl⟩,s1,h1,li,od,x0,x1,y0,y1⟩
  have hi:i<m:=by lia
  show tOp _ _ (tC (.int 1000003)) _ _ _
  refine KN (λ_ q=>⟨_,rfl,_,rfl,_,_,rfl,rfl,mS x0 x1 x0 x1,_,rfl,_,_,rfl,rfl,mS (by lia) (by lia) y0 y1,_,_,rfl,rfl,_,rfl,_,_,rfl,rfl,q⟩) (by lia) λx' n1 n2=>?_
  have n2':x'<1000100:=by lia
  dsimp only
  refine KN (λ_ q=>⟨_,rfl,_,rfl,_,_,rfl,rfl,mS y0 y1 n1 n2',_,rfl,_,_,rfl,rfl,mS (by lia) (by lia) n1 n2',_,_,rfl,rfl,_,_,rfl,rfl,q⟩) (by lia) λy' n3 n4=>?_
  have n4':y'<1000100:=by lia
  refine⟨_,rfl,.inl ⟨rfl,_,SqL.of h1⟩,_,rfl,_,_,rfl,rfl,mS n1 n2' (by lia) (by lia),_,rfl,_,_,rfl,rfl,l,_,_,rfl,rfl,h1,bU (by rw[bd];lia:_<=63) (by lia),ds++[x'*999983+y'],x',y',⟨_,rfl⟩,yz s1 hl,by rw[bM];exact zh,by rw[bw,li];rfl,λd hd=>?_,n1,n2',n3,n4'⟩
  rcases bx.mp hd with hd|hd
  ·exact od d hd
  ·rw[br.mp hd]
   exact⟨by lia,by lia⟩
 ·rintro σ H1 ⟨ds,x,y,⟨o5,rfl⟩,s1,h1,li,od,_⟩
  exact⟨_,rfl,q l ds H1 s1 hl h1 (by simpa using li) od⟩
theorem zhc{n:Int}:inW (n*1000000021000000147000000343%2000000000000000000000000000001-1000000000000000000000000000000)=af:=by
 have g1:=cN (n*1000000021000000147000000343) (b:=2000000000000000000000000000001) (by lia)
 have g2:=cy (n*1000000021000000147000000343) (b:=2000000000000000000000000000001) (by lia)
 exact inW_iff.mpr (by lia)
theorem Ws{vs:List V}{_E:XK}(h:yX vs H Q _E) :
  v6 K t (qqN Q) (L2.start ["number"] vs) H:=by
 obtain⟨n,rfl,h1,h2,q⟩:=h
 simp only[v6,L2.start,zm,zJ,zK,tOp,zb,tC,zQ,zB,rEq,rI,rI0,zci,cQ,bY,cg,bV,bj,bC,ao,V.int.injEq,V.bl.injEq,true_and,ap,cB,cp,decide_eq_true_eq,Int.reduceToNat,Int.reducePow,Int.reduceMul,Int.reduceAdd]
 have P3:=zes (j:=30) (by lia) (by lia)
 refine⟨by lia,xv (λ_=>⟨⟨by lia,by lia,by lia⟩,mB (by lia) (by lia) (by lia) (by lia),P3,mB (by lia) (by lia) (by lia) (by lia),by lia,P3,q _ _ zhc (Same.refl _)⟩) λ_=>⟨dB,by lia,q _ _ (inW_iff.mpr (by lia)) (Same.refl _)⟩⟩
theorem zfX:∀v∈jw++wl,(match v with|.str w=>yJ (w++bc "z")|_=>ak)=af:=by lia
theorem zfY(h:smW w)(n1:inV (.str w) jw=ak)(n2:inV (.str w) wl=ak):yJ w=af:=by
 obtain⟨h1,h2,h3⟩:=h
 have ne:decide (w="")=ak:=Bk λz=>by rw[z] at h1;exact absurd h1 (by lia)
 have nl:decide (6<w.length)=ak:=Bk (by lia)
 unfold yJ
 unfold YT at h3
 rw[n1,n2,h3,ne,nl];rfl
theorem zhL(h:inV (.str w) (jw++wl)=af):yJ (w++bc "z")=af:=by
 unfold inV at h
 obtain⟨v,hv,e⟩:=iH.mp h
 have z:=zfX v hv
 cases v <;> simp only[eqV,cx] at e
 rename_i y
 have e':y=w:=by simpa using e
 subst e'
 exact z
theorem zb2 :inV v (a++b)=(inV v a || inV v b):=by unfold inV;rw[List.any_append]
theorem Ys{vs:List V}{_E:XK}(h:yi vs H Q _E) :
  wf K t (qqN Q) (L2.start ["word"] vs) H:=by
 obtain⟨w,rfl,h,q⟩:=h
 simp only[wf,L2.start,zm,zJ,zK,tOp,zb,tC,yP,zc,zk,zQ,zB,rIn,WT,cQ,bY,cg,bV,bj,bC,ao,V.ref.injEq,V.str.injEq,V.bl.injEq,ap,cB,cp,cx,ite_false]
 obtain⟨h1,h2,_⟩:=id h
 refine⟨by lia,λp hp=>⟨wl,.inr (SqT.of zh),rfl,by lia,?_⟩⟩
 have s1:=isV (o:=HO.tup wl) p hp
 have z1:(bc "z").length=1:=by lia
 refine xv (λc=>⟨y8 (by lia),q _ _ (zhL (by rw[zb2,c,Bool.or_true])) s1⟩) λc=>⟨by lia,λp2 hp2=>⟨jw,.inr (SqT.of zh),rfl,by lia,?_⟩⟩
 have s2:=s1.trans (isV (o:=HO.tup jw) p2 hp2)
 exact xv (λc2=>⟨y8 (by lia),q _ _ (zhL (by rw[zb2,c2,Bool.true_or])) s2⟩) λc2=>q _ _ (zfY h (by simpa using c2) (by simpa using c)) s2
section
variable {n:Int}{a:ac}{ws:List Str}{x:Str}
theorem zeJ{k:Int}(h:okD n)(hk:0<k):okD (n/k):=by
 obtain⟨a,b⟩:=h
 have h1:=Int.ediv_nonneg a (Int.le_of_lt hk)
 have h2:=Int.ediv_le_self (a:=n) k a
 exact⟨h1,by lia⟩
theorem lx(h:yJ x=af):TermOk [.str x]/\tmP [.str x]:=Y3 (.inr ⟨x,rfl,h⟩)
theorem KO{σ:St}{j:Nat}{te:TE}{r:Int}(h3:NamesAt H a ws)(h4:ws.length=2)(h0:σ[j]?=aa (aa (.ref a)))(ht:∀Q:VK,Q (.int r) H->te σ H Q)(hq:∀x,yJ x=af->Q (.str x) H):tOp (yt K) (zb j) (tOp (rI (λ_ j=>0<j) λi j=>.int (i%j)) te (tC (.int 2))) σ H Q:=by
 obtain⟨x,hx,_,nx⟩:=zao h3 2 h4 (by lia) r
 exact⟨_,h0,ht _ ⟨_,_,rfl,rfl,(by lia:(0:Int)<2),_,_,_,_,rfl,rfl,SqL.of h3.1,hx,hq x nx⟩⟩
theorem zaq{k:Int}(d:yu n k)(h0:σ[0]?=aa (aa (.int n)))(Q:VK)(q:Q (.int (n/k)) H):tOp (rI yu λi j=>.int (i/j)) (zb 0) (tC (.int k)) σ H Q:=⟨_,h0,_,_,rfl,rfl,d,q⟩
theorem tm3(a:TermOk [u]/\tmP [u])(b:TermOk [v]/\tmP [v])(j:wdJ w):TermOk [u,v,.str w]/\tmP [u,v,.str w]:=⟨JK a.1 b.1 j (by simp),zbY a.2 b.2 j⟩
theorem VY{vs:List V}{_E:XK}(h:qb vs H Q _E) :
  qk K t (qqN Q) (L2.start ["number","slots","kind"] vs) H:=by
 obtain⟨n,a,ws,rfl,h1,h3,h4,q⟩:=h
 have jw1:wdJ (bc "over"):=⟨by lia,by lia,by lia⟩
 have jw2:wdJ (bc "rest"):=⟨by lia,by lia,by lia⟩
 unfold qk zm zQ Qe zL
 refine KN (λ_ q=>⟨_,rfl,q⟩) (by lia) λk k0 k1=>?_
 have fin:∀ {e:List V} {H1:Hp},Same H H1->e.length<=3->TermOk e/\tmP e->e.length<=Bb/\∀p,H1 p=ai->Q (.ref p) (upd H1 p (.tup e)):=λs l h=>⟨bK l (by lia),λp hp=>q p _ _ (s.trans (isV p hp)) (zH s hp) zh h.1 h.2⟩
 refine⟨_,rfl,_,_,rfl,rfl,_,rfl,xv (λ_=>KN (zaq dB rfl) (by lia) λk k0 k1=>fin (Same.refl _) (by lia:1<=3) (Y3 (.inl ⟨_,rfl,inW_iff.mpr (by lia)⟩))) λ_=>⟨_,rfl,rfl,_,rfl,xv (λ_=>KO h3 h4 rfl (zaq dB rfl) λx nx=>fin (Same.refl _) (by lia:1<=3) (lx nx)) λ_=>?_⟩⟩
 refine zhb (λU=>⟨_,rfl,rfl,_,rfl,xv (λ_=>⟨_,rfl,_,_,rfl,rfl,dB,_,_,rfl,rfl,(by lia:(0:Int)<3),rfl,_,rfl,xv (λ_=>KO h3 h4 rfl (zaq dB rfl) λx nx=>fin (Same.refl _) (bi 3) (tm3 (Y3 (.inl ⟨7,rfl,by lia⟩)) (lx nx) jw1)) λ_=>U⟩) λ_=>U⟩) ?_
 have o:=zeJ (k:=5) h1 (by lia)
 exact⟨_,rfl,rfl,_,rfl,xv (λ_=>KO h3 h4 rfl (zaq dB rfl) λx nx=>fin (Same.refl _) (bi 3) (tm3 (lx nx) (Y3 (.inl ⟨3,rfl,by lia⟩)) jw2)) λ_=>⟨_,rfl,_,_,rfl,rfl,dB,_,rfl,o.1,o.2,λw H' hw s=>fin s (by lia:1<=3) (Y3 (.inl ⟨_,rfl,hw⟩))⟩⟩
def tw8:List V:=[V.str (bc "plus"),V.str (bc "minus"),V.str (bc "times"),V.str (bc "over"),V.str (bc "rest"),V.str (bc "under"),V.str (bc "same")]
theorem zhd{i:Int}(h0:0<=i)(h1:i<7):∃w:Str,atI tw8 i=aa (.str w)/\wdJ w:=by
 obtain⟨x,hx,hm⟩:=zag (xs:=tw8) (i:=i) h0 h1
 unfold tw8 at hm
 simp only[bD,pb,or_false] at hm
 rcases hm with rfl|rfl|rfl|rfl|rfl|rfl|rfl <;> exact⟨_,hx,by lia,by lia,by lia⟩
theorem VZ{vs:List V}{_E:XK}(h:vI vs H Q _E) :
  ql K t (qqN Q) (L2.start ["number","slots","words","kind"] vs) H:=by
 obtain⟨n,a,ws,rfl,h1,h3,h4,q⟩:=h
 have fin:∀ {e:List V} {H1:Hp},Same H H1->e.length<=3->TermOk e/\tmP e->e.length<=Bb/\∀p,H1 p=ai->Q (.ref p) (upd H1 p (.tup e)):=λs l h=>⟨bK l (by lia),λp hp=>q p _ _ (s.trans (isV p hp)) (zH s hp) zh h.1 h.2⟩
 unfold ql zm zQ zL
 refine⟨(by lia:7<=Bb),λl hl=>?_⟩
 generalize c_:upd H l _=H0
 obtain⟨s0,e0⟩:=xk c_ hl
 have e0:H0 l=aa (.lst tw8):=e0
 have h3:=h3.same s0
 have o:=zeJ (k:=9) h1 (by lia)
 have o':=zeJ (k:=36) h1 (by lia)
 refine KN (σ:=[aa (.int n),aa (.ref a),aa (.ref l),ai]) (te:=zb 0) (n:=9) (λ_ q=>⟨_,rfl,q⟩) (by lia) λk k0 k1=>?_
 refine⟨_,rfl,rfl,_,rfl,xv (λ_=>⟨_,rfl,_,_,rfl,rfl,dB,_,rfl,o.1,o.2,λw H' hw s=>fin (s0.trans s) (by lia:1<=3) (Y3 (.inl ⟨_,rfl,hw⟩))⟩) λz0=>⟨_,rfl,rfl,_,rfl,xv (λ_=>KO h3 h4 rfl (zaq dB rfl) λx nx=>fin s0 (by lia:1<=3) (lx nx)) λz1=>?_⟩⟩
 have z0:k≠0:=λe=>z0 (Bj (congrArg V.int e))
 have z1:k≠1:=λe=>z1 (Bj (congrArg V.int e))
 obtain⟨y,hy,jy⟩:=zhd (i:=k-2) (by lia) (by lia)
 exact⟨_,rfl,_,_,rfl,rfl,dB,_,_,rfl,rfl,(by lia:(0:Int)<2),rfl,_,rfl,xv (λ_=>KO h3 h4 rfl (zaq dB rfl) λx nx=>⟨_,rfl,_,_,rfl,rfl,dB,_,rfl,o'.1,o'.2,λw H' hw s=>⟨_,rfl,_,rfl,_,_,rfl,rfl,_,_,_,_,rfl,rfl,SqL.of (s _ _ e0),hy,fin (s0.trans s) (bi 3) (tm3 (lx nx) (Y3 (.inl ⟨_,rfl,hw⟩)) jy)⟩⟩) λ_=>KO h3 h4 rfl (zaq dB rfl) λx nx=>KO h3 h4 rfl (zaq dB rfl) λz nz=>⟨_,rfl,_,rfl,_,_,rfl,rfl,_,_,_,_,rfl,rfl,SqL.of e0,hy,fin s0 (bi 3) (tm3 (lx nx) (lx nz) jy)⟩⟩
end
def abc:Str:="abcdefghijklmnopqrstuvwxyz"
theorem zhe:∀c∈abc.cps.toList,inL c=af:=by lia
theorem zeK{e:Int}(g1:0<=e)(g2:e<26):∃c,atI abc.cps.toList e=aa c/\inL c=af:=by
 obtain⟨v,h1,h2⟩:=zag (xs:=abc.cps.toList) (i:=e) g1 (by rw[show abc.cps.toList.length=26 from by lia];exact g2)
 exact⟨v,h1,zhe v h2⟩
def zh1(v:V):Prop:=∃c,v=.str ⟨#[c]⟩/\inL c=af
theorem zar:∀ {ls:List Str},(∀x∈ls,∃c,x=⟨#[c]⟩/\inL c=af)->((ls.map λp=>p.cps.toList).flatten).length=ls.length/\((ls.map λp=>p.cps.toList).flatten).all inL=af/\(ls.map (·.length)).sum=ls.length
 |[],_=>⟨rfl,rfl,rfl⟩
 |x::ls,h=>by
  obtain⟨c,rfl,hc⟩:=h x bq
  obtain⟨a,b,d⟩:=zar (ls:=ls) λy hy=>h y (bn _ hy)
  have l1:((⟨#[c]⟩:Str)::ls).length=ls.length+1:=rfl
  refine⟨?_,?_,?_⟩
  ·rw[bo,oJ,bw,a,l1]
   show 1+ls.length=_
   lia
  ·rw[bo,oJ,pD,b]
   show ([c].all inL&&af)=af
   simp[hc]
  ·rw[bo,cA,d,zbU,l1];lia
section
variable {c:Int}{x y:Str}
theorem zb3(h:yJ x=af):smW x:=by
 unfold yJ at h
 simp only[b5,dF,iM,decide_eq_false_iff_not] at h
 obtain⟨⟨⟨h1,h2⟩,_⟩,h3⟩:=h
 refine⟨?_,by lia,h3⟩
 cases z:x.length with
 |zero =>
  exfalso
  apply h1
  obtain⟨⟨l⟩⟩:=x
  have:l.length=0:=z
  rw[List.length_eq_zero_iff.mp this]
  rfl
 |succ n=>lia
theorem zcQ{k:Nat}{o2:Option V}(hx:yJ x=af)(hk:k<x.length){d:Nat}(hd:inL d=af)(q:∀nm ws H',Same H H'->H nm=ai->NamesAt H' nm ws->ws.length=2->Q (.ref nm) H') :
  v3 K t (qqN Q) [aa (.int c),aa (.str "abcdefghijklmnopqrstuvwxyz"),o2,aa (.str x),aa (.int (k:Nat)),aa (.str ⟨#[d]⟩)] H:=by
 obtain⟨h1,h2,h3⟩:=zb3 hx
 have ol:=zbU d
 have od:=zew hd
 have fin:∀ {u v:Str} {H1:Hp},yJ u=af->yJ v=af->Same H H1->2<=Bb/\∀p,H1 p=ai->Q (.ref p) (upd H1 p (HO.lst [.str u,.str v])):=λ{u v H1} hu hv s=>⟨by lia,λp hp=>q p [u,v] _ (s.trans (isV p hp)) (zH s hp) ⟨zh,λw hw=>by
  rcases bD.mp hw with e|hw
  ·rw[e];exact hu
  ·rw[br.mp hw];exact hv⟩ rfl⟩
 have sx:x.length<=Bb:=y8 (by lia)
 unfold v3 zm zQ Qe
 refine zhb (λU=>⟨_,rfl,_,_,rfl,rfl,dB,_,_,rfl,rfl,(by lia:(0:Int)<3),rfl,_,rfl,xv (λ_=>⟨_,rfl,_,_,rfl,⟨sx,rfl⟩,_,_,rfl,rfl,_,rfl,xv (λc6=>⟨_,rfl,_,rfl,_,rfl,_,_,rfl,rfl,y8 (by have:=of_decide_eq_true c6;lia),_,rfl,⟨by rw[vD];lia,by have:=of_decide_eq_true c6;rw[vD];lia,Y2 h3 od⟩,λz H' hz s=>fin hx hz s⟩) λ_=>U⟩) λ_=>U⟩) ?_
 refine zhb (λU=>⟨_,rfl,_,_,rfl,rfl,dB,_,_,rfl,rfl,(by lia:(0:Int)<3),rfl,_,rfl,xv (λ_=>⟨_,rfl,_,_,rfl,⟨sx,rfl⟩,_,_,rfl,rfl,_,rfl,xv (λc6=>⟨_,rfl,_,rfl,_,_,rfl,rfl,y8 (by have:=of_decide_eq_true c6;lia),_,rfl,⟨by rw[vD];lia,by have:=of_decide_eq_true c6;rw[vD];lia,Y2 od h3⟩,λz H' hz s=>⟨_,rfl,fin hz hx s⟩⟩) λ_=>U⟩) λ_=>U⟩) ?_
 have a1:=zg3 x k (by lia)
 have a2:=zex x (k+1)
 have e:((k:Int)+1)=((k+1:Nat):Int):=by lia
 refine⟨_,rfl,_,rfl,_,rfl,_,rfl,_,rfl,sx,_,rfl,_,_,rfl,rfl,y8 (by lia),_,rfl,_,rfl,_,_,rfl,rfl,_,rfl,_,rfl,sx,_,_,rfl,rfl,?_⟩
 rw[e]
 exact⟨y8 (by rw[vD];lia),_,rfl,⟨by rw[vD,vD];lia,by rw[vD,vD];lia,Y2 (Y2 (zfN h3 k) od) (zcO h3 (k+1))⟩,λz H' hz s=>fin hx hz s⟩
theorem zcR{o2:Option V}(hx:yJ x=af)(q:∀nm ws H',Same H H'->H nm=ai->NamesAt H' nm ws->ws.length=2->Q (.ref nm) H') :
  v5 K t (qqN Q) [aa (.int c),aa (.str "abcdefghijklmnopqrstuvwxyz"),o2,aa (.str x),ai,ai] H:=by
 simp only[v5,Xs,zm,zL,zp,tOp,zb,tC,zc,zk,tCB,tBM,tyV,zcj,zcq,rI,rI0,wF,bj,bz,bC,ao,exists_eq_left,V.int.injEq,V.str.injEq,bT,and_true,true_and,and_assoc,ap,cC,cO]
 obtain⟨h1,h2,h3⟩:=zb3 hx
 have g1:=cN (c/6) (b:=(x.length:Int)) (by lia)
 have g2:=cy (c/6) (b:=(x.length:Int)) (by lia)
 obtain⟨k,ek⟩:∃k:Nat,c/6%(x.length:Int)=k:=⟨(c/6%(x.length:Int)).toNat,(i9 g1).symm⟩
 rw[ek] at g1 g2 ⊢
 obtain⟨y,hy,my⟩:=zag (xs:=x.cps.toList) (i:=(k:Int)) g1 (by rw[<-YJ];exact g2)
 have sx:x.length<=Bb:=y8 (by lia)
 have sz:(bc "abcdefghijklmnopqrstuvwxyz").length<=Bb:=by lia
 have f1:=cN (zbL (bc "abcdefghijklmnopqrstuvwxyz") ⟨#[y]⟩+1+c/36%25) (b:=26) (by lia)
 have f2:=cy (zbL (bc "abcdefghijklmnopqrstuvwxyz") ⟨#[y]⟩+1+c/36%25) (b:=26) (by lia)
 obtain⟨d,hd,ld⟩:=zeK f1 f2
 exact⟨dB,sx,by lia,sx,y,hy,dB,by lia,by lia,sz,d,hd,zcQ hx (by lia) ld q⟩
theorem V0{vs:List V}{_E:XK}(h:vH vs H Q _E) :
  qe K t (qqN Q) (L2.start ["cell","letters","word","one","at","letter"] vs) H:=by
 obtain⟨c,rfl,q⟩:=h
 simp only[qe,Ze,xa,yi,L2.start,Xt,zm,zL,zp,tOp,zb,tC,zc,zk,tBM,tyV,zT,vR,Xp,zaW,xW,zcq,rI,rI0,cQ,bY,cg,cE,cX,bV,bj,bz,bC,ao,V.int.injEq,V.ref.injEq,V.str.injEq,bT,and_true,true_and,and_assoc,ap,cC,cO,cB,cp,if_true]
 have g1:=cN c (b:=6) (by lia)
 have g2:=cy c (b:=6) (by lia)
 obtain⟨m,em⟩:∃m:Nat,1+c%6=m:=⟨(1+c%6).toNat,by lia⟩
 rw[em]
 refine⟨by lia,m,rfl,by lia,λl ds H1 s1 fl hl ld od=>⟨⟨_,SqL.of hl⟩,λD hD=>?_⟩⟩
 have lm:(ds.map V.int).length=ds.length:=bd ..
 refine zdu (J:=Itl K l) ds.length (by lia) (λτ=>∃o,τ=[o,aa (.str "abcdefghijklmnopqrstuvwxyz")]) (λi v=>zh1 v) ⟨_,rfl⟩ (λi H s h=>⟨_,_,SqL.of (s _ _ hl),bb (by rw[lm];exact h)⟩) (λH s=>⟨_,SqL.of (s _ _ hl),by rw[lm];exact bi _⟩) hD ?_ ?_
 ·rintro i v τ H2 H' ⟨o,rfl⟩ s hi ⟨rfl,hv⟩
  have hv:=hv _ (SqL.of (s _ _ hl))
  obtain⟨e,_,rfl⟩:=bE.mp (bW hv)
  simp only[bj,bz,bC,ao,V.int.injEq,V.str.injEq,bT,and_true,cC]
  have f1:=cN e (b:=26) (by lia)
  have f2:=cy e (b:=26) (by lia)
  obtain⟨d,hd,ld⟩:=zeK f1 f2
  exact⟨by lia,by lia,d,hd,⟨_,rfl⟩,⟨d,rfl,ld⟩,Same.refl _⟩
 ·intro ys H2 hly hv s hq
  obtain⟨ls,rfl,hp⟩:=zbX (P:=λx=>∃c,x=⟨#[c]⟩/\inL c=af) (ys:=ys) λv hv2=>by
   obtain⟨i,hi⟩:=cP hv2
   obtain⟨c,e,h⟩:=hv i v hi
   exact⟨_,e,c,rfl,h⟩
  rw[bd] at hly
  obtain⟨j1,j2,j3⟩:=zar hp
  have jc:=zdy ls
  have jl:(Jq (bc "") ls).length=ls.length:=by rw[YJ,jc,j1]
  have sl:=Kf (bc "") ls 0
  refine⟨ls,SqL.of hq,?_,⟨by lia,by lia,by unfold YT;rw[jc];exact j2⟩,λx H3 hx s3=>?_⟩
  ·unfold zdx
   rw[sl,j3,show (bc "").length=0 from by lia]
   exact y8 (by lia)
  ·exact zcR hx λnm ws H' s' fn hn l2=>q nm ws H' (s1.trans (s.trans (s3.trans s'))) (zH s1 (zH s (zH s3 fn))) hn l2
end
def tbI(c:Int)(a x d:ac)(H0:Hp)(i:Nat)(σ:St)(H':Hp):Prop:=∃rows:List Row,(∃o1 o2,σ=[aa (.int c),aa (.ref a),aa (.ref x),aa (.ref d),o1,o2])/\Same H0 H'/\H' d=aa (.dT (dOf rows))/\rows.length<=i/\∀r∈rows,cM r.1.1=af/\inW r.2=af/\r.2≠0
theorem Vq{vs:List V}{_E:XK}(h:jM vs H Q _E) :
  ZR K t (qqN Q) (L2.start ["cell","shelves","xs","found","k","worth"] vs) H:=by
 obtain⟨c,a,ws,rfl,h1,h2,q⟩:=h
 refine⟨_,rfl,c,10,rfl,by lia,λx ds H1 s1 fx hx ld od d hd=>?_⟩
 have g1:=cN c (b:=6) (by lia)
 have g2:=cy c (b:=6) (by lia)
 have s2:=isV (o:=HO.dT []) d hd
 have S2:=s1.trans s2
 have fd:=zH s1 hd
 refine⟨_,rfl,_,_,rfl,rfl,by show (0:Int)<6;decide,c%6,rfl,by lia,by lia,Z9 (tbI c a x d H1) ⟨[],⟨_,_,rfl⟩,s2,zh,bi _,λ_ z=>nomatch z⟩ ?_ ?_⟩
 ·rintro i σ H' hi ⟨rows,⟨o1,o2,rfl⟩,s,hD,hl,hr⟩
  rw[nu]
  have lm:(ds.map V.int).length=ds.length:=bd ..
  have hx':SqL K H' x (ds.map V.int):=SqL.of (s _ _ hx)
  have h1':=h1.same (s1.trans s)
  have i6:i<6:=by lia
  have at1:∀ {j:Nat},j<10->atI (ds.map V.int) ((j:Nat):Int)=aa (.int (ds.getD j 0))/\okD (ds.getD j 0):=λ{j} hj=>by
   have hj:j<ds.length:=by lia
   have e:ds.getD j 0=ds[j]:=by rw[bB,bb hj];rfl
   exact⟨yf (by rw[bp,bb hj,e];rfl),by rw[e];exact od _ (eD hj)⟩
  obtain⟨e5,o5⟩:=at1 (j:=i+5) (by lia)
  obtain⟨e0,o0⟩:=at1 (j:=i) (by lia)
  generalize ds.getD (i+5) 0=u at *
  generalize ds.getD i 0=v at *
  refine⟨_,rfl,_,rfl,_,_,rfl,rfl,x,_,((i+5:Nat):Int),_,rfl,rfl,hx',e5,u,rfl,o5.1,o5.2,λw H2 hw s2=>⟨_,rfl,rfl,_,rfl,?_⟩⟩
  by_cases w0:w=0
  ·exact ya (by rw[w0];rfl) ⟨rows,⟨_,_,rfl⟩,s.trans s2,s2 _ _ hD,by lia,hr⟩
  refine yY (by rw[Bk (λz=>w0 (V.int.inj z))];rfl) ?_
  obtain⟨sh,hsh,_,nsh⟩:=zao (h1'.same s2) 2 h2 (by lia) v
  have hx2:=hx'.mono s2
  refine⟨_,rfl,_,rfl,_,rfl,_,rfl,_,rfl,x,_,i,_,rfl,rfl,hx2,e0,_,_,rfl,rfl,by show (0:Int)<2;decide,a,_,v%2,_,rfl,rfl,SqL.of (h1'.same s2).1,hsh,_,rfl,_,rfl,x,_,i,_,rfl,rfl,hx2,e0,_,_,rfl,rfl,dB,_,_,rfl,rfl,by show (0:Int)<3;decide,by show 2<=Bb;rw[bS];decide,λp hp=>?_⟩
  have s5:=isV (o:=HO.tup [V.str sh,V.int (v/2%3)]) p hp
  have S5:=s2.trans s5
  have lD:=jm rows
  refine⟨d,_,rfl,DPut.t (k:=zC (sh,v/2%3)) (S5 _ _ hD) zh (bU (by lia:_<=900) (by lia)),rows++[((sh,v/2%3),w)],⟨_,_,rfl⟩,yz (s.trans S5) hd,?_,by simp;lia,?_⟩
  ·rw[qM];exact zh
  ·intro z hz
   rcases bx.mp hz with hz|hz
   ·exact hr z hz
   ·rw[br.mp hz]
    exact⟨ZD nsh,hw,λz=>w0 z⟩
 ·rintro σ H' ⟨rows,⟨o1,o2,rfl⟩,s,hD,hl,hr⟩
  simp only[jY,zdO,zp,zJ,zb,yP,zc,zk,tCB,vR,Xp,zaW,xW,cQ,bY,cg,cE,cX,bj,bz,bC,ao,V.ref.injEq,bT,and_true,ap,cp,if_true]
  obtain⟨qs,hqs,nqs,mqs⟩:=zan rows
  have lD:=jm rows
  refine⟨dOf rows,hD,qs,hqs,by lia,λl ps hl0 hperm hpw hps=>?_⟩
  obtain⟨H3,eH,s3,q1⟩:=zfi (o:=HO.lst (ps.map λn=>V.ref n.1)) hl0
  rw[<-eH]
  clear eH
  have lp:ps.length<=5:=by
   have a1:=hperm.length_eq
   have a2:=congrArg cg hqs
   rw[bd] at a1
   rw[bd,bd] at a2
   lia
  refine⟨⟨_,SqL.of q1⟩,λD hD2=>?_⟩
  refine zev (J:=Itl K l) ps.length (by lia) (λτ=>∃o,τ=[o,aa (.ref d)]) (zg7 rows (ps.map (·.2))) (λi ys H H' s h=>zfQ s h) ⟨_,rfl⟩ ⟨[],.nil,rfl⟩ (λi H s h=>⟨_,_,SqL.of (s _ _ q1),bb (by rw[bd];exact h)⟩) (λH s=>⟨_,SqL.of (s _ _ q1),by rw[bd];exact bi _⟩) hD2 ?_ ?_
  ·rintro i v τ ys H4 H5 ⟨o,rfl⟩ s4 hi hR ⟨rfl,hv⟩
   have hv:=hv _ (SqL.of (s4 _ _ q1))
   rw[bp] at hv
   obtain⟨n,hn,rfl⟩:=b6.mp hv
   have hp:=s4 _ _ (s3 _ _ (hps n (bW hn)))
   simp only[bj,bz,bC,ao,V.ref.injEq,bT,and_true,cC]
   have hm:n.2∈qs:=hperm.mem_iff.mp (bu (bW hn))
   obtain⟨w,hw⟩:=fm.mp ((mqs n.2).mp hm)
   have g:DGet H5 d (.ref n.1) ((zI rows n.2).map V.int):=.inr ⟨dOf rows,zC n.2,n.1,.inl (s4 _ _ (s3 _ _ hD)),rfl,hp,(xY rows n.2).symm⟩
   rw[hw] at g
   have w0:w≠0:=(hr _ (Vk hw)).2.2
   have tk:(ps.map (·.2)).take (i+1)=(ps.map (·.2)).take i++[n.2]:=by rw[dU,bp,hn];rfl
   obtain⟨out,hr2,ho⟩:=hR
   refine⟨_,g,by lia,λp hp2=>⟨⟨_,rfl⟩,?_,isV p hp2⟩⟩
   refine⟨out++[(n.2,w)],JI (ku (isV p hp2) hr2) ⟨p,n.1,rfl,zh,isV p hp2 _ _ hp⟩,?_⟩
   rw[tk,List.filterMap_append,<-ho]
   simp[JJ,hw,w0]
  ·rintro ys H4 hly ⟨out,hr2,ho⟩ s4 hq
   rw[cj (by rw[bd];exact bi _)] at ho
   subst ho
   have T:=zg8 hpw λp=>(hperm.mem_iff.trans (mqs p))
   have S:=s1.trans (s.trans (s3.trans s4))
   refine q D _ H4 S (zH (s1.trans (s.trans s3)) hD2) ⟨ys,hq,hr2⟩ T.1 (λr h=>hr _ (Vk ((T.2 r.1 r.2).mp h).1)) ?_
   have:=List.length_filterMap_le (JJ rows) (ps.map (·.2))
   rw[bd] at this
   lia
section
variable {kd:Int}{p a b sp tp:ac}{ds:List Int}{us ws:List Str}{sh sl:Str}{e0 f:List V}{Hb:Hp}
theorem zeL{y1:Int}(od:okD y1)(hp:∃xs,H p=aa (.lst xs)/\atI xs 1=aa (.int y1))(nsh:yJ sh=af)(nsl:yJ sl=af)(te:TermOk e0)(pe:tmP e0)(hs:H sp=aa (.tup e0))(fs:Hb sp=ai)(tf:TermOk f)(pf:tmP f)(ht:H tp=aa (.tup f))(ft:Hb tp=ai)(S:Same Hb H)
  (q:∀v r H',Same Hb H'->RwAt (λb=>Hb b=ai) H' v r->rwW r->Q v H') :
  jS K t (qqN Q) [aa (.ref p),aa (.ref a),aa (.ref b),aa (.int kd),aa (.str sh),aa (.str sl),aa (.ref sp),aa (.ref tp)] H:=by
 simp only[jS,zm,zJ,zK,tOp,zb,tC,yP,zc,zk,zQ,zB,yt,rEq,rI,rI0,zci,cg,bj,bz,bC,ao,V.int.injEq,V.ref.injEq,V.bl.injEq,true_and,ap,cp,decide_eq_true_eq]
 obtain⟨ts,ps⟩:=Y3 (u:=.str sl) (.inr ⟨sl,rfl,nsl⟩)
 obtain⟨xs,h1,h2⟩:=hp
 refine xv (λ_=>⟨by lia,λr hr=>?_⟩) λ_=>xv (λ_=>⟨by lia,λr hr=>?_⟩) λ_=>xv (λ_=>⟨by lia,λr hr=>?_⟩) λ_=>xv (λ_=>⟨by lia,λr hr=>?_⟩) λ_=>⟨_,SqL.of h1,_,h2,_,rfl,by lia,by lia,λp2 hp2=>⟨by lia,λr hr=>?_⟩⟩
 ·exact q _ (.take sh e0 sl) _ (S.trans (isV r hr)) ⟨r,sp,rfl,zH S hr,fs,zh,isV r hr _ _ hs⟩ ⟨trivial,⟨ZD nsh,pe,ZD nsl⟩,te⟩
 ·exact q _ (.give sh e0 f) _ (S.trans (isV r hr)) ⟨r,sp,tp,rfl,zH S hr,fs,ft,zh,isV r hr _ _ hs,isV r hr _ _ ht⟩ ⟨trivial,⟨ZD nsh,pe,pf⟩,⟨te,tf⟩⟩
 ·exact q _ (.lt sl f) _ (S.trans (isV r hr)) ⟨r,tp,rfl,zH S hr,ft,zh,isV r hr _ _ ht⟩ ⟨trivial,⟨ZD nsl,pf⟩,tf⟩
 ·exact q _ (.say f) _ (S.trans (isV r hr)) ⟨r,tp,rfl,zH S hr,ft,zh,isV r hr _ _ ht⟩ ⟨trivial,pf,tf⟩
 ·have s3:=isV (o:=HO.tup [V.str sl,V.int (y1%3+1),V.str (bc "same")]) p2 hp2
  have jw:wdJ (bc "same"):=⟨by lia,by lia,by lia⟩
  obtain⟨t2,p3⟩:=Y3 (u:=.int (y1%3+1)) (.inl ⟨_,rfl,inW_iff.mpr (by lia)⟩)
  exact q _ (.off ([.str sl]++[.int (y1%3+1)]++[.str (bc "same")])) _ (S.trans (s3.trans (isV r hr))) ⟨r,p2,rfl,zH (S.trans s3) hr,zH S hp2,zh,isV r hr _ _ zh⟩ ⟨trivial,(by unfold W7;exact zbY ps p3 jw),(by unfold qO;exact JK ts t2 jw (by simp))⟩
theorem KP{vs:List V}{_E:XK}(h:Zd vs H Q _E) :
  Zq K t (qqN Q) (L2.start ["xs","shelves","slots","kind","shelf","slot","spot","term"] vs) H:=by
 obtain⟨p,a,b,ds,us,ws,rfl,h1,h2,h3,h4,h5,h6,h7,q⟩:=h
 match ds,h2 with
 |[x0,x1,x2],_ =>
 have o1:=h3 x1 (.tail _ (.head _))
 have o2:=h3 x2 (.tail _ (.tail _ (.head _)))
 unfold Zq zm zL zp
 refine KN (λ_ q=>KM rfl h1 rfl q) (by lia) λk _ _=>?_
 refine KO h4 h5 rfl (λ_ q=>KM rfl h1 rfl ⟨_,_,rfl,rfl,dB,q⟩) λsh nsh=>?_
 refine KO h6 h7 rfl (λ_ q=>KM rfl h1 rfl ⟨_,_,rfl,rfl,dB,q⟩) λsl nsl=>?_
 refine KM rfl h1 rfl ⟨_,rfl,_,_,ws,rfl,o1,h6,h7,λsp e H1 s1 fs hs te pe=>?_⟩
 refine KM rfl (s1 _ _ h1) rfl ⟨_,rfl,_,_,ws,rfl,o2,h6.same s1,h7,λtp f H2 s2 ft ht tf pf=>?_⟩
 have S:=s1.trans s2
 exact zeL (t:=t) o1 ⟨_,S _ _ h1,rfl⟩ nsh nsl te pe (s2 _ _ hs) fs tf pf ht (zH s1 ft) S q
end
section
variable {F:ac->Prop}{vs:List V}{rs:List Rw}
theorem zas:∀ {vs:List V} {rs:List Rw},Paired (RwAt F H) vs rs->RwsAt F H vs (Rws.of rs)
 |_,_,.nil=>by unfold Rws.of RwsAt;rfl
 |_,_,.cons a t=>by
  unfold Rws.of RwsAt
  exact⟨_,_,rfl,a,zas t⟩
theorem zat:∀ {rs:List Rw},(∀r∈rs,W7 r)->qP (Rws.of rs)
 |[],_=>by unfold Rws.of qP;trivial
 |r::rs,h=>by
  unfold Rws.of qP
  exact⟨h r bq,zat λx hx=>h x (bn _ hx)⟩
theorem zau:∀ {rs:List Rw},(∀r∈rs,qO r)->ZM (Rws.of rs)
 |[],_=>by unfold Rws.of ZM;trivial
 |r::rs,h=>by
  unfold Rws.of ZM
  exact⟨h r bq,zau λx hx=>h x (bn _ hx)⟩
theorem Y5{n:Nat}:∀ {rs:List Rw},(∀r∈rs,r.deep<=n)->(Rws.of rs).deep<=n
 |[],_=>by unfold Rws.of;simp[Rws.deep]
 |r::rs,h=>by
  unfold Rws.of
  have h1:=h r bq
  have h2:=Y5 (rs:=rs) λx hx=>h x (bn _ hx)
  simp only[Rws.deep]
  lia
theorem WE(h:Vd r):r.deep=0:=by
 cases r with
 |iff e a b=>exact absurd h (λz=>z)
 |take _ _ _=>simp[Rw.deep]
 |give _ _ _=>simp[Rw.deep]
 |lt _ _=>simp[Rw.deep]
 |say _=>simp[Rw.deep]
 |off _=>simp[Rw.deep]
theorem jC{α β:Type}{R:α->β->Prop}:∀ {xs:List α} {ys:List β} (k:Nat),Paired R xs ys->Paired R (xs.take k) (ys.take k)
 |_,_,0,_=>.nil
 |_,_,_+1,.nil=>.nil
 |_,_,k+1,.cons a t=>.cons a (jC k t)
theorem Zs{α β:Type}{R:α->β->Prop}:∀ {xs:List α} {ys:List β} (k:Nat),Paired R xs ys->Paired R (xs.drop k) (ys.drop k)
 |_,_,0,h=>h
 |_,_,_+1,.nil=>.nil
 |_,_,k+1,.cons _ t=>Zs k t
end
theorem zeM(xs:List V)(n:Nat):jX xs ai (aa (n:Int))=xs.take n:=by
 unfold jX
 rw[HT.sIx_none,HT.sIx_nat,gC,mZ]
 by_cases c:n<=xs.length
 ·rw[dv c]
 ·rw[gG (by lia),cj (bi _),cj (by lia)]
theorem zhf(xs:List V)(n:Nat):jX xs (aa (n:Int)) ai=xs.drop n:=by
 unfold jX
 rw[HT.sIx_none,HT.sIx_nat]
 by_cases c:n<=xs.length
 ·rw[dv c]
  exact cj (by rw[cK];exact bi _)
 ·rw[gG (by lia),mQ (bi _),mQ (by lia),List.take_nil]
theorem zeN(xs:List V)(k m:Nat)(hk:k<=m)(hm:m<=xs.length):jX xs (aa (k:Int)) (aa (m:Int))=(xs.drop k).take (m-k):=by
 unfold jX
 rw[HT.sIx_nat,HT.sIx_nat,dv hm,dv (by lia:k<=xs.length)]
section
variable {c:Int}{a b L X:ac}{ds:List Int}{us ws:List Str}{vs:List V}{rs:List Rw}{Hb:Hp}
theorem Vr{α β:Type}{R:α->β->Prop}:∀ {xs:List α} {ys:List β} {us:List α} {vs:List β},Paired R xs ys->Paired R us vs->Paired R (xs++us) (ys++vs)
 |_,_,_,_,.nil,h=>h
 |_,_,_,_,.cons a t,h=>.cons a (Vr t h)
theorem zbm:∀ {rs:List Rw},(∀r∈rs,Vd r)->(Rws.of rs).cnt<=rs.length
 |[],_=>by unfold Rws.of;simp[Rws.cnt]
 |r::rs,h=>by
  have h2:=zbm (rs:=rs) λx hx=>h x (bn _ hx)
  have h1:=h r bq
  unfold Rws.of
  cases r with
  |iff e a b=>exact absurd h1 (λz=>z)
  |take _ _ _=>simp only[Rws.cnt,Rw.cnt,bR];lia
  |give _ _ _=>simp only[Rws.cnt,Rw.cnt,bR];lia
  |lt _ _=>simp only[Rws.cnt,Rw.cnt,bR];lia
  |say _=>simp only[Rws.cnt,Rw.cnt,bR];lia
  |off _=>simp only[Rws.cnt,Rw.cnt,bR];lia
def szX(r:Rw):Nat:=match r with|.iff _ a b=>a.cnt+b.cnt+3|_=>1
theorem zfZ(h:Vd r):szX r=1:=by
 cases r with
 |iff e a b=>exact absurd h (λz=>z)
 |take _ _ _=>rfl
 |give _ _ _=>rfl
 |lt _ _=>rfl
 |say _=>rfl
 |off _=>rfl
theorem WF:∀ {rs:List Rw},(∀r∈rs,Vd r)->(rs.map szX).sum=rs.length
 |[],_=>rfl
 |r::rs,h=>by
  rw[bo,cA,zfZ (h r bq),WF λx hx=>h x (bn _ hx),bR]
  lia
theorem zhg(h:∀r∈rs,rwW r)(l:rs.length<=6):zfH rs:=⟨bK (Y5 (n:=0) λr hr=>by rw[WE (h r hr).nf];exact bi _) (by lia),zat λr hr=>(h r hr).pl,zau λr hr=>(h r hr).ok,by
 have:=WF λr hr=>(h r hr).nf
 show (rs.map szX).sum<=11
 lia⟩
theorem zhh{σ:St}{te tf:TE}{y:Int}{n:Nat}(he:∀Q:VK,Q (.int y) H->te σ H Q)(hf:∀Q:VK,Q (.int (n:Nat)) H->tf σ H Q)(hn:0<n)(q:∀k:Nat,k<n->Q (.int (k:Nat)) H):tOp (rI (λ_ j=>0<j) λi j=>.int (i%j)) te tf σ H Q:=he _ (hf _ ⟨_,_,rfl,rfl,Int.ofNat_lt.mpr hn,by
 have f1:=cN y (b:=(n:Int)) (by lia)
 have f2:=cy y (b:=(n:Int)) (by lia)
 obtain⟨k,ek⟩:∃k:Nat,y%(n:Int)=k:=⟨(y%(n:Int)).toNat,(i9 f1).symm⟩
 have z:=q k (by lia)
 rw[<-ek] at z
 exact z⟩)
theorem zcS{o5 o6 o7:Option V}(hX:H X=aa (.lst (ds.map V.int)))(ld:ds.length=22)(od:∀d∈ds,okD d)(hL:H L=aa (.lst vs))(fL:Hb L=ai)(pr:Paired (RwAt (λb=>Hb b=ai) H) vs rs)(rw_:∀r∈rs,rwW r)(l6:rs.length<=6)(hw:NamesAt H b ws)(lw:ws.length=2)(S:Same Hb H)
  (q:∀l rs H',Same Hb H'->RlAt (λb=>Hb b=ai) H' (.ref l) (Rws.of rs)->zfH rs->Q (.ref l) H') :
  je K t (qqN Q) [aa (.int c),aa (.ref a),aa (.ref b),aa (.ref X),aa (.ref L),ai,ai,ai] H:=by
 have lv:=bL pr
 have at1:∀ {j:Nat},j<22->atI (ds.map V.int) ((j:Nat):Int)=aa (.int (ds.getD j 0))/\okD (ds.getD j 0):=λ{j} hj=>by
  have hj:j<ds.length:=by lia
  have e:ds.getD j 0=ds[j]:=by rw[bB,bb hj];rfl
  exact⟨yf (by rw[bp,bb hj,e];rfl),by rw[e];exact od _ (eD hj)⟩
 unfold je zm zQ
 refine⟨_,rfl,_,_,rfl,rfl,dB,_,_,rfl,rfl,by show (0:Int)<3;decide,rfl,_,rfl,?_⟩
 by_cases hc:c/7%3=0
 ·refine yY (Bj (congrArg V.int hc)) ?_
  refine zhh (n:=vs.length+1) (λ_ q=>KM rfl hX (at1 (j:=18) (by lia)).1 q) (λ_ q=>⟨_,rfl,.ref L,vs.length,rfl,.inl ⟨_,SqL.of hL,rfl⟩,_,_,rfl,rfl,q⟩) (Nat.succ_pos vs.length) λk hk=>?_
  have hk:k<vs.length+1:=hk
  refine⟨_,rfl,zhh (n:=vs.length+1-k) (λ_ q=>KM rfl hX (at1 (j:=21) (by lia)).1 q) (λ_ q=>⟨_,rfl,.ref L,vs.length,rfl,.inl ⟨_,SqL.of hL,rfl⟩,_,_,rfl,rfl,_,rfl,_,_,rfl,rfl,by rw[show ((vs.length+1-k:Nat):Int)=(vs.length:Int)+1-k by lia] at q;exact q⟩) (by lia) λm' hm=>⟨_,_,rfl,rfl,?_⟩⟩
  obtain⟨m,em⟩:∃m,m=k+m':=⟨_,rfl⟩
  have km:k<=m:=by lia
  have ml:m<=vs.length:=by lia
  obtain⟨e19,o19⟩:=at1 (j:=19) (by lia)
  refine KM rfl hX e19 ⟨_,rfl,_,b,ws,rfl,o19,hw,lw,λtp e H1 s1 ft ht te pe=>?_⟩
  refine⟨_,rfl,_,rfl,k,rfl,_,rfl,(m:Int),by rw[em];rfl,L,vs,rfl,SqL.of (s1 _ _ hL),λp1 hp1=>?_⟩
  rw[zeN vs k m km ml]
  generalize c_:upd H1 p1 _=H2
  obtain⟨s2,g2⟩:=xk c_ hp1
  have S2:=s1.trans s2
  refine⟨_,rfl,?_⟩
  refine zhh (n:=3) (λ_ q=>KM rfl (S2 _ _ hX) (at1 (j:=20) (by lia)).1 q) (λ_ q=>q) (by lia) λj f6=>?_
  refine⟨_,rfl,L,vs,rfl,SqL.of (S2 _ _ hL),λp2 hp2=>?_⟩
  rw[zeM]
  generalize c_:upd H2 p2 _=H3
  obtain⟨s3,g3⟩:=xk c_ hp2
  refine⟨by show 4<=Bb;rw[bS];decide,λrp hrp=>?_⟩
  generalize c_:upd H3 rp _=H4
  obtain⟨s4,g4⟩:=xk c_ hrp
  have S3:=S2.trans s3
  have S4:=S3.trans s4
  refine⟨_,rfl,_,rfl,k,rfl,L,vs,rfl,SqL.of (S4 _ _ hL),λp3 hp3=>?_⟩
  rw[zeM]
  generalize c_:upd H4 p3 _=H5
  obtain⟨s5,g5⟩:=xk c_ hp3
  refine⟨_,rfl,by show 1<=Bb;rw[bS];decide,λp4 hp4=>?_⟩
  generalize c_:upd H5 p4 _=H6
  obtain⟨s6,g6⟩:=xk c_ hp4
  refine⟨_,_,_,_,rfl,rfl,s6 _ _ g5,g6,bK (by rw[cR];show min k vs.length+1<=110;lia:_<=110) (by lia),λp5 hp5=>?_⟩
  generalize c_:upd H6 p5 _=H7
  obtain⟨s7,g7⟩:=xk c_ hp5
  have S7:=S4.trans (s5.trans (s6.trans s7))
  refine⟨_,rfl,_,rfl,(m:Int),by rw[em];rfl,L,vs,rfl,SqL.of (S7 _ _ hL),λp6 hp6=>?_⟩
  rw[zhf]
  generalize c_:upd H7 p6 _=H8
  obtain⟨s8,g8⟩:=xk c_ hp6
  refine⟨_,_,_,_,rfl,rfl,s8 _ _ g7,g8,bK (by rw[bw,cR,cK];show min k vs.length+1+(vs.length-m)<=110;lia:_<=110) (by lia),λp7 hp7=>?_⟩
  generalize c_:upd H8 p7 _=H9
  obtain⟨s9,g9⟩:=xk c_ hp7
  refine⟨_,rfl,?_⟩
  have T4:=s5.trans (s6.trans (s7.trans (s8.trans s9)))
  have S9:=S4.trans T4
  have P:=Paired.mapP pr λ_ r z=>RwAt.mono S9 z
  have B:∀ {n:Nat} {x:Rw},x∈rs.take n->x∈rs:=λh=>dt h
  have C:∀ {x:Rw},x∈(rs.drop k).take (m-k)->x∈rs:=λh=>cZ (dt h)
  have I:RwAt (λb=>Hb b=ai) H9 (.ref rp) (.iff e (Rws.of ((rs.drop k).take (m-k))) (Rws.of (rs.take j))):=by
   unfold RwAt
   exact⟨rp,tp,p1,p2,_,_,rfl,zH (S.trans S3) hrp,zH S ft,zH (S.trans s1) hp1,zH (S.trans S2) hp2,T4 _ _ g4,(s2.trans (s3.trans (s4.trans T4))) _ _ ht,(s3.trans (s4.trans T4)) _ _ g2,zas (jC _ (Zs _ P)),(s4.trans T4) _ _ g3,zas (jC _ P)⟩
  have all:∀x∈rs.take k++[.iff e (Rws.of ((rs.drop k).take (m-k))) (Rws.of (rs.take j))]++rs.drop m,x∈rs\/x=.iff e (Rws.of ((rs.drop k).take (m-k))) (Rws.of (rs.take j)):=λx hx=>by
   rcases bx.mp hx with hx|hx
   ·rcases bx.mp hx with hx|hx
    ·exact .inl (B hx)
    ·exact .inr (br.mp hx)
   ·exact .inl (cZ hx)
  have ip:W7 (.iff e (Rws.of ((rs.drop k).take (m-k))) (Rws.of (rs.take j))):=by
   unfold W7
   exact⟨pe,zat λx hx=>(rw_ x (C hx)).pl,zat λx hx=>(rw_ x (B hx)).pl⟩
  have io:qO (.iff e (Rws.of ((rs.drop k).take (m-k))) (Rws.of (rs.take j))):=by
   unfold qO
   exact⟨te,zau λx hx=>(rw_ x (C hx)).ok,zau λx hx=>(rw_ x (B hx)).ok⟩
  have dp:Rw.deep (.iff e (Rws.of ((rs.drop k).take (m-k))) (Rws.of (rs.take j)))<=1:=by
   have a1:=Y5 (n:=0) (rs:=(rs.drop k).take (m-k)) λx hx=>by rw[WE (rw_ x (C hx)).nf];exact bi _
   have a2:=Y5 (n:=0) (rs:=rs.take j) λx hx=>by rw[WE (rw_ x (B hx)).nf];exact bi _
   simp only[Rw.deep]
   lia
  refine q p7 (rs.take k++[.iff e (Rws.of ((rs.drop k).take (m-k))) (Rws.of (rs.take j))]++rs.drop m) H9 (S.trans S9) ⟨p7,_,rfl,zH (S.trans (S7.trans s8)) hp7,g9,zas (Vr (Vr (jC _ P) (.cons I .nil)) (Zs _ P))⟩ ⟨Y5 λx hx=>?_,zat λx hx=>?_,zau λx hx=>?_,?_⟩
  ·rcases all x hx with h|rfl
   ·rw[WE (rw_ x h).nf];exact bP _
   ·exact dp
  ·rcases all x hx with h|rfl
   ·exact(rw_ x h).pl
   ·exact ip
  ·rcases all x hx with h|rfl
   ·exact(rw_ x h).ok
   ·exact io
  ·show ((rs.take k++[Rw.iff e (Rws.of ((rs.drop k).take (m-k))) (Rws.of (rs.take j))]++rs.drop m).map szX).sum<=11
   rw[bM,bM,pE,pE,WF λx hx=>(rw_ x (B hx)).nf,WF λx hx=>(rw_ x (cZ hx)).nf]
   have c1:=zbm (rs:=(rs.drop k).take (m-k)) λx hx=>(rw_ x (C hx)).nf
   have c2:=zbm (rs:=rs.take j) λx hx=>(rw_ x (B hx)).nf
   rw[cR,cK] at c1
   rw[cR] at c2
   rw[cR,cK]
   show min k rs.length+((Rws.of ((rs.drop k).take (m-k))).cnt+(Rws.of (rs.take j)).cnt+3+0)+(rs.length-m)<=11
   lia
 ·exact ya (Bk (λz=>hc (V.int.inj z))) ⟨_,rfl,q L rs H S ⟨L,vs,rfl,fL,hL,zas pr⟩ (zhg rw_ l6)⟩
def cRw(D:ac)(Hb:Hp)(i:Nat)(ys:List V)(H:Hp):Prop:=∃rs:List Rw,Paired (RwAt (λb=>Hb b=ai/\b≠D) H) ys rs/\(∀r∈rs,rwW r)/\rs.length=i
theorem V1{vs:List V}{_E:XK}(h:qc vs H Q _E) :
  YY K t (qqN Q) (L2.start ["cell","shelves","slots","xs","rows","at","to","row"] vs) H:=by
 obtain⟨c,a,b,us,ws,rfl,h1,h2,h3,h4,q⟩:=h
 refine⟨_,rfl,_,22,rfl,by lia,λX ds H1 s1 fX hX ld od=>?_⟩
 unfold zm zL zp
 refine KN (σ:=[aa (.int c),aa (.ref a),aa (.ref b),aa (.ref X),ai,ai,ai,ai]) (te:=zb 0) (n:=7) (λ_ q=>⟨_,rfl,q⟩) (by lia) λk g1 g2=>?_
 refine⟨_,rfl,by lia,by lia,λD hD=>?_⟩
 have fD:=zH s1 hD
 refine zcP (J:=Itr 0 (k).toNat) (k).toNat (by lia) (λτ=>∃o,τ=[o,aa (.ref X),aa (.ref a),aa (.ref b)]) (cRw D H) (λi ys H2 H' s ⟨rs,p1,p2⟩=>⟨rs,Paired.mapP p1 λ_ r z=>z.to r (λ_ _ f _=>f) (λb o f e=>s b o f.2 e),p2⟩) ⟨_,rfl⟩ ⟨[],.nil,(λr z=>nomatch z),rfl⟩ (λi H _ h=>h) (λH _=>bi _) hD ?_ ?_
 ·rintro i v τ ys H4 H5 ⟨o,rfl⟩ s4 hi ⟨rs,pr,wr,li⟩ hy ⟨rfl,rfl⟩
  rw[nu]
  have mb:CMulB 3 i:=mS (by lia) (by lia) (by lia) (by lia)
  refine⟨_,rfl,_,rfl,_,_,rfl,rfl,mb,_,rfl,_,rfl,_,_,rfl,rfl,mb,_,_,rfl,rfl,_,rfl,_,_,rfl,SqL.of (s4 _ _ hX),λp hp=>?_⟩
  have e1:3*(i:Int)=((3*i:Nat):Int):=by lia
  have e2:3*(i:Int)+3=((3*i+3:Nat):Int):=by lia
  rw[e2,e1,zeN _ _ _ (by lia) (by rw[bd];lia),<-mE,<-iR]
  have le:((ds.drop (3*i)).take (3*i+3-3*i)).length=3:=by rw[cR,cK];lia
  have oe:∀d∈(ds.drop (3*i)).take (3*i+3-3*i),okD d:=λd hd=>od d (cZ (dt hd))
  generalize (ds.drop (3*i)).take (3*i+3-3*i)=es at *
  have s5:=isV (o:=HO.lst (es.map V.int)) p hp
  have S:=s1.trans (s4.trans s5)
  have ne:∀ {b},upd H5 p (HO.lst (es.map V.int)) b=ai->b≠D:=λ{b} e z=>by rw[z,s5 _ _ hy] at e;cases e
  refine⟨_,rfl,_,rfl,p,_,_,es,us,ws,rfl,zh,le,oe,h1.same S,h2,h3.same S,h4,λv r H6 s6 hr hw=>⟨⟨_,rfl⟩,⟨rs++[r],Paired.snocP (Paired.mapP pr λ_ _ z=>z.mono (s5.trans s6)) (hr.to r (λb o f _=>⟨zH S f,ne f⟩) λb o _ e=>e),λx hx=>?_,by rw[bw,li];rfl⟩,s5.trans s6⟩⟩
  rcases bx.mp hx with hx|hx
  ·exact wr x hx
  ·rw[br.mp hx];exact hw
 ·rintro ys H4 hly ⟨rs,pr,wr,li⟩ s4 hq
  have S:=s1.trans s4
  exact zcS (t:=t) (o5:=ai) (o6:=ai) (o7:=ai) (s4 _ _ hX) ld od hq fD (Paired.mapP pr λ_ r z=>z.to r (λ_ _ f _=>f.1) λb o _ e=>e) wr (by lia) (h3.same S) h4 S q
end
theorem zgm{s:RSt}{gi:List Row}(h:Vf s gi):(gi.map (·.1)).Nodup:=by
 unfold Vf at h
 split at h
 ·rw[h];exact cU
 ·exact h.1.nd
section
variable {β:Type}{R R':Int->V->β->Prop}{kv:List (Key×V)}{l:List (Int×β)}{h:Int}{b:β}{v:V}
theorem dropH_mem{e:Int×β}:e∈yd l h↔e∈l/\e.1≠h:=by unfold yd;rw[List.mem_filter,decide_eq_true_eq]
theorem Pk.get(p:Pk R kv l):(z4 kv (.inl h)=ai/\h ∉ l.map (·.1))\/∃v b,z4 kv (.inl h)=aa v/\(h,b)∈l/\R h v b:=by
 unfold Pk at p
 induction p with
 |nil=>exact .inl ⟨Qm,λz=>nomatch z⟩
 |@cons x e kv l hd tl ih =>
  by_cases c:e.1=h
  ·subst c
   exact .inr ⟨x.2,e.2,yG hd.1,bq,hd.2⟩
  ·have n:¬ x.1=.inl h:=by rw[hd.1];exact λz=>c (l8 z)
   rw[yH n,bo,bD]
   exact ih.imp (λz=>⟨z.1,λy=>y.elim (λy=>c y.symm) z.2⟩) λ⟨v,b,z1,z2,z3⟩=>⟨v,b,z1,bn _ z2,z3⟩
theorem Pk.drop(p:Pk R kv l):Pk R (ye kv (.inl h)) (yd l h):=by
 unfold Pk at p
 induction p with
 |nil=>exact .nil
 |@cons x e kv l hd tl ih =>
  by_cases c:e.1=h
  ·rw[Jm (hd.1.trans (congrArg _ c)),yd,dh,aj (by rw[decide_eq_true_eq];exact λz=>z c)]
   exact ih
  ·rw[Xo (by rw[hd.1];exact λz=>c (l8 z)),yd,dh,am (Bj c)]
   exact .cons hd ih
theorem Pk.put(p:Pk R kv l)(n:h ∉ l.map (·.1))(r:R h v b):Pk R (yA kv (.inl h) v) (l++[(h,b)]):=by
 rcases p.get (h:=h) with ⟨e,_⟩|⟨v,b,_,m,_⟩
 ·rw[vQ _ e]
  exact Paired.snocP p ⟨rfl,r⟩
 ·exact absurd (bu (f:=λe:Int×β=>e.1) m) n
theorem Pk.set(p:Pk R kv l)(nd:(l.map (·.1)).Nodup)(f:∀k v b',(k,b')∈l->k≠h->R k v b'->R' k v b')(g:∀v,z4 kv (.inl h)=aa v->R' h v b):Pk R' kv (XA l h b):=by
 unfold Pk at p
 induction p with
 |nil=>exact .nil
 |@cons x e kv l hd tl ih =>
  rw[bo,bZ] at nd
  have f':=λk v b' m=>f k v b' (bn e m)
  by_cases c:e.1=h
  ·refine .cons ?_ (ih nd.2 f' λv z=>?_)
   ·dsimp only
    rw[am c]
    subst c
    exact⟨hd.1,g _ (yG hd.1)⟩
   ·rcases Pk.get (R:=R) tl (h:=h) with ⟨y,_⟩|⟨_,b',_,m,_⟩
    ·rw[y] at z;cases z
    ·exact absurd (bu (f:=λe:Int×β=>e.1) m) (by rw[<-c];exact nd.1)
  ·refine .cons ?_ (ih nd.2 f' λv z=>g v ((yH (by rw[hd.1];exact λz=>c (l8 z))).trans z))
   dsimp only
   rw[aj c]
   exact⟨hd.1,f _ _ _ bq c hd.2⟩
end
theorem dkF{P:Str->Option ae}(T:Txt K P t):DkF K t:=⟨T.q0a,T.q0k,T.q1l,T.q23,T.q28,T.q22,T.q20,T.q27,T.q24,T.q26,T.q25,T.q21,T.q2c,T.q2b,T.q2d,T.q2a,T.q2p⟩
section
variable {H':Hp}{lb lb':ac->Nat}{L L':List (ac×HO)}{m re b:ac}{g:List Row}{lays:List (Int×List Row)}{P:Pl->Int->Prop}{cs:List V}{CC:List (List Cs)}{n rank:Int}{la:List (Key×V)}{o o' wo:HO}{i:Nat}{r:ac}{no gi:List Row}{ld:List (Int×RSt×List Row)}{s:RSt}{M:Nat->Prop}
theorem TSm.of(s:Same H H'):TSm H H':=λ_ _ e=>s _ _ e
theorem DkO.at(h:DkO t H lb L m re g lays P cs CC)(e:L[i]?=aa (b,o)):H b=aa o:=(h.ob i b o e).1
theorem DkO.lb_(h:DkO t H lb L m re g lays P cs CC)(e:L[i]?=aa (b,o)):lb b=i+1:=(h.ob i b o e).2
theorem DkO.core2{P':Pl->Int->Prop}(h:DkO t H lb L m re g lays P cs CC)(e:∀b,lb b≠0->lb' b=lb b)(e':∀b,lb b=0->lb' b=0\/lb' b=11/\∃o,H' b=aa o)(ob:∀i b o,L'[i]?=aa (b,o)->H' b=aa o/\lb b=i+1)(k:∀b o,lb b=10\/lb b=13->H b=aa o->H' b=aa o)(rr:∃kk,RkAt H' re (λb=>lb' b=11) P' kk)(ts:TSm H H')(al:∀b o,H b=aa o->∃o',H' b=aa o'):DkO t H' lb' L' m re g lays P' cs CC:=by
 have e10:(λb=>lb' b=10)=λb=>lb b=10:=funext λb=>propext (by
  rcases lH (lb b) with z|z
  ·rcases e' b z with y|⟨y,_⟩ <;> rw[y,z] <;> decide
  ·rw[e b (by lia)])
 refine⟨λi b o z=>?_,by rw[e10];exact h.ms.keep (λb o fb e=>k b o (.inl fb) e) ts,rr,(e _ (by rw[h.rl];decide)).trans h.rl,Paired.mapP h.cc λv C ⟨⟨c,ys,ev,hc,pc⟩,lc⟩=>⟨⟨c,ys,ev,k c _ (.inr (lc c ev)) hc,xO ts pc⟩,λc ev=>(e c (by rw[lc c ev];decide)).trans (lc c ev)⟩,λb hb=>?_⟩
 ·obtain⟨h1,h2⟩:=ob i b o z
  exact⟨h1,(e b (by lia)).trans h2⟩
 ·rcases lH (lb b) with z|z
  ·rcases e' b z with y|⟨_,y⟩
   ·exact absurd y hb
   ·exact y
  ·obtain⟨o,z⟩:=h.ow b (by lia)
   exact al b o z
theorem DkO.core(h:DkO t H lb L m re g lays P cs CC)(ob:∀i b o,L'[i]?=aa (b,o)->H' b=aa o/\lb b=i+1)(k:∀b o,10<=lb b->lb b<14->H b=aa o->H' b=aa o)(ts:TSm H H')(al:∀b o,H b=aa o->∃o',H' b=aa o'):DkO t H' lb L' m re g lays P cs CC :=
 h.core2 (λ_ _=>rfl) (λ_=>.inl) ob (λb o z e=>k b o (by lia) (by lia) e) (let ⟨kk,z⟩:=h.rr;⟨kk,z.keep h.rl (λb o fb e=>k b o (by rw[fb];decide) (by rw[fb];decide) e) λ_ z=>z⟩) ts al
open Classical in
theorem DkO.regrow{P':Pl->Int->Prop}(h:DkO t H lb L m re g lays P cs CC)(ll:L.length=9)(k:KeepR (λb=>lb b=11\/H b=ai) re H H')(dm:Dm H H')(rr:RkAt H' re (λb=>lb b=11\/H b=ai) P' kk):∃lb',Fr M1 H H' lb lb'/\DkO t H' lb' L m re g lays P' cs CC:=by
 have kp:∀b o,lb b≠11->H b=aa o->H' b=aa o:=λb o z e=>k b o e (λy=>z (by rw[y];exact h.rl)) (.inr λy=>y.elim z λy=>by rw[e] at y;cases y)
 obtain⟨kk0,r0⟩:=h.rr
 have ts:TSm H H':=λb zs e=>k b _ e (zG e r0.at_ (by lia)) (.inl λ_ z=>nomatch z)
 have al:∀b o,H b=aa o->∃o',H' b=aa o':=λb o e=>let ⟨o',z,_⟩:=dm b o e;⟨o',z⟩
 have ln:∀b,lb b≠0->H b≠ai:=λb z y=>by obtain⟨o,e⟩:=h.ow b z;rw[y] at e;cases e
 refine⟨λb=>if H b=ai/\∃o,H' b=aa o then 11 else lb b,⟨λb o e=>aj (λz=>by rw[z.1] at e;cases e),λb o z e=>kp b o (by unfold M1 at z;lia) e,ts,al⟩,h.core2 (λb z=>aj λy=>ln b z y.1) (λb z=>?_) (λi b o z=>?_) (λb o z e=>kp b o (by lia) e) ⟨kk,rr.keep2 rfl (λb xs _ e=>e) λb fb z=>?_⟩ ts al⟩
 ·by_cases y:H b=ai/\∃o,H' b=aa o
  ·exact .inr ⟨am y,y.2⟩
  ·exact .inl ((aj y).trans z)
 ·obtain⟨h1,h2⟩:=h.ob i b o z
  have:=(bf.mp z).1
  exact⟨kp b o (by lia) h1,h2⟩
 ·by_cases y:H b=ai/\∃o,H' b=aa o
  ·exact am y
  ·exact(aj y).trans (fb.resolve_right λw=>y ⟨w,z⟩)
theorem DkO.keep(h:DkO t H lb L m re g lays P cs CC)(ll:L.length=9)(k:∀b o,lb b≠0->lb b<14->H b=aa o->H' b=aa o)(ts:TSm H H')(al:∀b o,H b=aa o->∃o',H' b=aa o'):DkO t H' lb L m re g lays P cs CC :=
 h.core (λi b o e=>by
  obtain⟨h1,h2⟩:=h.ob i b o e
  have:=(bf.mp e).1
  exact⟨k b o (by lia) (by lia) h1,h2⟩) (λb o h1 h2 e=>k b o (by lia) h2 e) ts al
theorem DkO.same(h:DkO t H lb L m re g lays P cs CC)(ll:L.length=9)(s:Same H H'):DkO t H' lb L m re g lays P cs CC:=h.keep ll (λb o _ _ e=>s _ _ e) (TSm.of s) λb o e=>⟨o,s _ _ e⟩
theorem Vs:∀b' u,H b'=aa u->∃u',upd H b o b'=aa u':=λb' u e=>by
 by_cases c:b'=b
 ·exact⟨o,by rw[c];exact zh⟩
 ·exact⟨u,by rw[zi c];exact e⟩
theorem qm(e:H b=aa o)(n:∀zs,o≠.tup zs):TSm H (upd H b o'):=λb' ys e'=>by rw[zi (zG e' e (λz=>n ys z.symm))];exact e'
theorem DkO.put(h:DkO t H lb L m re g lays P cs CC)(ll:L.length=9)(e:L[i]?=aa (b,o))(n:∀zs,o≠.tup zs):DkO t (upd H b o') lb (L.set i (b,o')) m re g lays P cs CC:=by
 have li:=(bf.mp e).1
 obtain⟨eb,lbb⟩:=h.ob i b o e
 refine h.core (λj b2 o2 e2=>?_) (λb2 o2 h1 h2 e2=>?_) (qm eb n) Vs
 ·rw[oK] at e2
  by_cases c:i=j
  ·rw[am c,am (by lia)] at e2
   cases e2
   exact⟨zh,by lia⟩
  ·rw[aj c] at e2
   obtain⟨h1,h2⟩:=h.ob j b2 o2 e2
   exact⟨by rw[zi (λz=>by rw[z] at h2;lia)];exact h1,h2⟩
 ·rw[zi (λz=>by rw[z] at h1;lia)];exact e2
theorem Fr.mono{M':Nat->Prop}(h:Fr M H H' lb lb')(k:∀l,M' l->M l):Fr M' H H' lb lb':=⟨h.ex,λb o z e=>h.kp b o (k _ z) e,h.ts,h.al⟩
theorem Fr.m0(h:Fr M1 H H' lb lb'):Fr M0 H H' lb lb':=h.mono λl z=>z.imp id λy=>by lia
theorem Fr.same(s:Same H H'):Fr M H H' lb lb:=⟨λ_ _ _=>rfl,λ_ _ _ e=>s _ _ e,λ_ _ e=>s _ _ e,λ_ o e=>⟨o,s _ _ e⟩⟩
theorem Fr.trans{H2:Hp}{lb2:ac->Nat}(h:Fr M H H' lb lb')(k:Fr M H' H2 lb' lb2):Fr M H H2 lb lb2 :=
 ⟨λb o e=>let ⟨o',e'⟩:=h.al b o e;(k.ex b o' e').trans (h.ex b o e),λb o z e=>k.kp b o (by rw[h.ex b o e];exact z) (h.kp b o z e),λb zs e=>k.ts b zs (h.ts b zs e),λb o e=>let ⟨o',e'⟩:=h.al b o e;k.al b o' e'⟩
theorem DkO.fput(h:DkO t H lb L m re g lays P cs CC)(e:L[i]?=aa (b,o))(n:∀zs,o≠.tup zs)(ll:i<9:=by lia):Fr M1 H (upd H b o') lb lb:=by
 have l:=h.lb_ e
 exact⟨λ_ _ _=>rfl,λb2 u z e2=>by rw[zi (λy=>by rw[y,l] at z;unfold M1 at z;lia)];exact e2,qm (h.at e) n,Vs⟩
theorem zgn(h:LsAt H l rows)(F:Fr M H H' lb lb')(k:M 14)(z:lb l=14):LsAt H' l rows:=by
 obtain⟨xs,hx,hp⟩:=h
 exact⟨xs,F.kp _ _ (by rw[z];exact k) hx,Paired.mapP hp λ_ _ y=>L2.PrAt.tsame y F.ts⟩
theorem PprAt.fr(h:PprAt H lb r no gi)(F:Fr M H H' lb lb')(k:M 14):PprAt H' lb' r no gi:=by
 obtain⟨o,nl,gl,e,h1,h2,z1,z2⟩:=h
 obtain⟨xs,hx,hp⟩:=id h1
 obtain⟨ys,hy,hq⟩:=id h2
 exact⟨o,nl,gl,F.ts _ _ e,zgn h1 F k z1,zgn h2 F k z2,(F.ex _ _ hx).trans z1,(F.ex _ _ hy).trans z2⟩
theorem ww(h:Pk (KA H lb) la ld)(F:Fr M H H' lb lb')(k:M 14):Pk (KA H' lb') la ld:=Paired.mapP h λ_ _ ⟨e,r,er,hr⟩=>⟨e,r,er,hr.fr F k⟩
theorem DkO.out(h:DkO t H lb L m re g lays P cs CC)(e:H b=ai):lb b=0:=fh λz=>by obtain⟨o,y⟩:=h.ow b z;rw[e] at y;cases y
theorem Zt{vs:List V}{_E:XK}(MF:MkF K t)(h:xD t vs H Q _E) :
  vz K t (qqN Q) (L2.start ["self","place","rank","ranks","above"] vs) H:=by
 obtain⟨m,p,rank,F,g,lays,q0,rfl,h1,h2,q⟩:=h
 obtain⟨dx,gr,wo,rk,wk,kk,M⟩:=MrAt.ex h1
 refine(ym M.im MF.cl MF.r rfl zfT ⟨rk,rfl,.inr ⟨_,.inl M.rr.at_⟩,_,rfl,by lia,λl hl=>?_⟩)
 generalize c_:upd H l _=H2
 obtain⟨s2,q2⟩:=xk c_ hl
 have M2:=M.keep h1.me λb o _ e=>s2 _ _ e
 refine⟨_,.t M2.rr.at_ (s2 _ _ h2),?_⟩
 have go:∃(c:ac) (rs:List Int),((z4 kk (zC q0)).getD (.ref l))=.ref c/\H2 c=aa (.lst (rs.map V.int))/\rs.Pairwise (· < ·):=by
  rcases M2.rr.get q0 with ⟨c,rs,hk,hv,fa,ha,hs,hne,hi⟩|⟨hv,_,_⟩
  ·exact⟨c,rs,by rw[hv];rfl,ha,hs⟩
  ·exact⟨l,[],by rw[hv];rfl,q2,fo⟩
 obtain⟨c,rs,ev,ha,hs⟩:=go
 rw[ev]
 refine⟨_,rfl,_,rfl,_,_,rfl,rfl,c,rs,_,rfl,ha,hs,λk H3 s3 hk _ _=>?_⟩
 have e3:=s3 _ _ ha
 refine⟨_,rfl,_,rfl,.ref c,rs.length,rfl,.inl ⟨_,SqL.of e3,(bd ..).symm⟩,rfl,_,rfl,?_⟩
 by_cases z:k=rs.length
 ·exact yY (Bj (by rw[z])) (q _ H3 (s2.trans s3) (.inl rfl))
 ·refine ya (Bk (λy=>z (by injection y with y;lia))) ?_
  exact⟨_,rfl,_,rfl,c,_,k,_,rfl,rfl,SqL.of e3,yf (by rw[bp,bb (show k<rs.length by lia)];rfl),q _ H3 (s2.trans s3) (.inr ⟨_,rfl⟩)⟩
end
section
variable {H':Hp}{lb:ac->Nat}{L:List (ac×HO)}{d b:ac}{a:DAd}{g:List Row}{lays:List (Int×List Row)}{P:Pl->Int->Prop}{cs en:List V}{CC:List (List Cs)}{n f rank:Int}{ws db:List Int}{kv la:List (Key×V)}{o o' wo:HO}{i:Nat}{r:ac}{no gi:List Row}{ld:List (Int×RSt×List Row)}{s:RSt}
theorem zhi(x:Int):∃db',yA (dbL db) (.inl x) (.bl af)=dbL db'/\(db.Nodup->db'.Nodup)/\∀y,y∈db'↔y∈db\/y=x:=by
 by_cases c:x∈db
 ·refine⟨db,?_,id,λy=>⟨.inl,λz=>z.elim id λz=>by rw[z];exact c⟩⟩
  unfold yA
  rw[am (iH.mpr ⟨(.inl x,.bl af),bu (f:=λr=>((.inl r:Key),V.bl af)) c,Bj rfl⟩)]
  refine(dA λkv hk=>?_).trans (List.map_id _)
  obtain⟨y,_,rfl⟩:=bE.mp hk
  split <;> rfl
 ·refine⟨db++[x],?_,λnd=>?_,λy=>by rw[bx,br]⟩
  ·rw[vQ _ (KG λz=>?_)]
   ·unfold dbL;rw[bM];rfl
   rw[dbL,df] at z
   obtain⟨y,hy,e⟩:=bE.mp z
   exact c (by rw[<-l8 e];exact hy)
  ·refine dH.mpr ⟨nd,by simp,λy hy z hz e=>c ?_⟩
   rw[<-br.mp hz,<-e];exact hy
theorem zb4(x:Int):ye (dbL db) (.inl x)=dbL (db.filter λy=>decide (y≠x)):=by
 unfold ye dbL
 rw[List.filter_map]
 congr 1
 refine List.filter_congr λy _=>?_
 show decide ((gL y:Key)≠.inl x)=decide (y≠x)
 simp
theorem zeO{x:Int}(h:x∈db):z4 (dbL db) (.inl x)=aa (.bl af):=by
 cases e:z4 (dbL db) (.inl x) with
 |none =>
  refine absurd ?_ (Qu e)
  rw[dbL,df]
  exact bu (f:=λy:Int=>(gL y:Key)) h
 |some v =>
  obtain⟨p,hp,rfl⟩:=zdG e
  obtain⟨y,_,rfl⟩:=bE.mp hp
  rfl
theorem DbOk.len(h:DbOk ld db):db.length<=ld.length:=by
 have:=wG h.nd h.su
 rwa [bd] at this
theorem zf0{lo hi:Option Int}(h:x∈jX xs lo hi):x∈xs:=cZ (dt h)
theorem DkO.dbt(x:Int)(h:DkO t H lb (dkL t d a n f wo cs ws kv la db en) a.mks a.re g lays P cs CC)(l:db.length<=100):∃H' db',DPut H a.db (.int x) (.bl af) H'/\Fr M1 H H' lb lb/\DkO t H' lb (dkL t d a n f wo cs ws kv la db' en) a.mks a.re g lays P cs CC/\(db.Nodup->db'.Nodup)/\(∀y,y∈db'↔y∈db\/y=x)/\∀b o,b≠a.db->H b=aa o->H' b=aa o:=by
 obtain⟨db',e,nd,mm⟩:=zhi (db:=db) x
 have h2:=h.put (i:=7) (o':=.dK (dbL db')) rfl rfl (by lia)
 have F2:=h.fput (i:=7) (o':=.dK (dbL db')) rfl (by lia)
 have z:=DPut.k (k:=.inl x) (v:=.bl af) (h.at (i:=7) rfl) (by rw[bS];unfold dbL;rw[bd];lia)
 rw[e] at z
 exact⟨_,db',z,F2,h2,nd,mm,λb o z e=>by rw[zi z];exact e⟩
theorem Vt{c p:ac}{rs:List Int}{k:Nat}{v4:V}(D:DkF K t)(h:DkO t H lb (dkL t d a n f wo cs ws kv la db en) a.mks a.re g lays (rdP ld) cs CC)(hd:DbOk ld db)(l10:ld.length<=10)(hc:H c=aa (.lst (rs.map V.int)))(hs:rs.Pairwise (· < ·))(hr:∀r∈rs,r∈ld.map (·.1))(q:∀H' db',Fr M1 H H' lb lb->DkO t H' lb (dkL t d a n f wo cs ws kv la db' en) a.mks a.re g lays (rdP ld) cs CC->DbOk ld db'->Q .non H') :
  qA K t (qqN Q) [aa (.ref a.jb),aa (.ref p),aa (.int rank),aa (.ref c),aa v4,aa (.int k),ai] H:=by
 refine⟨_,rfl,_,rfl,_,rfl,_,_,rfl,rfl,c,rs,_,rfl,hc,hs,λk1 H1 s1 _ _ _=>⟨k1,rfl,_,rfl,k,rfl,c,_,rfl,SqL.of (s1 _ _ hc),λz hz=>?_⟩⟩
 have cm:∀x∈jX (rs.map V.int) (aa (k1:Int)) (aa (k:Int)),∃y∈rs,V.int y=x:=λx hx=>bE.mp (zf0 hx)
 generalize jX (rs.map V.int) (aa (k1:Int)) (aa (k:Int))=ys at *
 have h1:=h.same rfl s1
 generalize c_:upd H1 z _=H2
 obtain⟨s2,e2⟩:=xk c_ hz
 refine⟨z,rfl,⟨_,SqL.of e2⟩,yU ys (λi σ H'=>(∃o6,σ=[aa (.ref a.jb),aa (.ref p),aa (.int rank),aa (.ref c),aa v4,aa (.int k),o6])/\H' z=aa (.lst ys)/\Fr M1 H H' lb lb/\∃db',DkO t H' lb (dkL t d a n f wo cs ws kv la db' en) a.mks a.re g lays (rdP ld) cs CC/\DbOk ld db') ⟨⟨_,rfl⟩,e2,Fr.same (s1.trans s2),db,h1.same rfl s2,hd⟩ (λi σ H' ⟨_,z,_⟩=>SqL.of z) ?_ ?_⟩
 ·rintro i u σ H' hu ⟨⟨o6,rfl⟩,hz',F,db',h',hd'⟩
  obtain⟨x,hx,rfl⟩:=cm u (bW hu)
  have ll:=hd'.len
  obtain⟨H4,db4,dp,F4,h4,nd4,mm4,k4⟩:=h'.dbt x (by lia)
  exact ym (h'.at (i:=2) rfl) D.cJ D.j4 rfl rfl ⟨_,rfl,a.db,H4,rfl,dp,⟨_,rfl⟩,k4 _ _ (zG hz' (h'.at (i:=7) rfl) (by lia)) hz',F.trans F4,db4,h4,nd4 hd'.nd,λy hy=>((mm4 y).mp hy).elim (hd'.su y) λe=>by rw[e];exact hr x hx⟩
 ·rintro σ H' ⟨_,_,F,db',h',hd'⟩
  exact q H' db' F h' hd'
theorem Vu{vs:List V}{_E:XK}(D:DkF K t)(h:jP t vs H Q _E) :
  ZZ K t (qqN Q) (L2.start ["self","place","rank","readers","above","behind","reader"] vs) H:=by
 obtain⟨d,a,lb,n,f,wo,cs,ws,kv,la,db,en,g,lays,ld,CC,p,rank,q0,rfl,h,hd,l10,hp,q⟩:=h
 obtain⟨kk,r0⟩:=h.rr
 have e1:H a.jb=aa (.ins t.q03 a.dj (VO a.mks a.la a.re a.db)):=h.at (i:=2) rfl
 refine(ym e1 D.cJ D.j3 rfl rfl ⟨a.re,rfl,.inr ⟨_,.inl r0.at_⟩,_,rfl,by lia,λl hl=>?_⟩)
 generalize c_:upd H l _=H2
 obtain⟨s2,q2⟩:=xk c_ hl
 have h2:=h.same rfl s2
 obtain⟨dx,gr,wo',rk,wk,kx,M⟩:=MrAt.ex h2.ms
 refine⟨_,.t (s2 _ _ r0.at_) (s2 _ _ hp),?_⟩
 have go:∃(c:ac) (rs:List Int),((z4 kk (zC q0)).getD (.ref l))=.ref c/\H2 c=aa (.lst (rs.map V.int))/\rs.Pairwise (· < ·)/\∀r∈rs,r∈ld.map (·.1):=by
  rcases r0.get q0 with ⟨c,rs,hk,hv,fa,ha,hs,hne,hi⟩|⟨hv,_,_⟩
  ·refine⟨c,rs,by rw[hv];rfl,s2 _ _ ha,hs,λr hr=>?_⟩
   obtain⟨e,he,er,_⟩:=(hi r).mp hr
   exact bE.mpr ⟨e,he,er⟩
  ·exact⟨l,[],by rw[hv];rfl,q2,fo,λ_ z=>nomatch z⟩
 obtain⟨c,rs,ev,ha,hs,hr⟩:=go
 rw[ev]
 refine(ym (s2 _ _ e1) D.cJ D.j1 rfl rfl ⟨a.mks,_,_,rfl,M.im,ki (by lia),_,rfl,_,rfl,a.mks,p,rank,_,g,lays,q0,rfl,h2.ms,s2 _ _ hp,λv H3 s3 hv=>?_⟩)
 have h3:=h2.same rfl s3
 have S3:=s2.trans s3
 rcases hv with rfl|⟨i,rfl⟩
 ·exact⟨_,rfl,rfl,_,rfl,yY rfl ⟨_,rfl,.ref c,rs.length,rfl,.inl ⟨_,SqL.of (s3 _ _ ha),(bd ..).symm⟩,Vt D h3 hd l10 (s3 _ _ ha) hs hr λH' db' F=>q H' db' ((Fr.same S3).trans F)⟩⟩
 ·refine⟨_,rfl,rfl,_,rfl,ya rfl ⟨_,rfl,_,rfl,_,_,rfl,rfl,c,rs,_,rfl,s3 _ _ ha,hs,λk H4 s4 _ _ _=>?_⟩⟩
  exact Vt D (h3.same rfl s4) hd l10 (s4 _ _ (s3 _ _ ha)) hs hr λH' db' F=>q H' db' ((Fr.same (S3.trans s4)).trans F)
theorem qE(D:DkF K t)(h:DkO t H lb L a.mks a.re g lays P cs CC)(l2:L[2]?=aa (a.jb,.ins t.q03 a.dj (VO a.mks a.la a.re a.db)))(l6:L[6]?=aa (a.la,.dK la))(hv:z4 la (.inl rank)=aa (.ref r))(h0:0<=rank)(hp:PprAt H lb r no gi)(q1:∀H',Same H H'->Q .non H')(q2:∀v H' q y,Same H H'->y∈no->yE g lays y.1 rank≠y.2->H' v=aa (.tup [.ref q,.int y.2,.int (yE g lays y.1 rank)])->H' q=aa (.tup [.str y.1.1,.int y.1.2])->Q (.ref v) H') :
  va K t (qqN Q) (L2.start ["self","rank","place","worth","now"] [.ref a.jb,.int rank]) H:=by
 obtain⟨o,nl,gl,e,⟨xs,hx,px⟩,_,z1,z2⟩:=hp
 have e1:=h.at l2
 have e2:=h.at l6
 obtain⟨dx,fs,im,_,sn,_⟩:=h.ms.ins
 have dg:DGet H a.la (.int rank) (aa (.ref r)):=by
  have z:=DGet.k (k:=.inl rank) e2
  rwa [hv] at z
 refine(ym e1 D.cJ D.j2 rfl rfl ⟨_,rfl,a.la,_,rfl,dg,r,_,1,_,rfl,rfl,SqT.of e,rfl,nl,rfl,⟨_,SqL.of hx⟩,yU xs (λ_ σ H'=>(∃o2 o3 o4,σ=[aa (.ref a.jb),aa (.int rank),o2,o3,o4])/\Same H H') ⟨⟨_,_,_,rfl⟩,Same.refl _⟩ (λi σ H' ⟨_,s⟩=>SqL.of (s _ _ hx)) ?_ ?_⟩)
 ·rintro i u σ H' hu ⟨⟨o2,o3,o4,rfl⟩,s⟩
  obtain⟨y,hy,w,p,rfl,ew,ep⟩:=Paired.getP px hu
  refine⟨w,_,rfl,SqT.of (s _ _ ew),rfl,_,_,rfl,_,_,rfl,rfl,ym (s _ _ e1) D.cJ D.j1 rfl rfl ⟨a.mks,_,_,rfl,s _ _ im,sn,_,rfl,_,rfl,a.mks,p,rank,_,g,lays,y.1,rfl,h.ms.same s,h0,s _ _ ep,λH2 s2=>?_⟩⟩
  refine⟨_,rfl,_,rfl,rfl,_,rfl,?_⟩
  by_cases c:yE g lays y.1 rank=y.2
  ·exact ya (by rw[Bj (congrArg V.int c)];rfl) ⟨⟨_,_,_,rfl⟩,s.trans s2⟩
  ·refine yY (by rw[Bk (λz=>c (V.int.inj z))];rfl) ⟨_,rfl,_,rfl,_,rfl,by show 3<=Bb;rw[bS];decide,λp' hp'=>?_⟩
   have s3:=isV (o:=HO.tup [V.ref p,V.int y.2,V.int (yE g lays y.1 rank)]) p' hp'
   exact q2 p' _ p y (s.trans (s2.trans s3)) (bW hy) c zh (s3 _ _ (s2 _ _ (s _ _ ep)))
 ·rintro σ H' ⟨_,s⟩
  exact q1 H' s
end
section
variable {H':Hp}{lb lb':ac->Nat}{d b:ac}{a:DAd}{g:List Row}{lays:List (Int×List Row)}{P:Pl->Int->Prop}{cs en:List V}{CC:List (List Cs)}{n f rank:Int}{ws db:List Int}{kv la:List (Key×V)}{o o' wo:HO}{i:Nat}{r:ac}{no gi:List Row}{ld:List (Int×RSt×List Row)}{s:RSt}
theorem kB{vs:List V}{_E:XK}(D:DkF K t)(h:y7 t vs H Q _E) :
  wj K t (qqN Q) (L2.start ["self","ranks","rank","note"] vs) H:=by
 obtain⟨d,a,lb,n,f,wo,cs,ws,kv,la,db,en,g,lays,ld,CC,rfl,h,hl,hd,l10,h0,q1,q2⟩:=h
 have ll:=hd.len
 refine(ym (h.at (i:=2) rfl) D.cJ D.j4 rfl rfl ⟨a.db,dbL db,db,rfl,h.at (i:=7) rfl,by unfold dbL;rw[df];rfl,by unfold dbL;rw[bd];lia,λl srt hl0 hs hp=>?_⟩)
 have nd:srt.Nodup:=hs.nodup_iff.mpr hd.nd
 generalize c_:upd H l _=H2
 obtain⟨s2,e2⟩:=xk c_ hl0
 refine⟨_,rfl,l,rfl,⟨_,SqL.of e2⟩,yU (srt.map V.int) (λi σ H'=>(∃o2 o3,σ=[aa (.ref a.jb),aa (.ref l),o2,o3])/\H' l=aa (.lst (srt.map V.int))/\Fr M1 H H' lb lb/\∃db',DkO t H' lb (dkL t d a n f wo cs ws kv la db' en) a.mks a.re g lays (rdP ld) cs CC/\DbOk ld db'/\∀r∈srt.drop i,r∈db') ⟨⟨_,_,rfl⟩,e2,Fr.same s2,db,h.same rfl s2,hd,λr hr=>hs.mem_iff.mp hr⟩ (λi σ H' ⟨_,z,_⟩=>SqL.of z) ?_ ?_⟩
 ·rintro i u σ H' hu ⟨⟨o2,o3,rfl⟩,hl',F,db',h',hd',su⟩
  rw[bp] at hu
  obtain⟨x,hx,rfl⟩:=b6.mp hu
  have li:=(bf.mp hx).1
  have ex:srt[i]=x:=(bf.mp hx).2
  have ed:srt.drop i=x::srt.drop (i+1):=by rw[gD li,ex]
  have xd:x∈db':=su x (by rw[ed];exact bq)
  obtain⟨e,he,rfl⟩:=bE.mp (hd'.su x xd)
  have hlF:=ww hl F (M:=M1) (.inr (by lia))
  rcases hlF.get (h:=e.1) with ⟨_,z⟩|⟨v,b,hv,hm,r,rfl,hr⟩
  ·exact absurd (bu (f:=λe:Int×RSt×List Row=>e.1) he) z
  refine⟨_,rfl,a.jb,_,_,rfl,h'.at (i:=2) rfl,rfl,_,rfl,d,a,lb,_,la,g,lays,_,cs,CC,e.1,r,b.1.no,b.2,rfl,h',rfl,rfl,hv,h0 e he,hr,λH3 s3=>?_,λv H3 q y s3 hy hn h3 hq=>?_⟩
  ·have h3:=h'.same rfl s3
   refine⟨_,rfl,rfl,_,rfl,ya rfl (ym (h3.at (i:=2) rfl) D.cJ D.j4 rfl rfl ⟨a.db,rfl,.inl ⟨_,.inl (h3.at (i:=7) rfl)⟩,_,rfl,dbL db',.inl e.1,_,h3.at (i:=7) rfl,rfl,zeO xd,?_⟩)⟩
   rw[zb4]
   have h4:=h3.put (i:=7) (o':=.dK (dbL (db'.filter λy=>decide (y≠e.1)))) rfl rfl (by lia)
   have F4:=h3.fput (i:=7) (o':=.dK (dbL (db'.filter λy=>decide (y≠e.1)))) rfl (by lia)
   refine⟨⟨_,_,rfl⟩,by rw[zi (zG (s3 _ _ hl') (h3.at (i:=7) rfl) (by lia))];exact s3 _ _ hl',F.trans ((Fr.same s3).trans F4),_,h4,⟨hd'.nd.sublist dD,λr hr=>hd'.su r (cH.mp hr).1⟩,λr hr=>cH.mpr ⟨su r (by rw[ed];exact bn _ hr),Bj λz=>?_⟩⟩
   have nd':=nd.sublist (oI i srt)
   rw[ed,bZ] at nd'
   exact nd'.1 (by rw[<-z];exact hr)
  ·have h3':=h'.same rfl s3
   refine⟨_,rfl,rfl,_,rfl,yY rfl ⟨_,rfl,by show 1<=Bb;rw[bS];decide,λp1 hp1=>?_⟩⟩
   generalize c_:upd H3 p1 _=H4
   obtain⟨s4,e4⟩:=xk c_ hp1
   refine⟨_,rfl,p1,v,_,_,rfl,rfl,SqT.of e4,SqT.of (s4 _ _ h3),(by lia),by show 1+3<=Bb;rw[bS];decide,?_⟩
   refine⟨(by lia),λ_ p2 hp2=>?_⟩
   have s5:=isV (o:=HO.tup [V.int e.1,V.ref q,V.int y.2,V.int (yE g lays y.1 e.1)]) p2 hp2
   exact q2 p2 _ db' q e.1 b.1 b.2 y (F.trans (Fr.same (s3.trans (s4.trans s5)))) (h3'.same rfl (s4.trans s5)) hd' hm hy hn zh (s5 _ _ (s4 _ _ hq))
 ·rintro σ H' ⟨_,_,F,db',h',hd',_⟩
  exact q1 H' db' F h' hd'
theorem zb5{gs:List Row}{r0:Row}(nd:(gs.map (·.1)).Nodup)(h:gs[i]?=aa r0):r0.1 ∉ (gs.take i).map (·.1):=λz=>by
 obtain⟨j,hj⟩:=cP z
 rw[bp,fO] at hj
 split at hj
 ·rename_i hji
  have a1:(gs.map (·.1))[j]?=aa r0.1:=by rw[bp];exact hj
  have a2:(gs.map (·.1))[i]?=aa r0.1:=by rw[bp,h];rfl
  have:=(gg (bf.mp a1).1 nd).mp (a1.trans a2.symm)
  lia
 ·cases hj
theorem zav{gs:List Row}{r0:Row}{p:Pl}(h:gs[i]?=aa r0):p∈(gs.take (i+1)).map (·.1)↔p∈(gs.take i).map (·.1)\/p=r0.1:=by
 rw[dU,h,bM,bx]
 have:p∈cQ (·.1) (aa r0).toList↔p=r0.1:=by simp
 rw[this]
theorem zf1{β:Type}{x y:Int×β}:∀ {l:List (Int×β)},(l.map (·.1)).Nodup->x∈l->y∈l->x.1=y.1->x=y
 |z::l,nd,hx,hy,e=>by
  rw[bo,bZ] at nd
  rcases bD.mp hx with h1|h1 <;> rcases bD.mp hy with h2|h2
  ·rw[h1,h2]
  ·exact absurd (bE.mpr ⟨y,h2,by rw[<-e,h1]⟩) nd.1
  ·exact absurd (bE.mpr ⟨x,h1,by rw[e,h2]⟩) nd.1
  ·exact zf1 nd.2 h1 h2 e
def tkI(a:DAd)(v:V)(rank:Int)(G:ac->Prop)(P:Pl->Int->Prop)(no:List Row)(H:Hp)(i:Nat)(σ:St)(H':Hp):Prop:=(∃o3 o4,σ=[aa (.ref a.jb),aa (.int rank),aa v,o3,o4])/\KeepR G a.re H H'/\Dm H H'/\∃kk,RkAt H' a.re G (λp j=>P p j/\¬ (j=rank/\p∈(no.take i).map (·.1))) kk
theorem Y6{vs:List V}{_E:XK}(D:DkF K t)(h:xz t vs H Q _E) :
  ko K t (qqN Q) (L2.start ["self","rank","paper","place","worth"] vs) H:=by
 obtain⟨d,a,lb,n,f,wo,cs,ws,kv,la,db,en,g,lays,ld,CC,rank,s,gi,rfl,h,hl,hd,nl,hm,nd,q⟩:=h
 rcases hl.get (h:=rank) with ⟨_,z⟩|⟨v,b,hv,hb,r,rfl,hr⟩
 ·exact absurd (bu (f:=λe:Int×RSt×List Row=>e.1) hm) z
 obtain rfl:b=(s,gi):=by have:=zf1 nl hb hm rfl;injection this
 refine(ym (h.at (i:=2) rfl) D.cJ D.j2 rfl rfl ⟨a.la,rfl,.inl ⟨_,.inl (h.at (i:=6) rfl)⟩,_,rfl,_,.inl rank,_,h.at (i:=6) rfl,rfl,hv,?_⟩)
 have h2:=h.put (i:=6) (o':=.dK (ye la (.inl rank))) rfl rfl (by lia)
 have F2:=h.fput (i:=6) (o':=.dK (ye la (.inl rank))) rfl (by lia)
 generalize upd H a.la (.dK (ye la (.inl rank)))=H2 at *
 have h2:DkO t H2 lb (dkL t d a n f wo cs ws kv (ye la (.inl rank)) db en) a.mks a.re g lays (rdP ld) cs CC:=h2
 have fin:∀H3 db3,Fr M1 H H3 lb lb->DkO t H3 lb (dkL t d a n f wo cs ws kv (ye la (.inl rank)) db3 en) a.mks a.re g lays (rdP ld) cs CC->DbOk (yd ld rank) db3->zm (jG (xW K (tOp (yp K) (zb 2) (tC (.int 1)))) (zc5 K 2 (YE (zp 3) (YE (zp 4) zc4))) (z5 (zT xx [] E0 (zc (zO K (zb 0) "readers") (zc (zb 3) (zc (zb 1) zk)))))) (zJ (zb 2)) (qqN Q) [aa (.ref a.jb),aa (.int rank),aa (.ref r),ai,ai] H3:=λH3 db3 F3 h3 hd3=>by
  obtain⟨o,nl',gl,er,⟨xs,hx,px⟩,_,z1,z2⟩:=hr.fr F3 (.inr (by lia))
  have e1:H3 a.jb=aa (.ins t.q03 a.dj (VO a.mks a.la a.re a.db)):=h3.at (i:=2) rfl
  have rl:=h3.rl
  obtain⟨kk,r0⟩:=h3.rr
  refine⟨_,rfl,r,_,1,_,rfl,rfl,SqT.of er,rfl,nl',rfl,⟨_,SqL.of hx⟩,yU xs (tkI a (.ref r) rank (λb=>lb b=11\/H3 b=ai) (rdP ld) s.no H3) ⟨⟨_,_,rfl⟩,KeepR.refl,Dm.refl,kk,(r0.keep (F':=λb=>lb b=11\/H3 b=ai) rl (λb o _ e=>e) λ_ z=>.inl z).eqv λp i=>by simp⟩ (λi σ H' ⟨_,k,_⟩=>SqL.of (k _ _ hx (λz=>by rw[z,rl] at z1;cases z1) (.inr λz=>z.elim (λy=>by rw[z1] at y;cases y) λy=>by rw[hx] at y;cases y))) ?_ ?_⟩
  ·rintro i u σ H' hu ⟨⟨o3,o4,rfl⟩,k,dm,kk',hr'⟩
   obtain⟨y,hy,w,p,rfl,ew,ep⟩:=Paired.getP px hu
   have tk:∀b zs,H3 b=aa (.tup zs)->H' b=aa (.tup zs):=λb zs e=>k _ _ e (zG e r0.at_ (by lia)) (.inl λ_ z=>nomatch z)
   refine⟨w,_,rfl,SqT.of (tk _ _ ew),rfl,_,_,rfl,_,_,rfl,rfl,ym (k _ _ e1 (zG e1 r0.at_ (by lia)) (.inl λ_ z=>nomatch z)) D.cJ D.j3 rfl rfl ⟨_,rfl,_,rfl,a.re,p,rank,_,_,kk',y.1,rfl,hr',.inl rl,tk _ _ ep,⟨⟨_,hm,rfl,bu (bW hy)⟩,λz=>zb5 nd hy z.2⟩,λH3 kk3 k3 d3 r3=>⟨⟨_,_,rfl⟩,k.trans k3,dm.trans d3,kk3,r3.eqv λp j=>?_⟩⟩⟩
   rw[zav hy]
   exact⟨λ⟨⟨a,b⟩,c⟩=>⟨a,λd=>d.2.elim (λe=>b ⟨d.1,e⟩) λe=>c ⟨d.1,e⟩⟩,λ⟨a,b⟩=>⟨⟨a,λc=>b ⟨c.1,.inl c.2⟩⟩,λc=>b ⟨c.1,.inr c.2⟩⟩⟩
  ·rintro σ H' ⟨⟨o3,o4,rfl⟩,k,dm,kk',hr'⟩
   rw[bL px,eR] at hr'
   obtain⟨lb',F4,h4⟩:=h3.regrow rfl k dm (hr'.eqv (P':=rdP (yd ld rank)) λp i=>⟨λ⟨⟨e,he,ei,ep⟩,z⟩=>⟨e,dropH_mem.mpr ⟨he,λy=>z ⟨ei.symm.trans y,by rw[zf1 nl he hm y] at ep;exact ep⟩⟩,ei,ep⟩,λ⟨e,he,ei,ep⟩=>⟨⟨e,(dropH_mem.mp he).1,ei,ep⟩,λz=>(dropH_mem.mp he).2 (ei.trans z.1)⟩⟩)
   have F5:=F3.trans F4
   exact⟨_,rfl,q r H' lb' _ db3 F5 h4 (ww hl F5 (.inr (by lia))).drop hd3⟩
 have mem:∀x,x∈db->x≠rank->x∈(yd ld rank).map (·.1):=λx hx n=>by
  obtain⟨e,he,rfl⟩:=bE.mp (hd.su x hx)
  exact bu (f:=λe:Int×RSt×List Row=>e.1) (dropH_mem.mpr ⟨he,n⟩)
 have h7:H2 a.db=aa (.dK (dbL db)):=h2.at (i:=7) rfl
 refine(ym (h2.at (i:=2) rfl) D.cJ D.j4 rfl rfl ⟨a.db,rfl,.inl ⟨_,.inl h7⟩,_,rfl,dbL db,.inl rank,h7,rfl,λv _=>?_,λz=>?_⟩)
 ·rw[zb4]
  have h4:=h2.put (i:=7) (o':=.dK (dbL (db.filter λy=>decide (y≠rank)))) rfl rfl (by lia)
  have F4:=h2.fput (i:=7) (o':=.dK (dbL (db.filter λy=>decide (y≠rank)))) rfl (by lia)
  exact fin _ _ (F2.trans F4) h4 ⟨hd.nd.sublist dD,λx hx=>mem x (cH.mp hx).1 (of_decide_eq_true (cH.mp hx).2)⟩
 ·exact fin _ _ F2 h2 ⟨hd.nd,λx hx=>mem x hx λe=>by rw[<-e,zeO hx] at z;cases z⟩
end
section
variable {H':Hp}{lb lb':ac->Nat}{L:List (ac×HO)}{m re d b:ac}{a:DAd}{g:List Row}{lays:List (Int×List Row)}{P:Pl->Int->Prop}{cs en:List V}{CC:List (List Cs)}{n f rank:Int}{ws db:List Int}{kv la:List (Key×V)}{o o' wo:HO}{i:Nat}{r:ac}{no gi:List Row}{ld:List (Int×RSt×List Row)}{s:RSt}
open Classical in
theorem DkO.relay{F':ac->Prop}{lays':List (Int×List Row)}(h:DkO t H lb L m re g lays P cs CC)(ll:L.length=9)(k:∀b o,lb b≠10->H b=aa o->H' b=aa o)(ts:TSm H H')(M:MkAt t H' m F' g lays')(f1:∀b,F' b->lb b=10\/H b=ai)(f2:∀b,lb b=10->F' b):∃lb',Fr M1 H H' lb lb'/\DkO t H' lb' L m re g lays' P cs CC:=by
 have e0:∀b,lb b≠0->¬ lb b=10->¬ F' b:=λb z y w=>(f1 b w).elim y λv=>by obtain⟨o,e⟩:=h.ow b z;rw[v] at e;cases e
 have ex:∀b,lb b≠0->(if F' b then 10 else lb b)=lb b:=λb z=>by
  by_cases y:lb b=10
  ·rw[am (f2 b y),y]
  ·rw[aj (e0 b z y)]
 have e10:(λb=>(if F' b then 10 else lb b)=10)=F':=funext λb=>propext ⟨λz=>by
  by_cases y:F' b
  ·exact y
  ·rw[aj y] at z;exact f2 b z,λz=>am z⟩
 have al:∀b o,H b=aa o->∃o',H' b=aa o':=λb o e=>by
  by_cases y:lb b=10
  ·exact M.own b (f2 b y)
  ·exact⟨o,k b o y e⟩
 have rl:=h.rl
 obtain⟨kk,r0⟩:=h.rr
 refine⟨λb=>if F' b then 10 else lb b,⟨λb o e=>?_,λb o z e=>k b o (by unfold M1 at z;lia) e,ts,al⟩,λi b o e=>?_,by rw[e10];exact M,⟨kk,r0.keep rl (λb o fb e=>k b o (by lia) e) λb z=>(ex b (by lia)).trans z⟩,(ex _ (by lia)).trans rl,Paired.mapP h.cc λv C ⟨⟨c,ys,ev,hc,pc⟩,lc⟩=>⟨⟨c,ys,ev,k c _ (by rw[lc c ev];decide) hc,xO ts pc⟩,λc ev=>(ex c (by rw[lc c ev];decide)).trans (lc c ev)⟩,λb hb=>?_⟩
 ·by_cases y:F' b
  ·rw[am y];exact((f1 b y).resolve_right λz=>by rw[z] at e;cases e).symm
  ·rw[aj y]
 ·obtain⟨h1,h2⟩:=h.ob i b o e
  have:=(bf.mp e).1
  exact⟨k b o (by lia) h1,(ex b (by lia)).trans h2⟩
 ·by_cases y:F' b
  ·exact M.own b y
  ·obtain⟨o,e⟩:=h.ow b (λz=>hb ((aj y).trans z))
   exact al b o e
theorem zgo(h:Paired (zcI H) ys (dOf gs)):∀y∈ys,∃c q,y=.ref c/\H c=aa (.tup ((zC q).map kV)):=λy hy=>by
 obtain⟨i,hi⟩:=cP hy
 obtain⟨kv,hk,c,e,hc⟩:=Paired.getP h hi
 obtain⟨qs,eq,_⟩:=zan gs
 have z:=bu (f:=λx:List Key×V=>x.1) (bW hk)
 rw[eq] at z
 obtain⟨q,_,e2⟩:=bE.mp z
 exact⟨c,q,e,by rw[e2];exact hc⟩
theorem zeP{ys:List V}{gs:List Row}(h:Paired (zcI H) ys (dOf gs))(nd:(gs.map (·.1)).Nodup):ys.length=gs.length:=by rw[bL h,XI nd,bd]
def ptI(a:DAd)(r:ac)(rank:Int)(l:ac)(G:ac->Prop)(P:Pl->Int->Prop)(no:List Row)(H:Hp)(i:Nat)(σ:St)(H':Hp):Prop:=(∃o4 o5,σ=[aa (.ref a.jb),aa (.int rank),aa (.ref r),aa (.ref l),o4,o5])/\KeepR G a.re H H'/\Dm H H'/\∃kk,RkAt H' a.re G (λp j=>P p j\/j=rank/\p∈(no.take i).map (·.1)) kk
theorem Y7{vs:List V}{_E:XK}(D:DkF K t)(h:wN t vs H Q _E) :
  kt K t (qqN Q) (L2.start ["self","rank","paper","before","place","worth"] vs) H:=by
 obtain⟨d,a,lb,n,f,wo,cs,ws,kv,la,db,en,g,lays,ld,CC,r,rank,s,gi,rfl,h,hl,hd,nts,l10,nr,h0,ll,hp,nt,q⟩:=h
 have e1:H a.jb=aa (.ins t.q03 a.dj (VO a.mks a.la a.re a.db)):=h.at (i:=2) rfl
 obtain⟨dx,gr,wo',rk,wk,kx,M⟩:=MrAt.ex h.ms
 refine(ym e1 D.cJ D.j1 rfl rfl ⟨a.mks,_,_,rfl,M.im,ki (by lia),_,rfl,_,_,_,_,_,_,rfl,h.ms,λl ys gs H1 s1 hl0 hl1 hy ho=>?_⟩)
 have ok:Wk gs:=ho.elim (λz=>(h.ms.ok _ z).2) λz=>by rw[z.2];exact⟨cU,bP _⟩
 have y63:ys.length<=63:=by rw[zeP hy ok.nd];exact ok.le
 have h1:=h.same rfl s1
 obtain⟨o,nl,gl,er,ln,lg,z1,z2⟩:=hp.fr (Fr.same (M:=M1) s1) (.inr (by lia))
 refine(ym (s1 _ _ e1) D.cJ D.j1 rfl rfl ⟨a.mks,_,_,rfl,s1 _ _ M.im,ki (by lia),_,rfl,_,rfl,r,_,2,_,rfl,rfl,SqT.of er,rfl,_,_,_,_,_,_,_,rfl,h1.ms,h0,lg,(λz=>by rw[z2] at z;cases z),⟨nt.ng,bK nt.lg (by lia)⟩,bK ll (by lia),λH2 F2 k2 t2 m2 f2 g2=>?_⟩)
 obtain⟨lb2,Fr2,h2⟩:=h1.relay rfl k2 t2 m2 f2 g2
 have F2:=(Fr.same s1).trans Fr2
 have e2:H2 a.jb=aa (.ins t.q03 a.dj (VO a.mks a.la a.re a.db)):=h2.at (i:=2) rfl
 have hl2:H2 l=aa (.lst ys):=Fr2.kp _ _ (.inl (h.out hl0)) hl1
 have ky1:=zgo hy
 clear M wk kx
 obtain⟨dx,gr,wo',rk,wk,kx,M⟩:=MrAt.ex h2.ms
 refine⟨_,rfl,ym e2 D.cJ D.j1 rfl rfl ⟨a.mks,_,_,rfl,M.im,ki (by lia),_,rfl,_,_,_,_,_,_,rfl,h2.ms,λl2 ys2 gs2 H3 s3 hl3 hl4 hy2 ho2=>?_⟩⟩
 have ok2:Wk gs2:=ho2.elim (λz=>(h2.ms.ok _ z).2) λz=>by rw[z.2];exact⟨cU,bP _⟩
 have y63':ys2.length<=63:=by rw[zeP hy2 ok2.nd];exact ok2.le
 have ky2:=zgo hy2
 refine⟨l,l2,ys,ys2,rfl,rfl,s3 _ _ hl2,hl4,by rw[bS];lia,λp hp4=>?_⟩
 generalize c_:upd H3 p _=H4
 obtain⟨s4,e4⟩:=xk c_ hp4
 have S4:=s3.trans s4
 have ky:∀y∈ys++ys2,∃c q,y=.ref c/\H4 c=aa (.tup ((zC q).map kV)):=λy hy=>by
  rcases bx.mp hy with z|z
  ·obtain⟨c,q,e,hc⟩:=ky1 y z
   exact⟨c,q,e,S4 _ _ (Fr2.ts _ _ hc)⟩
  ·obtain⟨c,q,e,hc⟩:=ky2 y z
   exact⟨c,q,e,s4 _ _ hc⟩
 have lp:lb2 p=0:=h2.out (zH s3 hp4)
 refine⟨p,rfl,⟨_,SqL.of e4⟩,yU (ys++ys2) (λ_ σ H'=>(∃o4,σ=[aa (.ref a.jb),aa (.int rank),aa (.ref r),aa (.ref l),o4,ai])/\Fr M1 H4 H' lb2 lb2/\∃db',DkO t H' lb2 (dkL t d a n f wo cs ws kv la db' en) a.mks a.re g (kj lays rank gi) (rdP ld) cs CC/\DbOk ld db') ⟨⟨_,rfl⟩,Fr.same (Same.refl _),db,h2.same rfl S4,hd⟩ (λi σ H' ⟨_,F,_⟩=>SqL.of (F.kp _ _ (.inl lp) e4)) ?_ ?_⟩
 ·rintro i u σ H' hu ⟨⟨o4,rfl⟩,F,db',h',hd'⟩
  obtain⟨c,q0,rfl,hc⟩:=ky u (bW hu)
  exact⟨_,rfl,a.jb,_,_,rfl,h'.at (i:=2) rfl,rfl,_,rfl,_,rfl,d,a,lb2,n,f,wo,cs,ws,kv,la,db',en,g,_,ld,CC,c,rank,q0,rfl,h',hd',l10,F.ts _ _ hc,λH6 db6 F6 h6 hd6=>⟨⟨_,rfl⟩,F.trans F6,db6,h6,hd6⟩⟩
 ·rintro σ H' ⟨⟨o4,rfl⟩,F,db',h5,hd'⟩
  have F5:=F2.trans ((Fr.same S4).trans F)
  clear F s4 e4 S4 hl4 s3 M F2 h2 e2 hl2 e1 h1 ln lg er ho ho2 ky ky1 ky2 hy hy2 Fr2 lp
  have lla:la.length=ld.length:=bL hl
  refine⟨_,rfl,ym (h5.at (i:=2) rfl) D.cJ D.j2 rfl rfl ⟨_,rfl,a.la,_,rfl,.k (k:=.inl rank) (h5.at (i:=6) rfl) (by rw[bS];lia),?_⟩⟩
  have h6:=h5.put (i:=6) (o':=.dK (yA la (.inl rank) (.ref r))) rfl rfl (by lia)
  have F6:=F5.trans (h5.fput (i:=6) (o':=.dK (yA la (.inl rank) (.ref r))) rfl (by lia))
  generalize upd H' a.la (.dK (yA la (.inl rank) (.ref r)))=H6 at *
  clear h5 F5
  have h6:DkO t H6 lb2 (dkL t d a n f wo cs ws kv (yA la (.inl rank) (.ref r)) db' en) a.mks a.re g (kj lays rank gi) (rdP ld) cs CC:=h6
  have ldb:=hd'.len
  obtain⟨H7,db7,dp,F7',h7,nd7,mm7,_⟩:=h6.dbt rank (by lia)
  refine(ym (h6.at (i:=2) rfl) D.cJ D.j4 rfl rfl ⟨_,rfl,a.db,H7,rfl,dp,?_⟩)
  have F7:=F6.trans F7'
  have hd7:DbOk (ld++[(rank,s,gi)]) db7:=⟨nd7 hd'.nd,λy hy=>by
   rw[bM,bx]
   exact((mm7 y).mp hy).imp (hd'.su y) λe=>br.mpr e⟩
  clear h6 F6 F7' dp
  obtain⟨o,nl,gl,er,⟨xs,hx,px⟩,lg,z1,z2⟩:=hp.fr F7 (.inr (by lia))
  have e1:H7 a.jb=aa (.ins t.q03 a.dj (VO a.mks a.la a.re a.db)):=h7.at (i:=2) rfl
  have rl:=h7.rl
  obtain⟨kk,r0⟩:=h7.rr
  refine⟨_,rfl,r,_,1,_,rfl,rfl,SqT.of er,rfl,nl,rfl,⟨_,SqL.of hx⟩,yU xs (ptI a r rank l (λb=>lb2 b=11\/H7 b=ai) (rdP ld) s.no H7) ⟨⟨_,_,rfl⟩,KeepR.refl,Dm.refl,kk,(r0.keep (F':=λb=>lb2 b=11\/H7 b=ai) rl (λb o _ e=>e) λ_ z=>.inl z).eqv λp i=>by simp⟩ (λi σ H' ⟨_,k,_⟩=>SqL.of (k _ _ hx (λz=>by rw[z,rl] at z1;cases z1) (.inr λz=>z.elim (λy=>by rw[z1] at y;cases y) λy=>by rw[hx] at y;cases y))) ?_ ?_⟩
  ·rintro i u σ H' hu ⟨⟨o3,o4,rfl⟩,k,dm,kk',hr'⟩
   obtain⟨y,hy,w,p,rfl,ew,ep⟩:=Paired.getP px hu
   have tk:∀b zs,H7 b=aa (.tup zs)->H' b=aa (.tup zs):=λb zs e=>k _ _ e (zG e r0.at_ (by lia)) (.inl λ_ z=>nomatch z)
   refine⟨w,_,rfl,SqT.of (tk _ _ ew),rfl,_,_,rfl,_,_,rfl,rfl,?_⟩
   have np:=zb5 nt.nd hy
   have sub:∀ {p:Pl},p∈(s.no.take i).map (·.1)->p∈s.no.map (·.1):=λz=>by
    obtain⟨x,hx,rfl⟩:=bE.mp z
    exact bu (dt hx)
   have rk:∀p j,rdP ld p j->j∈ld.map (·.1):=λp j ⟨e,he,ei,_⟩=>bE.mpr ⟨e,he,ei⟩
   refine(ym (k _ _ e1 (zG e1 r0.at_ (by lia)) (.inl λ_ z=>nomatch z)) D.cJ D.j3 rfl rfl ⟨_,rfl,_,rfl,a.re,p,rank,_,_,kk',y.1,rfl,hr',.inl rl,λb z=>.inr ?_,tk _ _ ep,λz=>z.elim (λz=>nr (rk _ _ z)) λz=>np z.2,?_,λrs hp ha=>?_,λH3 kk3 k3 d3 r3=>⟨⟨_,_,rfl⟩,k.trans k3,dm.trans d3,kk3,r3.eqv λp j=>?_⟩⟩)
   ·cases e:H7 b with
    |none=>rfl
    |some o=>obtain⟨o',e',_⟩:=dm b o e;rw[z] at e';cases e'
   ·refine zeF (l:=ld.map (λe=>(e.1,e.2.1.no))++[(rank,s.no)]) hr' (λp r z=>?_) (λy hy=>?_) (by rw[bw,bd];show _+1<=300;lia)
    ·rcases z with ⟨e,he,ei,ep⟩|z
     ·exact⟨e.2.1.no,cz _ (bE.mpr ⟨e,he,by rw[<-ei]⟩),ep⟩
     ·exact⟨s.no,bI _ (by rw[z.1];exact br.mpr rfl),sub z.2⟩
    ·rcases bx.mp hy with z|z
     ·obtain⟨e,he,rfl⟩:=bE.mp z
      exact⟨(nts e he).nd,bK (nts e he).ln (by lia)⟩
     ·cases br.mp z
      exact⟨nt.nd,bK nt.ln (by lia)⟩
   ·have:=wG (b:=ld.map (·.1)) (hp.imp λz=>oU z) λx hx=>(ha x hx).elim (rk _ _) λz=>absurd z.2 np
    rw[bd] at this
    lia
   ·rw[zav hy,and_or_left,or_assoc]
  ·rintro σ H' ⟨⟨o3,o4,rfl⟩,k,dm,kk',hr'⟩
   rw[bL px,eR] at hr'
   obtain⟨lb',F8,h8⟩:=h7.regrow rfl k dm (hr'.eqv (P':=rdP (ld++[(rank,s,gi)])) λp i=>⟨λz=>z.elim (λ⟨e,he,z⟩=>⟨e,cz _ he,z⟩) λz=>⟨_,bI _ (br.mpr rfl),z.1.symm,z.2⟩,λ⟨e,he,z⟩=>(bx.mp he).imp (λhe=>⟨e,he,z⟩) λhe=>by cases br.mp he;exact⟨z.1.symm,z.2⟩⟩)
   have F9:=F7.trans F8
   exact q H' lb' _ db7 F9 h8 ((ww hl F9 (.inr (by lia))).put nr ⟨r,rfl,hp.fr F9 (.inr (by lia))⟩) hd7
end
section
variable {f n:Int}{g:List Row}{CC:List (List Cs)}{S:DS}{r:Int}{k m:Nat}
theorem rks_mem:r∈jg f k m↔∃j:Nat,r=f+j/\k<=j/\j<m:=by
 unfold jg
 rw[List.mem_map]
 constructor
 ·rintro⟨i,hi,rfl⟩
  rw[List.mem_range] at hi
  exact⟨k+i,by lia,by lia,by lia⟩
 ·rintro⟨j,rfl,h1,h2⟩
  exact⟨j-k,by rw[List.mem_range];lia,by lia⟩
theorem zeQ:(jg f k m).Nodup:=by
 unfold jg
 refine List.Pairwise.map _ (λa b (h:a≠b)=>?_) oX
 lia
theorem DsOk.rk(h:DsOk n f g CC S)(m:r∈S.ws++(S.hl.map (·.2.1)++S.ld.map (·.1))):∃j:Nat,r=f+j/\S.en<=j/\j<CC.length:=rks_mem.mp (h.pm.mem_iff.mp m)
theorem DsOk.rw_(h:DsOk n f g CC S)(m:r∈S.ws):∃j:Nat,r=f+j/\S.en<=j/\j<CC.length:=h.rk (cz _ m)
theorem DsOk.rh(h:DsOk n f g CC S){e:Int×Int×Nat×RSt}(m:e∈S.hl):∃j:Nat,e.2.1=f+j/\S.en<=j/\j<CC.length:=h.rk (bI _ (cz _ (bu (f:=λe:Int×Int×Nat×RSt=>e.2.1) m)))
theorem DsOk.rl(h:DsOk n f g CC S)(m:r∈S.ld.map (·.1)):∃j:Nat,r=f+j/\S.en<=j/\j<CC.length:=h.rk (bI _ (bI _ m))
theorem DsOk.nd(h:DsOk n f g CC S):S.ws.Nodup/\((S.hl.map (·.2.1)).Nodup/\(S.ld.map (·.1)).Nodup/\∀x∈S.hl.map (·.2.1),∀y∈S.ld.map (·.1),x≠y)/\∀x∈S.ws,∀y∈S.hl.map (·.2.1)++S.ld.map (·.1),x≠y:=by
 have z:=h.pm.nodup_iff.mpr zeQ
 rw[dH,dH] at z
 exact z
theorem DsOk.len(h:DsOk n f g CC S):S.ws.length+(S.hl.length+S.ld.length)+S.en=CC.length:=by
 have z:=h.pm.length_eq
 have:=h.el
 unfold jg at z
 simp only[bw,bd,fu] at z
 lia
end
section
variable {H':Hp}{lb lb':ac->Nat}{L:List (ac×HO)}{m re d b dx:ac}{a:DAd}{g:List Row}{lays:List (Int×List Row)}{P:Pl->Int->Prop}{cs en:List V}{CC:List (List Cs)}{C:List Cs}{n f h0 rank:Int}{ws db:List Int}{kv la:List (Key×V)}{o o' wo:HO}{i k:Nat}{hl:List (Int×Int×Nat×RSt)}{S:DS}{v:V}{s:RSt}{M:Nat->Prop}
theorem XM(D:DkF K t)(h:H d=aa (.ins t.q00 dx (YV a n f)))(h2:H a.en=aa (.lst en))(q:Q (.int (f+en.length)) H) :
  qy K t (qqN Q) (L2.start ["self"] [.ref d]) H:=(ym h D.cD D.d3 rfl rfl (ym h D.cD D.d9 rfl rfl ⟨.ref a.en,en.length,rfl,.inl ⟨_,SqL.of h2,rfl⟩,_,_,rfl,rfl,q⟩))
theorem Yt(D:DkF K t)(h:H d=aa (.ins t.q00 dx (YV a n f)))(h2:H a.cl=aa (.lst cs))(q:Q (.int (f+cs.length)) H) :
  jx K t (qqN Q) (L2.start ["self"] [.ref d]) H:=(ym h D.cD D.d3 rfl rfl (ym h D.cD D.d4 rfl rfl ⟨.ref a.cl,cs.length,rfl,.inl ⟨_,SqL.of h2,rfl⟩,_,_,rfl,rfl,q⟩))
theorem Vv{x l:ac}(h:H l=aa (.lst (ws.map V.int)))(h1:ws≠[])(q:∀w∈ws,Q (.int w) H):ZY K t (qqN Q) (L2.start ["self","ranks"] [.ref x,.ref l]) H:=by
 cases ws with
 |nil=>exact absurd rfl h1
 |cons w ws=>exact⟨_,rfl,l,_,0,_,rfl,rfl,SqL.of h,by simp[atI,ixN],q w bq⟩
theorem Yu{x l:ac}(h:H l=aa (.lst (ws.map V.int)))(h1:ws≠[])(q:∀w∈ws,Q (.int w) H):jz K t (qqN Q) (L2.start ["self","ranks"] [.ref x,.ref l]) H:=by
 refine⟨_,rfl,1,rfl,l,_,-1,.int (ws.getLast h1),rfl,rfl,SqL.of h,?_,q _ (List.getLast_mem h1)⟩
 have z:ws.map V.int=ws.dropLast.map V.int++[V.int (ws.getLast h1)]:=by rw[<-List.map_singleton,<-bM,List.dropLast_concat_getLast]
 rw[z]
 exact L2.atI_last _ _
theorem XN{x:ac}(D:DkF K t)(h:H x=aa (.ins t.q05 dx []))(q:Q .non (upd H x (.ins t.q05 dx [(bc "times",.int 0)]))):qB K t (qqN Q) (L2.start ["self"] [.ref x]) H:=⟨_,rfl,x,_,dx,[],rfl,h,D.cT,D.t1,by lia,q⟩
theorem Yv{x l:ac}(D:DkF K t)(h:H l=aa (.lst (ws.map V.int)))(h1:ws≠[])(h2:H x=aa (.ins t.q05 dx [(bc "times",.int k)]))(q:∀w∈ws,Q (.int w) (upd H x (.ins t.q05 dx [(bc "times",.int (k+1:Nat))]))):jA K t (qqN Q) (L2.start ["self","ranks","at"] [.ref x,.ref l]) H:=by
 have l0:0<ws.length:=List.length_pos_iff.mpr h1
 have lt:k%ws.length<ws.length:=Nat.mod_lt _ l0
 refine(ym h2 D.cT D.t1 rfl rfl ⟨_,rfl,.ref l,ws.length,rfl,.inl ⟨_,SqL.of h,(bd ..).symm⟩,_,_,rfl,rfl,by show (0:Int)<(ws.length:Int);lia,?_⟩)
 refine⟨_,rfl,x,_,dx,_,_,rfl,h2,D.cT,D.t1,rfl,_,_,rfl,rfl,dx,_,h2,by show 1<1000;decide,?_⟩
 refine⟨_,rfl,_,rfl,l,_,(k%ws.length:Nat),_,rfl,congrArg V.int (Int.natCast_emod _ _).symm,SqL.of (by rw[zi (zG h h2 (by lia))];exact h),yf (by rw[bp,bb lt];rfl),q _ (eD lt)⟩
open Classical in
theorem DkO.relab{N:ac->Prop}(n:Nat)(hn:13<=n)(h:DkO t H lb L m re g lays P cs CC)(s:Same H H')(hN:∀b,N b->H b=ai/\∃o,H' b=aa o):∃lb',Fr M H H' lb lb'/\DkO t H' lb' L m re g lays P cs CC/\∀b,N b->lb' b=n:=by
 have l0:∀b,N b->lb b=0:=λb z=>h.out (hN b z).1
 have ex:∀b,lb b≠0->(if N b then n else lb b)=lb b:=λb z=>aj λy=>z (l0 b y)
 have e10:(λb=>(if N b then n else lb b)=10)=λb=>lb b=10:=funext λb=>propext (by
  by_cases y:N b
  ·rw[am y,l0 b y];lia
  ·rw[aj y])
 have rl:=h.rl
 obtain⟨kk,r0⟩:=h.rr
 refine⟨λb=>if N b then n else lb b,⟨λb o e=>aj (λy=>by rw[(hN b y).1] at e;cases e),λb o _ e=>s _ _ e,λb zs e=>s _ _ e,λb o e=>⟨o,s _ _ e⟩⟩,⟨λi b o e=>?_,by rw[e10];exact h.ms.same s,⟨kk,r0.keep rl (λb o _ e=>s _ _ e) λb z=>(ex b (by lia)).trans z⟩,(ex _ (by lia)).trans rl,Paired.mapP h.cc λv C ⟨⟨c,ys,ev,hc,pc⟩,lc⟩=>⟨⟨c,ys,ev,s _ _ hc,wu s pc⟩,λc ev=>(ex c (by rw[lc c ev];decide)).trans (lc c ev)⟩,λb hb=>?_⟩,λb z=>am z⟩
 ·obtain⟨h1,h2⟩:=h.ob i b o e
  exact⟨s _ _ h1,(ex b (by lia)).trans h2⟩
 ·by_cases y:N b
  ·exact(hN b y).2
  ·obtain⟨o,e⟩:=h.ow b (λz=>hb ((aj y).trans z))
   exact⟨o,s _ _ e⟩
theorem DkO.addC(h:DkO t H lb L m re g lays P cs CC)(s:Same H H')(hc:H c=ai)(ha:CoAt H' (.ref c) C):∃lb',Fr M H H' lb lb'/\DkO t H' lb' L m re g lays P (cs++[.ref c]) (CC++[C]):=by
 obtain⟨c',ys,ec,hy,py⟩:=id ha
 cases ec
 obtain⟨lb',F,h',z⟩:=h.relab (N:=λb=>b=c) 13 (by lia) s λb e=>by rw[e];exact⟨hc,_,hy⟩
 exact⟨lb',F,h'.ob,h'.ms,h'.rr,h'.rl,Paired.snocP h'.cc ⟨ha,λc' e=>by cases e;exact z c rfl⟩,h'.ow⟩
theorem RnAt.fr(R:RnAt t H x ra C s)(l:∀b,OwA x ra b->lb b=N)(F:Fr M H H' lb lb')(hM:M N):RnAt t H' x ra C s/\∀b,OwA x ra b->lb' b=N:=by
 have k:∀ {b o},OwA x ra b->H b=aa o->H' b=aa o:=λ{b o} z e=>F.kp b o (by rw[l b z];exact hM) e
 refine⟨⟨k (.inl (.inl rfl)) R.ix,let ⟨xs,hx,px⟩:=R.hc;⟨xs,k (.inr rfl) hx,xO F.ts px⟩,k (.inl (.inr (.inl rfl))) R.hs,k (.inl (.inr (.inr (.inl rfl)))) R.hg,k (.inl (.inr (.inr (.inr (.inl rfl))))) R.hn,k (.inl (.inr (.inr (.inr (.inr rfl))))) R.ha,R.ng,R.nc⟩,λb z=>?_⟩
 cases e:H b with
 |none=>exact absurd e (R.has z)
 |some o=>exact(F.ex b o e).trans (l b z)
theorem HdAt.fr{e:Int×Nat×RSt}(h:HdAt t H lb f CC h0 v e)(F:Fr M H H' lb lb')(hM:M (20+h0.toNat)):HdAt t H' lb' f CC h0 v e:=by
 obtain⟨tp,x,ra,C,ev,et,ec,R,l⟩:=h
 obtain⟨R',l'⟩:=R.fr l F hM
 exact⟨tp,x,ra,C,ev,F.ts _ _ et,ec,R',l'⟩
theorem qo(h:Pk (HdAt t H lb f CC) kv hl)(F:Fr M H H' lb lb')(hM:∀k:Nat,M (20+k)):Pk (HdAt t H' lb' f CC) kv hl:=Paired.mapP h λ_ _ ⟨e,z⟩=>⟨e,z.fr F (hM _)⟩
theorem Z1(k:Nat):M1 (20+k):=.inr (by lia)
theorem DkG.of(h:DkG t H d a lb n f g CC S)(k:∀b o,lb b≠0->H b=aa o->H' b=aa o)(ts:TSm H H')(al:∀b o,H b=aa o->∃o',H' b=aa o'):DkG t H' d a lb n f g CC S:=by
 obtain⟨wo,cs,kv,la,db,en,h,hh,hl,z⟩:=h
 have F:Fr (λl=>l≠0) H H' lb lb:=⟨λ_ _ _=>rfl,k,ts,al⟩
 exact⟨wo,cs,kv,la,db,en,h.keep rfl (λb o z _ e=>k b o z e) ts al,qo hh F (λk=>by lia),ww hl F (by lia),z⟩
theorem DkG.same(h:DkG t H d a lb n f g CC S)(s:Same H H'):DkG t H' d a lb n f g CC S:=h.of (λb o _ e=>s _ _ e) (TSm.of s) λb o e=>⟨o,s _ _ e⟩
theorem DkG.put(h:DkG t H d a lb n f g CC S)(hl:H l=aa (.lst xs))(z:lb l=0):DkG t (upd H l (.lst ys)) d a lb n f g CC S:=h.of (λb o y e=>by rw[zi (λw=>y (by rw[w];exact z))];exact e) (qm hl λ_ z=>nomatch z) Vs
theorem DkG.l0(h:DkG t H d a lb n f g CC S)(e:H b=ai):lb b=0:=by obtain⟨wo,cs,kv,la,db,en,h,_⟩:=h;exact h.out e
theorem DkG.cmp(h:DkG t H d a lb n f g CC S):H d=aa (.ins t.q00 a.dx (YV a n f))/\∃cs en,H a.cl=aa (.lst cs)/\H a.en=aa (.lst en)/\cs.length=CC.length/\en.length=S.en:=by
 obtain⟨wo,cs,kv,la,db,en,h,_,_,_,le,_⟩:=h
 exact⟨h.at (i:=0) rfl,cs,en,h.at (i:=3) rfl,h.at (i:=8) rfl,bL h.cc,le⟩
theorem KQ{vs:List V}{_E:XK}(D:DkF K t)(h:jt t vs H Q _E) :
  X7 K t (qqN Q) (L2.start ["self","code","rank"] vs) H:=by
 obtain⟨d,v,a,lb,n,f,g,CC,C,S,rfl,h1,h,h2,h3,q⟩:=h
 obtain⟨wo,cs,kv,la,db,en,h,hh,hl,z⟩:=h
 have lc:=bL h.cc
 have e1:H d=aa (.ins t.q00 a.dx (YV a n f)):=h.at (i:=0) rfl
 obtain⟨c0,ys,rfl,hy,py⟩:=h1
 refine(Wr e1 rfl rfl ⟨d,_,a,n,f,cs,rfl,e1,h.at (i:=3) rfl,?_⟩)
 rw[lc]
 refine(ym e1 D.cD D.d4 rfl rfl ⟨.inl ⟨rfl,_,SqL.of (h.at (i:=3) rfl)⟩,_,rfl,c0,ys,rfl,.inl (SqL.of hy),λc hc=>?_⟩)
 generalize c_:upd H c _=H2
 obtain⟨s2,e2⟩:=xk c_ hc
 obtain⟨lb2,F2,h4⟩:=h.addC (M:=M1) (C:=C) s2 hc ⟨c,ys,rfl,e2,wu s2 py⟩
 have h5:=h4.put (i:=3) (o':=.lst (cs++[.ref c])) rfl rfl (by lia)
 have F5:=F2.trans (h4.fput (i:=3) (o':=.lst (cs++[.ref c])) rfl (by lia))
 refine⟨a.cl,cs,_,rfl,rfl,h4.at (i:=3) rfl,bU (show cs.length<=10 by lia) (by rw[bS];decide),?_⟩
 generalize upd H2 a.cl (.lst (cs++[.ref c]))=H5 at *
 have h5:DkO t H5 lb2 (dkL t d a n f wo (cs++[.ref c]) S.ws kv la db en) a.mks a.re g S.ls (rdP S.ld) (cs++[.ref c]) (CC++[C]):=h5
 refine(ym (h5.at (i:=0) rfl) D.cD D.d5 rfl rfl ⟨.inl ⟨rfl,_,SqL.of (h5.at (i:=4) rfl)⟩,_,rfl,a.wl,_,_,rfl,rfl,h5.at (i:=4) rfl,bU (by rw[bd];exact h3) (by rw[bS];decide),_,rfl,?_⟩)
 have h6:=h5.put (i:=4) (o':=.lst ((S.ws++[f+CC.length]).map V.int)) rfl rfl (by lia)
 have F6:=F5.trans (h5.fput (i:=4) (o':=.lst ((S.ws++[f+CC.length]).map V.int)) rfl (by lia))
 rw[bM] at h6 F6
 refine q _ lb2 F6.m0 ⟨wo,_,kv,la,db,en,by rw[dkL,zcM,bM];exact h6,Paired.mapP (qo hh F6 Z1) λ_ _ ⟨e,tp,x,ra,C,ev,et,ec,z⟩=>⟨e,tp,x,ra,C,ev,et,?_,z⟩,ww hl F6 (.inr (by lia)),z⟩
 rw[dX (bf.mp ec).1]
 exact ec
end
section
variable {H':Hp}{lb lb':ac->Nat}{d b dx:ac}{a:DAd}{g:List Row}{cs en:List V}{CC:List (List Cs)}{C:List Cs}{n f h0 rank w:Int}{ws db:List Int}{kv la:List (Key×V)}{o o' wo:HO}{i k:Nat}{r:ac}{hl:List (Int×Int×Nat×RSt)}{S:DS}{v:V}{M:Nat->Prop}
theorem Vw(q:ac)(h:H b=aa (.tup (.str (evW e)::.int h0::evX q e)))(p:∀p,evP e=aa p->H q=aa (.tup [.str p.1,.int p.2])):EvAt H (.ref b) (h0,e):=⟨b,q,rfl,h,p⟩
theorem Yw(D:DkF K t)(h:DkG t H d a lb n f g CC S)(ok:DsOk n f g CC S)(fr:h0 ∉ S.hl.map (·.1))(hw:w∈S.ws)(q:∀v H' lb',Fr M0 H H' lb lb'->EvAt H' v (h0,.take w)->DkG t H' d a lb' n f g CC { S with ws:=S.ws.erase w,hl:=S.hl++[(h0,w,0,st0)] }->Q v H') :
  v7 K t (qqN Q) [aa (.ref d),aa (.int h0),aa (.int w)] H:=by
 obtain⟨wo,cs,kv,la,db,en,h,hh,hl,hd,le,wy⟩:=h
 obtain⟨k,rfl,_,hk⟩:=ok.rw_ hw
 have l5:=ok.cc.le
 have ln:=ok.len
 have e1:H d=aa (.ins t.q00 a.dx (YV a n f)):=h.at (i:=0) rfl
 refine(ym e1 D.cD D.d5 rfl rfl ⟨.inl ⟨rfl,_,SqL.of (h.at (i:=4) rfl)⟩,_,rfl,a.wl,_,f+k,rfl,rfl,h.at (i:=4) rfl,hw,?_⟩)
 have h3:=h.put (i:=4) (o':=.lst ((S.ws.erase (f+k)).map V.int)) rfl rfl (by lia)
 have F3:=h.fput (i:=4) (o':=.lst ((S.ws.erase (f+k)).map V.int)) rfl (by lia)
 generalize upd H a.wl (.lst ((S.ws.erase (f+k)).map V.int))=H3 at *
 have h3:DkO t H3 lb (dkL t d a n f wo cs (S.ws.erase (f+k)) kv la db en) a.mks a.re g S.ls (rdP S.ld) cs CC:=h3
 have e3:H3 d=aa (.ins t.q00 a.dx (YV a n f)):=h3.at (i:=0) rfl
 obtain⟨v,hv⟩:∃v,cs[k]?=aa v:=⟨_,bb (by rw[bL h3.cc];exact hk)⟩
 obtain⟨C,hC,⟨c,ys,rfl,hc,pc⟩,_⟩:=Paired.getP h3.cc hv
 refine⟨_,rfl,ym e3 D.cD D.d4 rfl rfl ⟨_,rfl,ym e3 D.cD D.d3 rfl rfl ⟨_,_,rfl,rfl,a.cl,cs,k,_,rfl,congrArg V.int (by lia),SqL.of (h3.at (i:=3) rfl),yf hv,?_⟩⟩⟩
 intro x dx hx hdx n'
 have s4:Same H3 (upd (upd H3 dx (HO.own x)) x (HO.ins t.q01 dx [])):=λb o e=>by rw[zi (zx e hx),zi (zx e hdx)];exact e
 refine⟨x,c,dx,ys,C,rfl,zh,s4 _ _ hc,wu s4 pc,λH5 ra k5 R5 fr5=>?_⟩
 obtain⟨s5,ow⟩:=zg6 (Same.refl H3) hx hdx k5 fr5
 obtain⟨lb5,F5,h5,l20⟩:=h3.relab (M:=M1) (N:=OwA x ra) (20+h0.toNat) (by lia) s5 λb z=>⟨ow b z,by
  cases e:H5 b with
  |none=>exact absurd e (R5.has z)
  |some o=>exact⟨o,rfl⟩⟩
 refine⟨rfl,by show 2<=Bb;rw[bS];decide,λtp ht=>?_⟩
 generalize c_:upd H5 tp _=H6
 obtain⟨s6,e6⟩:=xk c_ ht
 have h6:=h5.same rfl s6
 have F6:=(F3.trans F5).trans (Fr.same s6)
 have R6:=R5.same s6
 clear h5 R5 h3 F3 F5 s4 k5 fr5 s5
 have lkv:kv.length=S.hl.length:=bL hh
 refine(ym (h6.at (i:=0) rfl) D.cD D.d6 rfl rfl ⟨_,rfl,a.hd,_,rfl,.k (k:=.inl h0) (h6.at (i:=5) rfl) (by rw[bS];lia),?_⟩)
 have h7:=h6.put (i:=5) (o':=.dK (yA kv (.inl h0) (.ref tp))) rfl rfl (by lia)
 have F7':=h6.fput (i:=5) (o':=.dK (yA kv (.inl h0) (.ref tp))) rfl (by lia)
 generalize upd H6 a.hd (.dK (yA kv (.inl h0) (.ref tp)))=H7 at *
 have h7:DkO t H7 lb5 (dkL t d a n f wo cs (S.ws.erase (f+k)) (yA kv (.inl h0) (.ref tp)) la db en) a.mks a.re g S.ls (rdP S.ld) cs CC:=h7
 have F7:=F6.trans F7'
 obtain⟨R7,l7⟩:=R6.fr l20 F7' (Z1 _)
 refine⟨_,rfl,_,rfl,by show 3<=Bb;rw[bS];decide,λp hp=>?_⟩
 have s8:=isV (o:=HO.tup [V.str "take",V.int h0,V.int (f+k)]) p hp
 have F8:=F7.trans (Fr.same s8)
 exact q (.ref p) _ lb5 F8.m0 (Vw p zh λ_ z=>nomatch z) ⟨wo,cs,_,la,db,en,h7.same rfl s8,(qo hh F8 Z1).put fr ⟨tp,x,ra,C,rfl,s8 _ _ (F7'.ts _ _ e6),by rw[show (f+(k:Int)-f).toNat=k by lia];exact hC,R7.same s8,l7⟩,ww hl F8 (.inr (by lia)),hd,le,wy⟩
theorem Y8{vs:List V}{_E:XK}(D:DkF K t)(h:wO t vs H Q _E) :
  kq K t (qqN Q) (L2.start ["self","hand","rank"] vs) H:=by
 obtain⟨d,a,lb,n,f,h0,g,CC,S,rfl,h,ok,fr,wn,q⟩:=h
 have G:=h
 obtain⟨wo,cs,kv,la,db,en,h,hh,hl,hd,le,wy⟩:=h
 have e1:H d=aa (.ins t.q00 a.dx (YV a n f)):=h.at (i:=0) rfl
 have ew:H a.wy=aa wo:=h.at (i:=1) rfl
 rcases wy with rfl|rfl|⟨k,rfl⟩
 ·refine ym e1 D.cD D.d2 rfl rfl ⟨a.wy,_,_,_,_,rfl,ew,rfl,.tail _ (.tail _ (.head _)),ym e1 D.cD D.d5 rfl rfl ⟨a.wl,_,rfl,.inl (SqL.of (h.at (i:=4) rfl)),λl hl0=>⟨a.wy,l,_,rfl,zh,wn,λw hw=>?_⟩⟩⟩
  have s2:=isV (o:=HO.lst (S.ws.map V.int)) l hl0
  exact Yw D (G.same s2) ok fr hw λv H' lb' F=>q v H' lb' w ((Fr.same s2).trans F) hw
 ·refine ym e1 D.cD D.d2 rfl rfl ⟨a.wy,_,_,_,_,rfl,ew,rfl,.head _,ym e1 D.cD D.d5 rfl rfl ⟨a.wl,_,rfl,.inl (SqL.of (h.at (i:=4) rfl)),λl hl0=>⟨a.wy,l,_,rfl,zh,wn,λw hw=>?_⟩⟩⟩
  have s2:=isV (o:=HO.lst (S.ws.map V.int)) l hl0
  exact Yw D (G.same s2) ok fr hw λv H' lb' F=>q v H' lb' w ((Fr.same s2).trans F) hw
 ·refine ym e1 D.cD D.d2 rfl rfl ⟨a.wy,_,_,_,_,rfl,ew,rfl,.tail _ (.head _),ym e1 D.cD D.d5 rfl rfl ⟨a.wl,_,rfl,.inl (SqL.of (h.at (i:=4) rfl)),λl hl0=>?_⟩⟩
  have s2:=isV (o:=HO.lst (S.ws.map V.int)) l hl0
  have h2:=h.same rfl s2
  have h3:=h2.put (i:=1) (o':=.ins t.q05 a.dw [(bc "times",.int (k+1:Nat))]) rfl rfl (by lia)
  have F3:=(Fr.same s2).trans (h2.fput (i:=1) (o':=.ins t.q05 a.dw [(bc "times",.int (k+1:Nat))]) rfl (by lia))
  exact⟨a.wy,l,a.dw,_,k,rfl,zh,wn,h2.at (i:=1) rfl,λw hw=>Yw D ⟨_,cs,kv,la,db,en,h3,qo hh F3 Z1,ww hl F3 (.inr (by lia)),hd,le,.inr (.inr ⟨_,rfl⟩)⟩ ok fr hw λv H' lb' F=>q v H' lb' w (F3.m0.trans F) hw⟩
end
section
variable {H':Hp}{lb lb':ac->Nat}{m d b u:ac}{a:DAd}{g:List Row}{cs en:List V}{CC:List (List Cs)}{n f h0 w:Int}{ws db:List Int}{kv la:List (Key×V)}{o o' wo:HO}{i k:Nat}{r:Int}{gi:List Row}{hl:List (Int×Int×Nat×RSt)}{S:DS}{v:V}{s:RSt}{y:Row}{qa:ac}{R:St->Hp->Prop}
theorem zb6(D:DkF K t)(h:DkG t H d a lb n f g CC S)(ok:DsOk n f g CC S)(fr:h0 ∉ S.hl.map (·.1))(hm:(f+(S.en:Int),s,gi)∈S.ld)(q:mvP t H d a lb n f h0 g CC S Q) :
  vc K t { nx:=λσ H'=>R σ H',rt:=Q } [aa (.ref d),aa (.int h0),aa (.int (f+S.en)),aa v] H:=by
 obtain⟨wo,cs,kv,la,db,en,h,hh,hl,hd,le,wy⟩:=h
 have e1:H d=aa (.ins t.q00 a.dx (YV a n f)):=h.at (i:=0) rfl
 have l5:=ok.cc.le
 have ln:=ok.len
 refine(ym e1 D.cD D.d9 rfl rfl ⟨.inl ⟨rfl,_,SqL.of (h.at (i:=8) rfl)⟩,ym e1 D.cD D.d8 rfl rfl ⟨a.jb,_,_,rfl,h.at (i:=2) rfl,rfl,_,rfl,d,a,lb,n,f,wo,cs,S.ws,kv,la,db,en,g,S.ls,S.ld,CC,f+S.en,s,gi,rfl,h,hl,hd,ok.nd.2.1.2.1,hm,(ok.nt _ hm).nd,λr H3 lb3 la3 db3 F3 h3 hl3 hd3=>?_⟩⟩)
 refine⟨a.en,en,_,rfl,rfl,h3.at (i:=8) rfl,bU (show en.length<=5 by lia) (by rw[bS];decide),?_⟩
 have h4:=h3.put (i:=8) (o':=.lst (en++[.ref r])) rfl rfl (by lia)
 have F4':=h3.fput (i:=8) (o':=.lst (en++[.ref r])) rfl (by lia)
 generalize upd H3 a.en (.lst (en++[.ref r]))=H4 at *
 have h4:DkO t H4 lb3 (dkL t d a n f wo cs S.ws kv la3 db3 (en++[.ref r])) a.mks a.re g S.ls (rdP (yd S.ld (f+S.en))) cs CC:=h4
 refine⟨_,rfl,_,rfl,by show 3<=Bb;rw[bS];decide,λp hp=>?_⟩
 have s5:=isV (o:=HO.tup [V.str "settle",V.int h0,V.int (f+S.en)]) p hp
 have F5':=F4'.trans (Fr.same s5)
 have F5:=F3.trans F5'
 exact q _ _ lb3 _ _ F5.m0 (Vw (e:=.settle (f+S.en)) p zh λ_ z=>nomatch z) (.settle hm fr) ⟨wo,cs,kv,la3,db3,en++[.ref r],h4.same rfl s5,qo hh F5 Z1,ww hl3 F5' (.inr (by lia)),hd3,by rw[bw,le];rfl,wy⟩
theorem zhj(k:Nat):(ws.take k++r::ws.drop k).Perm (r::ws):=by
 refine List.perm_middle.trans ?_
 rw[eW]
theorem zhk(so:ws.Pairwise (· < ·))(nr:r ∉ ws)(h1:∀x∈ws.take k,x<r)(h2:∀x∈ws.drop k,r<=x):(ws.take k++r::ws.drop k).Pairwise (· < ·):=by
 have z:=so
 rw[<-eW k ws,gq] at z
 refine gq.mpr ⟨z.1,List.pairwise_cons.mpr ⟨λx hx=>?_,z.2.1⟩,λx hx y hy=>?_⟩
 ·have:=h2 x hx
  have:r≠x:=λe=>nr (by rw[e];exact cZ hx)
  lia
 ·rcases bD.mp hy with rfl|hy
  ·exact h1 x hx
  ·exact z.2.2 x hx y hy
theorem zb7(D:DkF K t)(h:DkG t H d a lb n f g CC S)(ok:DsOk n f g CC S)(fr:h0 ∉ S.hl.map (·.1))(hm:(r,s,gi)∈S.ld)(hy:y∈s.no)(hn:yE g S.ls y.1 r≠y.2)(hu:H u=aa (.tup [.int r,.ref qa,.int y.2,.int (yE g S.ls y.1 r)]))(hq:H qa=aa (.tup [.str y.1.1,.int y.1.2]))(q:mvP t H d a lb n f h0 g CC S Q){o2:Option V} :
  vb K t { nx:=λσ H'=>R σ H',rt:=Q } [aa (.ref d),aa (.int h0),o2,aa (.ref u)] H:=by
 obtain⟨wo,cs,kv,la,db,en,h,hh,hl,hd,le,wy⟩:=h
 have l5:=ok.cc.le
 have ln:=ok.len
 have nr:r ∉ S.ws:=λz=>ok.nd.2.2 r z r (bI _ (bu (f:=λe:Int×RSt×List Row=>e.1) hm)) rfl
 refine(ym (h.at (i:=0) rfl) D.cD D.d8 rfl rfl ⟨a.jb,_,_,rfl,h.at (i:=2) rfl,rfl,_,rfl,u,_,0,_,rfl,rfl,SqT.of hu,rfl,d,a,lb,n,f,wo,cs,S.ws,kv,la,db,en,g,S.ls,S.ld,CC,r,s,gi,rfl,h,hl,hd,ok.nd.2.1.2.1,hm,(ok.nt _ hm).nd,λr' H3 lb3 la3 db3 F3 h3 hl3 hd3=>?_⟩)
 have e3:H3 d=aa (.ins t.q00 a.dx (YV a n f)):=h3.at (i:=0) rfl
 have hu3:=F3.ts _ _ hu
 refine(ym e3 D.cD D.d5 rfl rfl ⟨.inl ⟨rfl,_,SqL.of (h3.at (i:=4) rfl)⟩,ym e3 D.cD D.d5 rfl rfl ⟨_,rfl,u,_,0,_,rfl,rfl,SqT.of hu3,rfl,a.wl,S.ws,r,rfl,h3.at (i:=4) rfl,ok.so,λk H4 s4 hk k1 k2=>?_⟩⟩)
 have h4:=h3.same rfl s4
 have hu4:=s4 _ _ hu3
 refine⟨_,rfl,u,_,0,_,rfl,rfl,SqT.of hu4,rfl,a.wl,_,k,_,rfl,rfl,h4.at (i:=4) rfl,by rw[bd];exact hk,by rw[bd];lia,?_⟩
 have em:(S.ws.map V.int).take k++V.int r::(S.ws.map V.int).drop k=(S.ws.take k++r::S.ws.drop k).map V.int:=by rw[bM,bo,iR,mE]
 rw[em]
 have h5:=h4.put (i:=4) (o':=.lst ((S.ws.take k++r::S.ws.drop k).map V.int)) rfl rfl (by lia)
 have F5':=(Fr.same s4).trans (h4.fput (i:=4) (o':=.lst ((S.ws.take k++r::S.ws.drop k).map V.int)) rfl (by lia))
 generalize upd H4 a.wl (.lst ((S.ws.take k++r::S.ws.drop k).map V.int))=H5 at *
 have h5:DkO t H5 lb3 (dkL t d a n f wo cs (S.ws.take k++r::S.ws.drop k) kv la3 db3 en) a.mks a.re g S.ls (rdP (yd S.ld r)) cs CC:=h5
 refine⟨_,rfl,by show 2<=Bb;rw[bS];decide,λp1 hp1=>?_⟩
 generalize c_:upd H5 p1 _=H6
 obtain⟨s6,e6⟩:=xk c_ hp1
 refine⟨_,rfl,p1,u,_,_,rfl,rfl,SqT.of e6,SqT.of (s6 _ _ (F5'.ts _ _ hu3)),(by lia),by show 2+4<=Bb;rw[bS];decide,(by lia),λ_ p hp=>?_⟩
 have s7:=isV (o:=HO.tup [V.str "again",V.int h0,V.int r,V.ref qa,V.int y.2,V.int (yE g S.ls y.1 r)]) p hp
 have F7':=F5'.trans (Fr.same (s6.trans s7))
 have F7:=F3.trans F7'
 exact q _ _ lb3 _ _ F7.m0 (Vw (e:=.again r y.1 y.2 _) qa zh λp e=>by cases e;exact F7.ts _ _ hq) (.again hm hy hn (zhj k) (zhk ok.so nr k1 k2) fr) ⟨wo,cs,kv,la3,db3,en,h5.same rfl (s6.trans s7),qo hh F7 Z1,ww hl3 F7' (.inr (by lia)),hd3,le,wy⟩
theorem zf2(D:DkF K t)(h:DkG t H d a lb n f g CC S)(ok:DsOk n f g CC S)(fr:h0 ∉ S.hl.map (·.1))(hm:f+(S.en:Int) ∉ S.ld.map (·.1))(q:mvP t H d a lb n f h0 g CC S Q){o2 o3:Option V} :
  ve K t (qqN Q) [aa (.ref d),aa (.int h0),o2,o3] H:=by
 have G:=h
 obtain⟨wo,cs,kv,la,db,en,h,_⟩:=h
 refine(ym (h.at (i:=0) rfl) D.cD D.d5 rfl rfl ⟨by show 0<=Bb;exact bP _,λz hz=>?_⟩)
 have s3:=isV (o:=HO.lst []) z hz
 have h3:=h.same rfl s3
 have G3:=G.same s3
 refine⟨a.wl,z,_,rfl,rfl,SqL.of (h3.at (i:=4) rfl),SqL.of zh,_,rfl,?_⟩
 generalize upd H z (.lst [])=H3 at *
 cases ew:S.ws with
 |nil =>
  refine ya rfl ⟨_,rfl,by show 2<=Bb;rw[bS];decide,λp hp=>?_⟩
  have s4:=isV (o:=HO.tup [V.str "rest",V.int h0]) p hp
  exact q _ _ lb _ _ (Fr.same (s3.trans s4)) (Vw (e:=.rest) p zh λ_ z=>nomatch z) (.rest ew hm fr) (G3.same s4)
 |cons x xs=>exact yY rfl (Wr (h3.at (i:=0) rfl) rfl rfl ⟨_,rfl,d,a,lb,n,f,h0,g,CC,S,rfl,G3,ok,fr,(by rw[ew];exact λz=>nomatch z),λv H4 lb4 r F4 hr ev G4=>q v H4 lb4 _ _ ((Fr.same s3).trans F4) ev (.take hr fr) G4⟩)
theorem ZK{vs:List V}{_E:XK}(D:DkF K t)(h:xK t vs H Q _E) :
  v9 K t (qqN Q) (L2.start ["self","hand","lowest","changed"] vs) H:=by
 obtain⟨d,a,lb,n,f,h0,g,CC,S,rfl,h,ok,fr,q⟩:=h
 obtain⟨wo,cs,kv,la,db,en,h,hh,hl,hd,le,wy⟩:=h
 have l5:=ok.cc.le
 have ln:=ok.len
 have e1:H d=aa (.ins t.q00 a.dx (YV a n f)):=h.at (i:=0) rfl
 have nn:∀e∈S.ld,0<=e.1:=λe he=>by
  obtain⟨j,z,_⟩:=ok.rl (bu (f:=λe:Int×RSt×List Row=>e.1) he)
  have:=ok.f0
  lia
 refine(Wr e1 rfl rfl ⟨d,_,a,n,f,en,rfl,e1,h.at (i:=8) rfl,?_⟩)
 rw[le]
 have gt:∀ {H2 db2},Fr M1 H H2 lb lb->DkO t H2 lb (dkL t d a n f wo cs S.ws kv la db2 en) a.mks a.re g S.ls (rdP S.ld) cs CC->DbOk S.ld db2->DkG t H2 d a lb n f g CC S/\mvP t H2 d a lb n f h0 g CC S Q:=λF2 h2 hd2=>⟨⟨wo,cs,kv,la,_,en,h2,qo hh F2 Z1,ww hl F2 (.inr (by lia)),hd2,le,wy⟩,λv H' lb' e S' F=>q v H' lb' e S' (F2.m0.trans F)⟩
 have dg:∀ {H2 db2},DkO t H2 lb (dkL t d a n f wo cs S.ws kv la db2 en) a.mks a.re g S.ls (rdP S.ld) cs CC->DGet H2 a.la (.int (f+S.en)) (z4 la (.inl (f+S.en))):=λh2=>.k (k:=.inl (f+(S.en:Int))) (h2.at (i:=6) rfl)
 refine(ym e1 D.cD D.d8 rfl rfl ⟨a.jb,_,_,rfl,h.at (i:=2) rfl,rfl,d,a,lb,n,f,wo,cs,S.ws,kv,la,db,en,g,S.ls,S.ld,CC,rfl,h,hl,hd,by lia,nn,λH2 db2 F2 h2 hd2=>?_,λv H2 db2 qa r s gi y F2 h2 hd2 hm hy hn hv hq=>?_⟩)
 ·obtain⟨G2,q2⟩:=gt F2 h2 hd2
  refine⟨_,rfl,ym (h2.at (i:=0) rfl) D.cD D.d8 rfl rfl ⟨a.jb,_,_,_,_,rfl,h2.at (i:=2) rfl,D.cJ,D.j2,rfl,a.la,_,rfl,dg h2,_,rfl,?_⟩⟩
  rcases hl.get (h:=f+(S.en:Int)) with ⟨z,nm⟩|⟨v,b,z,m,_⟩
  ·rw[z]
   exact ya rfl (ya rfl ⟨_,rfl,rfl,_,rfl,ya rfl (zf2 D G2 ok fr nm q2)⟩)
  ·rw[z]
   exact yY rfl ⟨_,rfl,rfl,_,rfl,yY rfl (yY rfl (zb6 D G2 ok fr m q2))⟩
 ·obtain⟨G2,q2⟩:=gt F2 h2 hd2
  refine⟨_,rfl,ym (h2.at (i:=0) rfl) D.cD D.d8 rfl rfl ⟨a.jb,_,_,_,_,rfl,h2.at (i:=2) rfl,D.cJ,D.j2,rfl,a.la,_,rfl,dg h2,_,rfl,?_⟩⟩
  rcases hl.get (h:=f+(S.en:Int)) with ⟨z,nm⟩|⟨w,b,z,m,_⟩
  ·rw[z]
   exact ya rfl (ya rfl ⟨_,rfl,rfl,_,rfl,yY rfl (zb7 D G2 ok fr hm hy hn hv hq q2)⟩)
  ·rw[z]
   refine yY rfl ⟨_,rfl,rfl,_,rfl,ya rfl ⟨_,rfl,v,_,0,_,rfl,rfl,SqT.of hv,rfl,_,rfl,rfl,_,rfl,?_⟩⟩
   by_cases c:r=f+S.en
   ·refine ya (by rw[Bj (congrArg V.int c)];rfl) ?_
    exact⟨_,rfl,rfl,_,rfl,yY rfl (zb7 D G2 ok fr hm hy hn hv hq q2)⟩
   ·exact yY (by rw[Bk (λe=>c (V.int.inj e))];rfl) (zb6 D G2 ok fr m q2)
end
section
variable {H':Hp}{lb lb':ac->Nat}{L:List (ac×HO)}{m re d b tp x:ac}{a:DAd}{ra:RAd}{g:List Row}{lays:List (Int×List Row)}{P:Pl->Int->Prop}{cs en:List V}{CC:List (List Cs)}{C:List Cs}{n f h0 r:Int}{db:List Int}{kv la:List (Key×V)}{wo:HO}{i j k:Nat}{gi:List Row}{hl:List (Int×Int×Nat×RSt)}{S:DS}{v:V}{s s':RSt}{M:Nat->Prop}{R:St->Hp->Prop}
theorem DkO.step(hN:20<=N)(h:DkO t H lb L m re g lays P cs CC)(ll:L.length=9)(R:RnAt t H x ra C s)(R':RnAt t H' x ra C s')(l:∀b,OwA x ra b->lb b=N)(k:Kp x ra H H'):Fr (λl=>l≠N) H H' lb lb/\DkO t H' lb L m re g lays P cs CC:=by
 have kp:∀b o,lb b≠N->H b=aa o->H' b=aa o:=λb o z e=>k b o (λy=>z (l b (.inl y))) e
 have ts:TSm H H':=λb zs e=>k b _ (λy=>by
  rcases y with y|y|y|y|y
  ·rw[y,R.ix] at e;cases e
  ·rw[y,R.hs] at e;cases e
  ·rw[y,R.hg] at e;cases e
  ·rw[y,R.hn] at e;cases e
  ·rw[y,R.ha] at e;cases e) e
 have al:∀b o,H b=aa o->∃o',H' b=aa o':=λb o e=>by
  by_cases y:OwA x ra b
  ·cases e:H' b with
   |none=>exact absurd e (R'.has y)
   |some o=>exact⟨o,rfl⟩
  ·exact⟨o,k b o (λz=>y (.inl z)) e⟩
 exact⟨⟨λ_ _ _=>rfl,kp,ts,al⟩,h.keep ll (λb o _ z e=>kp b o (by lia) e) ts al⟩
structure MvI(t:Adr)(H:Hp)(d:ac)(a:DAd)(lb:ac->Nat)(n f h0:Int)(g:List Row)(CC:List (List Cs))(S:DS)(wo:HO)(cs:List V)(kv la:List (Key×V))(db:List Int)(en:List V)(r:Int)(j:Nat)(s:RSt)(tp x:ac)(ra:RAd)(C:List Cs):Prop where
 o:DkO t H lb (dkL t d a n f wo cs S.ws kv la db en) a.mks a.re g S.ls (rdP S.ld) cs CC
 hh:Pk (HdAt t H lb f CC) kv S.hl
 hl:Pk (KA H lb) la S.ld
 hd:DbOk S.ld db
 le:en.length=S.en
 wy:zgZ t a wo
 hm:(h0,r,j,s)∈S.hl
 hv:z4 kv (.inl h0)=aa (.ref tp)
 ht:H tp=aa (.tup [.int r,.ref x])
 ec:CC[(r-f).toNat]?=aa C
 rn:RnAt t H x ra C s
 l20:∀b,OwA x ra b->lb b=20+h0.toNat
theorem MvI.same(h:MvI t H d a lb n f h0 g CC S wo cs kv la db en r j s tp x ra C)(k:Same H H'):MvI t H' d a lb n f h0 g CC S wo cs kv la db en r j s tp x ra C :=
 ⟨h.o.same rfl k,qo h.hh (Fr.same (M:=M1) k) Z1,ww h.hl (Fr.same (M:=M1) k) (.inr (by lia)),h.hd,h.le,h.wy,h.hm,h.hv,k _ _ h.ht,h.ec,h.rn.same k,h.l20⟩
theorem MvI.step(h:MvI t H d a lb n f h0 g CC S wo cs kv la db en r j s tp x ra C)(ok:DsOk n f g CC S)(R':RnAt t H' x ra C s')(k:Kp x ra H H'):Fr M0 H H' lb lb/\DkG t H' d a lb n f g CC { S with hl:=XA S.hl h0 (r,j+1,s') }:=by
 obtain⟨F,h'⟩:=h.o.step (N:=20+h0.toNat) (by lia) rfl h.rn R' h.l20 k
 have h0p:=(ok.hr _ h.hm).1
 have h0p:0<=h0:=h0p
 refine⟨F.mono λl z=>by unfold M0 at z;lia,wo,cs,kv,la,db,en,h',h.hh.set ok.hn (λk v b' m z y=>y.fr F ?_) (λv z=>?_),ww h.hl F (by lia),h.hd,h.le,h.wy⟩
 ·have:=(ok.hr _ m).1
  have:0<=k:=this
  lia
 ·rw[h.hv] at z
  cases z
  exact⟨tp,x,ra,C,rfl,F.ts _ _ h.ht,h.ec,R',h.l20⟩
theorem zcT(D:DkF K t)(h:MvI t H d a lb n f h0 g CC S wo cs kv la db en r j s tp x ra C)(ok:DsOk n f g CC S)(ho:yD C s=af)(q:mvP t H d a lb n f h0 g CC S Q) :
  Zn K t { nx:=λσ H'=>R σ H',rt:=Q } [aa (.ref d),aa (.int h0),aa (.int r),aa (.ref x),o4,o5] H:=by
 have eh:=h.o.at (i:=5) rfl
 have l5:=ok.cc.le
 have ln:=ok.len
 obtain⟨C',ec',I,j11⟩:=ok.rn _ h.hm
 obtain rfl:C'=C:=bQ (ec'.symm.trans h.ec)
 obtain⟨k,rk,_,kl⟩:=ok.rh h.hm
 have rk:r=f+k:=rk
 have f0:=ok.f0
 refine(ym (h.o.at (i:=0) rfl) D.cD D.d6 rfl rfl ⟨a.hd,rfl,.inl ⟨_,.inl eh⟩,_,rfl,_,.inl h0,_,eh,rfl,h.hv,?_⟩)
 have h3:=h.o.put (i:=5) (o':=.dK (ye kv (.inl h0))) rfl rfl (by lia)
 have F3:=h.o.fput (i:=5) (o':=.dK (ye kv (.inl h0))) rfl (by lia)
 generalize upd H a.hd (.dK (ye kv (.inl h0)))=H3 at *
 have h3:DkO t H3 lb (dkL t d a n f wo cs S.ws (ye kv (.inl h0)) la db en) a.mks a.re g S.ls (rdP S.ld) cs CC:=h3
 obtain⟨R3,_⟩:=h.rn.fr h.l20 F3 (Z1 _)
 have l2:s.gi.length<=j:=I.ok.l2
 have l3:s.no.length<=j:=I.ok.l3
 have j11:j<=11:=j11
 refine(ym (h3.at (i:=0) rfl) D.cD D.d8 rfl rfl ⟨a.jb,_,_,rfl,h3.at (i:=2) rfl,rfl,_,rfl,Wr R3.ix rfl rfl ⟨x,ra,C',s,rfl,R3,by lia,I.ok.nd,by lia,(λH' z=>by rw[ho] at z;cases z),λr' o nl gl out H4 _ s4 hnl hgl _ hr oc hn hg gi=>?_⟩⟩)
 obtain⟨lb4,F4,h4,l14⟩:=h3.relab (M:=M1) (N:=λb=>b=nl\/b=gl) 14 (by lia) s4 λb z=>by
  obtain⟨xs,hx,_⟩:=id hn
  obtain⟨ys,hy,_⟩:=id hg
  rcases z with rfl|rfl
  ·exact⟨hnl,_,hx⟩
  ·exact⟨hgl,_,hy⟩
 have hP:PprAt H4 lb4 r' s.no out:=⟨o,nl,gl,hr,hn,hg,l14 _ (.inl rfl),l14 _ (.inr rfl)⟩
 have lo:out.length<=s.gi.length:=zeB gi
 have nt:zep s.no out:=⟨I.ok.nd,zgm gi,by lia,by lia⟩
 have ll:S.ls.length<=5:=by
  have:=wG (b:=jg f 0 CC.length) h.o.ms.nd λx hx=>by
   obtain⟨y,hy,rfl⟩:=bE.mp hx
   have:=ok.ly y hy
   exact rks_mem.mpr ⟨(y.1-f).toNat,by lia,by lia,by lia⟩
  unfold jg at this
  rw[bd,bd,fu] at this
  lia
 have nr:r ∉ S.ld.map (·.1):=λz=>ok.nd.2.1.2.2 r (bu (f:=λe:Int×Int×Nat×RSt=>e.2.1) h.hm) r z rfl
 have F34:=F3.trans F4
 refine⟨d,a,lb4,n,f,wo,cs,S.ws,_,la,db,en,g,S.ls,S.ld,CC,r',r,s,out,rfl,h4,ww h.hl F34 (.inr (by lia)),h.hd,ok.nt,by lia,nr,by lia,by lia,hP,nt,λH5 lb5 la5 db5 F5 h5 hl5 hd5=>?_⟩
 refine⟨_,rfl,_,rfl,by show 3<=Bb;rw[bS];decide,λp hp=>?_⟩
 have s6:=isV (o:=HO.tup [V.str "lay",V.int h0,V.int r]) p hp
 have F6:=F34.trans (F5.trans (Fr.same s6))
 exact q _ _ lb5 _ _ F6.m0 (Vw (e:=.lay r) p zh λ_ z=>nomatch z) (.lay h.hm h.ec ho gi) ⟨wo,cs,_,la5,db5,en,h5.same rfl s6,(qo h.hh F6 Z1).drop,ww hl5 (Fr.same (M:=M1) s6) (.inr (by lia)),hd5,h.le,h.wy⟩
theorem zcU(D:DkF K t)(h:MvI t H d a lb n f h0 g CC S wo cs kv la db en r j s tp x ra C)(ok:DsOk n f g CC S)(ho:yD C s=ak)(q:mvP t H d a lb n f h0 g CC S Q) :
  Zo K t (qqN Q) [aa (.ref d),aa (.int h0),aa (.int r),aa (.ref x),ai,ai] H:=by
 obtain⟨C',ec',I,j11⟩:=ok.rn _ h.hm
 obtain rfl:C'=C:=bQ (ec'.symm.trans h.ec)
 obtain⟨O,lC⟩:=ok.cc.ok C' (bW h.ec)
 obtain⟨k,rk,_,kl⟩:=ok.rh h.hm
 have rk:r=f+k:=rk
 have f0:=ok.f0
 have j11:j<=11:=j11
 refine(Wr h.rn.ix rfl rfl ⟨x,ra,C',s,rfl,h.rn,O.ok,I.ok.so,λH3 ha s3=>?_,λp q1 H3 ha s3 hq=>?_⟩)
 ·have h3:=h.same s3
  refine⟨_,rfl,rfl,_,rfl,yY rfl (Wr h3.rn.ix rfl rfl ⟨x,0,j,ra,C',s,rfl,h3.rn,O.ok,I.ok,by lia,λH4 k4 R4=>?_⟩)⟩
  obtain⟨F4,G4⟩:=h3.step ok R4 k4
  refine⟨_,rfl,_,rfl,by show 3<=Bb;rw[bS];decide,λp hp=>?_⟩
  have s6:=isV (o:=HO.tup [V.str "step",V.int h0,V.int r]) p hp
  exact q _ _ lb _ _ ((Fr.same s3).trans (F4.trans (Fr.same s6))) (Vw (e:=.step r) p zh λ_ z=>nomatch z) (.step h.hm h.ec ho ha) (G4.same s6)
 ·have h3:=h.same s3
  obtain⟨_,_,im,_,sn,_⟩:=h3.o.ms.ins
  refine⟨_,rfl,rfl,_,rfl,ya rfl (ym (h3.o.at (i:=0) rfl) D.cD D.d7 rfl rfl ⟨a.mks,_,_,rfl,im,sn,_,rfl,_,rfl,a.mks,q1,r,_,g,S.ls,p,rfl,h3.o.ms,by lia,hq,λH4 s4=>?_⟩)⟩
  have h4:=h3.same s4
  refine(Wr h4.rn.ix rfl rfl ⟨_,rfl,x,yE g S.ls p r,j,ra,C',s,rfl,h4.rn,O.ok,I.ok,by lia,λH5 k5 R5=>?_⟩)
  obtain⟨F5,G5⟩:=h4.step ok R5 k5
  refine⟨_,rfl,_,rfl,_,rfl,_,rfl,by show 5<=Bb;rw[bS];decide,λp' hp=>?_⟩
  have s6:=isV (o:=HO.tup [V.str "read",V.int h0,V.int r,V.ref q1,V.int (yE g S.ls p r)]) p' hp
  exact q _ _ lb _ _ ((Fr.same (s3.trans s4)).trans (F5.trans (Fr.same s6))) (Vw (e:=.read r p _) q1 zh λp e=>by cases e;exact s6 _ _ (F5.ts _ _ (s4 _ _ hq))) (.read h.hm h.ec ho ha) (G5.same s6)
theorem V2{vs:List V}{_E:XK}(D:DkF K t)(h:we t vs H Q _E) :
  YW K t (qqN Q) (L2.start ["self","hand","rank","run","place","worth"] vs) H:=by
 obtain⟨d,a,lb,n,f,h0,g,CC,S,rfl,h,ok,p0,pn,q⟩:=h
 have G:=h
 obtain⟨wo,cs,kv,la,db,en,h,hh,hl,hd,le,wy⟩:=h
 have e1:H d=aa (.ins t.q00 a.dx (YV a n f)):=h.at (i:=0) rfl
 have eh:H a.hd=aa (.dK kv):=h.at (i:=5) rfl
 refine⟨_,rfl,_,_,rfl,rfl,_,rfl,ya (Bk (by lia)) ⟨_,rfl,ym e1 D.cD D.d1 rfl rfl ⟨_,_,rfl,rfl,_,rfl,ya (Bk (by lia)) ⟨_,rfl,ym e1 D.cD D.d6 rfl rfl ⟨a.hd,_,rfl,.k (k:=.inl h0) eh,_,rfl,?_⟩⟩⟩⟩⟩
 rcases hh.get (h:=h0) with ⟨z,nm⟩|⟨v,⟨r,j,s⟩,z,hm,tp,x,ra,C,rfl,ht,ec,R,l20⟩
 ·rw[z]
  exact yY rfl (Wr e1 rfl rfl ⟨_,rfl,d,a,lb,n,f,h0,g,CC,S,rfl,G,ok,nm,q⟩)
 ·have dg:DGet H a.hd (.int h0) (aa (.ref tp)):=by
   have y:=DGet.k (k:=.inl h0) eh
   rwa [z] at y
  rw[z]
  refine ya rfl (ym e1 D.cD D.d6 rfl rfl ⟨_,rfl,a.hd,_,rfl,dg,tp,_,0,_,rfl,rfl,SqT.of ht,rfl,?_⟩)
  refine(ym e1 D.cD D.d6 rfl rfl ⟨_,rfl,a.hd,_,rfl,dg,tp,_,1,_,rfl,rfl,SqT.of ht,rfl,?_⟩)
  refine(Wr R.ix rfl rfl ⟨x,ra,C,s,rfl,R,λH2 s2=>⟨_,rfl,?_⟩⟩)
  have I:MvI t H2 d a lb n f h0 g CC S wo cs kv la db en r j s tp x ra C:=MvI.same ⟨h,hh,hl,hd,le,wy,hm,z,ht,ec,R,l20⟩ s2
  have q2:mvP t H2 d a lb n f h0 g CC S Q:=λv H' lb' e S' F=>q v H' lb' e S' ((Fr.same s2).trans F)
  cases ho:yD C s with
  |true=>exact yY rfl (zcT D I ok ho q2)
  |false=>exact ya rfl (zcU D I ok ho q2)
end
structure PO(H0:Hp)(x w:ac)(ox:HO)(H:Hp)(lb:ac->Nat)(F:ac->Prop)(E:List (Nat×ac×HO)):Prop where
 hx:H x=aa ox
 lx:lb x=1
 ob:∀e∈E,1<e.1/\H e.2.1=aa e.2.2/\lb e.2.1=e.1
 ow:∀b,lb b≠0->∃o,H b=aa o
 kp:JC x H0 H
 fr:∀b,lb b≠0->b=x\/b=w\/H0 b=ai
 f10:∀b,lb b=10↔F b
section
variable {H0 H':Hp}{x w c:ac}{ox o:HO}{lb:ac->Nat}{E:List (Nat×ac×HO)}{n:Nat}{N F:ac->Prop}
theorem PO.put(h:PO H0 x w ox H lb F E)(o:HO):PO H0 x w o (upd H x o) lb F E:=by
 refine⟨zh,h.lx,λe he=>?_,λb z=>?_,λb u z e=>by rw[zi z];exact h.kp b u z e,h.fr,h.f10⟩
 ·obtain⟨h1,h2,h3⟩:=h.ob e he
  exact⟨h1,by rw[zi (λy=>by rw[y,h.lx] at h3;lia)];exact h2,h3⟩
 ·obtain⟨u,e⟩:=h.ow b z
  exact Vs b u e
theorem PO.same(h:PO H0 x w ox H lb F E)(s:Same H H'):PO H0 x w ox H' lb F E:=⟨s _ _ h.hx,h.lx,λe he=>let ⟨h1,h2,h3⟩:=h.ob e he;⟨h1,s _ _ h2,h3⟩,λb z=>let ⟨o,e⟩:=h.ow b z;⟨o,s _ _ e⟩,λb o z e=>s _ _ (h.kp b o z e),h.fr,h.f10⟩
theorem PO.l0(h:PO H0 x w ox H lb F E)(hc:H c=ai):lb c=0/\H0 c=ai:=by
 have nx:c≠x:=λz=>by rw[z,h.hx] at hc;cases hc
 refine⟨fh (λz=>by obtain⟨o,e⟩:=h.ow c z;rw[hc] at e;cases e),?_⟩
 cases e:H0 c with
 |none=>rfl
 |some u=>have:=h.kp c u nx e;rw[hc] at this;cases this
open Classical in
theorem PO.lab{F':ac->Prop}(h:PO H0 x w ox H lb F E)(n:Nat)(hF:∀b,(N b/\n=10\/F b)↔F' b)(hN:∀b,N b->lb b=0/\H0 b=ai/\∃o,H b=aa o):∃lb',PO H0 x w ox H lb' F' E/\(∀b,N b->lb' b=n)/\∀b,¬ N b->lb' b=lb b:=by
 have e0:∀b,lb b≠0->¬ N b:=λb z y=>z (hN b y).1
 refine⟨λb=>if N b then n else lb b,⟨h.hx,(aj (e0 x (by rw[h.lx];decide))).trans h.lx,λe he=>?_,λb z=>?_,h.kp,λb z=>?_,λb=>?_⟩,λb z=>am z,λb z=>aj z⟩
 ·obtain⟨h1,h2,h3⟩:=h.ob e he
  by_cases y:N e.2.1
  ·have:=(hN _ y).1;lia
  ·exact⟨h1,h2,(aj y).trans h3⟩
 ·by_cases y:N b
  ·exact(hN b y).2.2
  ·exact h.ow b (λw=>z ((aj y).trans w))
 ·by_cases y:N b
  ·exact .inr (.inr (hN b y).2.1)
  ·exact h.fr b (λw=>z ((aj y).trans w))
 ·rw[<-hF,<-h.f10]
  by_cases y:N b
  ·rw[am y,(hN b y).1];simp[y]
  ·rw[aj y];simp[y]
theorem PO.new(h:PO H0 x w ox H lb F E)(n:Nat)(n1:1<n)(n2:n≠10)(hc:H c=ai):∃lb',PO H0 x w ox (upd H c o) lb' F ((n,c,o)::E):=by
 obtain⟨l0,f0⟩:=h.l0 hc
 obtain⟨lb',h',e1,e2⟩:=(h.same (isV c hc (o:=o))).lab (N:=λb=>b=c) n (λb=>⟨λz=>z.resolve_left λy=>n2 y.2,.inr⟩) λb z=>by rw[z];exact⟨l0,f0,_,zh⟩
 exact⟨lb',h'.hx,h'.lx,λe he=>by
  rcases bD.mp he with rfl|he
  ·exact⟨n1,zh,e1 c rfl⟩
  ·exact h'.ob e he,h'.ow,h'.kp,h'.fr,h'.f10⟩
open Classical in
theorem PO.init(h:H0 x=aa o)(hw:∃u,H0 w=aa u):∃lb,PO H0 x w o H0 lb (λ_=>False) []/\(w≠x->lb w=2)/\∀b,b≠x->b≠w->lb b=0:=by
 refine⟨λb=>if b=x then 1 else if b=w then 2 else 0,⟨h,am rfl,(λe he=>nomatch he),λb z=>?_,λb u _ e=>e,λb z=>?_,λb=>?_⟩,λz=>(aj z).trans (am rfl),λb z y=>(aj z).trans (aj y)⟩
 ·by_cases y:b=x
  ·rw[y];exact⟨_,h⟩
  ·by_cases v:b=w
   ·rw[v];exact hw
   ·rw[aj y,aj v] at z;exact absurd rfl z
 ·by_cases y:b=x
  ·exact .inl y
  ·by_cases v:b=w
   ·exact .inr (.inl v)
   ·rw[aj y,aj v] at z;exact absurd rfl z
 ·by_cases y:b=x
  ·rw[am y];simp
  ·by_cases v:b=w
   ·rw[aj y,am v];simp
   ·rw[aj y,aj v];simp
section
variable {C dx:ac}{fs:List (Str×V)}{fl:Str}{y:V}{σ:St}{D:YB}{k:Nat}
theorem PO.st(P:PO H0 x w (.ins C dx fs) H lb F E)(h0:σ[0]?=aa (aa (.ref x)))(c:Cls K C)(n:NoAttr K C fl)(hl:fs.length<1000)(q:∀H',PO H0 x w (.ins C dx (xI fl y fs)) H' lb F E->D.nx σ H'):zb 0 σ H λx' H2=>∃a C dx fs,x'=.ref a/\H2 a=aa (.ins C dx fs)/\Cls K C/\NoAttr K C fl/\fs.length<1000/\D.nx σ (upd H2 a (.ins C dx (xI fl y fs))):=⟨_,h0,x,C,dx,fs,rfl,P.hx,c,n,hl,q _ (P.put _)⟩
theorem PO.stM(M:MkAt t H m F g [])(P:PO H0 x w (.ins C dx fs) H lb F E)(h0:σ[0]?=aa (aa (.ref x)))(c:Cls K C)(n:NoAttr K C fl)(hl:fs.length<1000)(q:∀H',PO H0 x w (.ins C dx (xI fl y fs)) H' lb F E->MkAt t H' m F g []->D.nx σ H'):zb 0 σ H λx' H2=>∃a C dx fs,x'=.ref a/\H2 a=aa (.ins C dx fs)/\Cls K C/\NoAttr K C fl/\fs.length<1000/\D.nx σ (upd H2 a (.ins C dx (xI fl y fs))):=⟨_,h0,x,C,dx,fs,rfl,P.hx,c,n,hl,q _ (P.put _) (M.keep (λb o fb e=>by rw[zi (λz=>by have:=(P.f10 b).mpr fb;rw[z,P.lx] at this;cases this)];exact e) (qm P.hx λ_ z=>nomatch z))⟩
theorem PO.sv(P:PO H0 x w (.ins C dx fs) H lb F E)(h0:σ[0]?=aa (aa (.ref x)))(h1:σ[k]?=aa (aa y))(c:Cls K C)(n:NoAttr K C fl)(hl:fs.length<1000)(q:∀H',PO H0 x w (.ins C dx (xI fl y fs)) H' lb F E->D.nx σ H'):xF K (zb 0) (zb k) fl D σ H:=⟨_,h1,P.st h0 c n hl q⟩
theorem PO.so(o:HO)(m:Nat)(m1:1<m)(m2:m≠10)(P:PO H0 x w (.ins C dx fs) H lb F E)(h0:σ[0]?=aa (aa (.ref x)))(c:Cls K C)(n:NoAttr K C fl)(hl:fs.length<1000)(q:∀c H' lb',PO H0 x w (.ins C dx (xI fl (.ref c) fs)) H' lb' F ((m,c,o)::E)->D.nx σ H')(p:ac)(hp:H p=ai):zb 0 σ (upd H p o) λx' H2=>∃a C dx fs,x'=.ref a/\H2 a=aa (.ins C dx fs)/\Cls K C/\NoAttr K C fl/\fs.length<1000/\D.nx σ (upd H2 a (.ins C dx (xI fl (.ref p) fs))):=by
 obtain⟨lb',P'⟩:=P.new (o:=o) m m1 m2 hp
 exact P'.st h0 c n hl λH'=>q p H' lb'
end
theorem V3{l dx:ac}{xs:List V}{C:List Cs}(F:RnF K t)(h1:H x=aa (.ins t.q01 dx []))(h2:H l=aa (.lst xs))(h3:Paired (CsAt H) xs C)(q:∀H' a,JC x H H'->RnAt t H' x a C st0->(∀b,OwA x a b->b=x\/H b=ai)->Q .non H') :
  Zj K t (qqN Q) (L2.start ["self","code"] [.ref x,.ref l]) H:=by
 obtain⟨lb,P,_⟩:=PO.init h1 ⟨_,h1⟩
 unfold Zj zm
 refine⟨_,rfl,l,xs,rfl,.inl (SqL.of h2),P.so (.lst xs) 2 (by lia) (by lia) rfl F.cl F.n1 (by lia) λco H1 lb1 P=>P.st rfl F.cl F.n2 (by show 1<1000;decide) λH2 P=>P.st rfl F.cl F.n3 (by show 2<1000;decide) λH3 P=>P.so (.dK []) 3 (by lia) (by lia) rfl F.cl F.n4 (by show 3<1000;decide) λsl H4 lb4 P=>P.so (.dT []) 4 (by lia) (by lia) rfl F.cl F.n5 (by show 4<1000;decide) λgi H5 lb5 P=>P.so (.dT []) 5 (by lia) (by lia) rfl F.cl F.n6 (by show 5<1000;decide) λno H6 lb6 P=>⟨by lia,P.so (.lst []) 6 (by lia) (by lia) rfl F.cl F.n7 (by show 6<1000;decide) λsa H7 lb7 P=>?_⟩⟩
 have ob:∀n c o,(n,c,o)∈_->H7 c=aa o/\lb7 c=n:=λn c o z=>(P.ob (n,c,o) z).2
 have o2:=ob 2 co _ (.tail _ (.tail _ (.tail _ (.tail _ (.head _)))))
 have o3:=ob 3 sl _ (.tail _ (.tail _ (.tail _ (.head _))))
 have o4:=ob 4 gi _ (.tail _ (.tail _ (.head _)))
 have o5:=ob 5 no _ (.tail _ (.head _))
 have o6:=ob 6 sa _ (.head _)
 have nx:∀ {n:Nat} {b:ac},lb7 b=n+2->b=x\/H b=ai:=λ{n b} z=>(P.fr b (by lia)).imp id λy=>y.elim (λy=>by rw[y,P.lx] at z;lia) id
 refine q H7 ⟨dx,co,sl,gi,no,sa⟩ P.kp ⟨P.hx,⟨xs,o2.1,xO (λb zs e=>P.kp _ _ (zG e h1 (by lia)) e) h3⟩,o3.1,o4.1,o5.1,o6.1,λz=>by rw[show gi=no from z,o5.2] at o4;exact absurd o4.2 (by lia),λz=>by rw[show co=sa from z,o6.2] at o2;exact absurd o2.2 (by lia)⟩ λb z=>?_
 rcases z with (z|z|z|z|z)|z
 ·exact .inl z
 ·rw[z];exact nx o3.2
 ·rw[z];exact nx o4.2
 ·rw[z];exact nx o5.2
 ·rw[z];exact nx o6.2
 ·rw[z];exact nx o2.2
theorem V4{vs:List V}{_E:XK}(D:DkF K t)(h:qd t vs H Q _E) :
  qf K t (qqN Q) (L2.start ["self","makes"] vs) H:=by
 obtain⟨x,m,dx,rfl,h1,q⟩:=h
 obtain⟨lb,P,_⟩:=PO.init h1 ⟨_,h1⟩
 unfold qf zm
 refine P.sv rfl rfl D.cJ D.j1 (by lia) λH1 P=>P.so (.dK []) 7 (by lia) (by lia) rfl D.cJ D.j2 (by show 1<1000;decide) λla H2 lb2 P=>P.so (.dT []) 11 (by lia) (by lia) rfl D.cJ D.j3 (by show 2<1000;decide) λre H3 lb3 P=>P.so (.dK []) 8 (by lia) (by lia) rfl D.cJ D.j4 (by show 3<1000;decide) λdb H7 lb6 P7=>?_
 have go:∀n c o,(n,c,o)∈[(8,db,HO.dK []),(11,re,.dT []),(7,la,.dK [])]->H7 c=aa o/\H c=ai/\lb6 c=n:=λn c o z=>by
  obtain⟨h1,h2,h3⟩:=P7.ob _ z
  have h1:1<n:=h1
  have h3:lb6 c=n:=h3
  rcases P7.fr c (by lia) with y|y|y
  ·rw[y,P7.lx] at h3;lia
  ·rw[y,P7.lx] at h3;lia
  ·exact⟨h2,y,h3⟩
 obtain⟨a1,a2,a3⟩:=go 7 la _ (.tail _ (.tail _ (.head _)))
 obtain⟨b1,b2,b3⟩:=go 11 re _ (.tail _ (.head _))
 obtain⟨c1,c2,c3⟩:=go 8 db _ (.head _)
 exact q _ la re db P7.kp P7.hx a1 b1 c1 a2 b2 c2 (λz=>by rw[z,c3] at a3;cases a3)
theorem V5{vs:List V}{_E:XK}(D:DkF K t)(h:xA t vs H Q _E) :
  qg K t (qqN Q) (L2.start ["self","table","hands","way","first"] vs) H:=by
 obtain⟨x,l,w,dx,dw,n,f,wo,g,rfl,h1,h2,h3,h4,nw,q⟩:=h
 obtain⟨lb,P,lw,_⟩:=PO.init (w:=w) h1 ⟨_,h4⟩
 have P:PO H x w _ H lb (λ_=>False) [(2,w,wo)]:=⟨P.hx,P.lx,λe he=>by cases br.mp he;exact⟨by show 1<2;decide,h4,lw nw⟩,P.ow,P.kp,P.fr,P.f10⟩
 obtain⟨xs,hx,px⟩:=h2
 have nlx:l≠x:=zG hx h1 (by lia)
 unfold qg zm
 refine P.sv rfl rfl D.cD D.d1 (by lia) λH1 P=>P.sv rfl rfl D.cD D.d2 (by show 1<1000;decide) λH2 P=>P.sv rfl rfl D.cD D.d3 (by show 2<1000;decide) λH3 P=>⟨by lia,P.so (.lst []) 4 (by lia) (by lia) rfl D.cD D.d4 (by show 3<1000;decide) λcl H4 lb4 P=>⟨by lia,P.so (.lst []) 5 (by lia) (by lia) rfl D.cD D.d5 (by show 4<1000;decide) λwl H5 lb5 P=>P.so (.dK []) 6 (by lia) (by lia) rfl D.cD D.d6 (by show 5<1000;decide) λhd H9 lb9 P=>?_⟩⟩
 refine⟨_,rfl,?_⟩
 intro m dm hm hdm nm
 have sm:Same H9 (upd (upd H9 dm (HO.own m)) m (HO.ins t.q02 dm [])):=λb o e=>by rw[zi (zx e hm),zi (zx e hdm)];exact e
 have hl9:LsAt H9 l g:=⟨xs,P.kp _ _ nlx hx,Paired.mapP px λ_ _ ⟨r,p,e,e1,e2⟩=>⟨r,p,e,P.kp _ _ (zG e1 h1 (by lia)) e1,P.kp _ _ (zG e2 h1 (by lia)) e2⟩⟩
 refine⟨m,l,dm,g,rfl,zh,hl9.same sm,h3,λH10 F k10 M10 f10=>⟨rfl,?_⟩⟩
 have s10:Same H9 H10:=λb o e=>k10 b o (zx e hm) (sm _ _ e)
 have fF:∀b,F b->H9 b=ai:=λb z=>by
  rcases f10 b z with y|y
  ·rw[y];exact hm
  ·cases e:H9 b with
   |none=>rfl
   |some o=>have:=sm b o e;rw[y] at this;cases this
 obtain⟨lb10,P',e10,_⟩:=(P.same s10).lab (N:=F) (F':=F) 10 (λb=>⟨λz=>z.elim (λy=>y.1) cY,λz=>.inl ⟨z,rfl⟩⟩) λb z=>⟨(P.l0 (fF b z)).1,(P.l0 (fF b z)).2,M10.own b z⟩
 replace P:=P'
 clear P' k10 f10 s10 sm hm hdm nm hl9 fF
 refine P.stM M10 rfl D.cD D.d7 (by show 6<1000;decide) λH11 P M11=>?_
 refine⟨_,rfl,x,_,_,_,_,rfl,P.hx,D.cD,D.d7,rfl,?_⟩
 intro jb dj hj hdj nj
 have sj:Same H11 (upd (upd H11 dj (HO.own jb)) jb (HO.ins t.q03 dj [])):=λb o e=>by rw[zi (zx e hj),zi (zx e hdj)];exact e
 refine⟨jb,m,dj,rfl,zh,λH12 la re db k12 j12 l12 r12 d12 nl nr nd ld=>⟨rfl,?_⟩⟩
 have s12:Same H11 H12:=λb o e=>k12 b o (zx e hj) (sj _ _ e)
 have fr:∀b,upd (upd H11 dj (HO.own jb)) jb (HO.ins t.q03 dj []) b=ai->H11 b=ai:=λb z=>by
  cases e:H11 b with
  |none=>rfl
  |some o=>have:=sj b o e;rw[z] at this;cases this
 have e0:∀b,H11 b=ai->_:=λb z=>P.l0 z
 have M12:=M11.same s12
 have Q0:=P.same s12
 obtain⟨lb1,Q1,a1,b1⟩:=Q0.lab (N:=λb=>b=jb) (F':=F) 3 (λb=>⟨λz=>z.resolve_left (λy=>nomatch y.2),.inr⟩) λb z=>by rw[z];exact⟨(e0 _ hj).1,(e0 _ hj).2,_,j12⟩
 have n1:la≠jb:=λz=>by rw[z,zh] at nl;cases nl
 have n2:re≠jb:=λz=>by rw[z,zh] at nr;cases nr
 have n3:db≠jb:=λz=>by rw[z,zh] at nd;cases nd
 have n4:re≠la:=zG r12 l12 (by lia)
 have n5:db≠re:=zG d12 r12 (by lia)
 obtain⟨lb2,Q2,a2,b2⟩:=Q1.lab (N:=λb=>b=la) (F':=F) 7 (λb=>⟨λz=>z.resolve_left (λy=>nomatch y.2),.inr⟩) λb z=>by rw[z,b1 _ n1];exact⟨(e0 _ (fr _ nl)).1,(e0 _ (fr _ nl)).2,_,l12⟩
 obtain⟨lb3,Q3,a3,b3⟩:=Q2.lab (N:=λb=>b=re) (F':=F) 11 (λb=>⟨λz=>z.resolve_left (λy=>nomatch y.2),.inr⟩) λb z=>by rw[z,b2 _ n4,b1 _ n2];exact⟨(e0 _ (fr _ nr)).1,(e0 _ (fr _ nr)).2,_,r12⟩
 obtain⟨lb4,Q4,a4,b4⟩:=Q3.lab (N:=λb=>b=db) (F':=F) 8 (λb=>⟨λz=>z.resolve_left (λy=>nomatch y.2),.inr⟩) λb z=>by rw[z,b3 _ n5,b2 _ ld.symm,b1 _ n3];exact⟨(e0 _ (fr _ nd)).1,(e0 _ (fr _ nd)).2,_,d12⟩
 have y1:lb4 jb=3:=by rw[b4 _ n3.symm,b3 _ n2.symm,b2 _ n1.symm,a1 _ rfl]
 have y2:lb4 la=7:=by rw[b4 _ ld,b3 _ n4.symm,a2 _ rfl]
 have y3:lb4 re=11:=by rw[b4 _ n5.symm,a3 _ rfl]
 have y4:=a4 _ rfl
 have P:PO H x w _ H12 lb4 F [(3,jb,.ins t.q03 dj (VO m la re db)),(7,la,.dK []),(11,re,.dT []),(8,db,.dK []),(6,hd,.dK []),(5,wl,.lst []),(4,cl,.lst []),(2,w,wo)]:=⟨Q4.hx,Q4.lx,λe he=>by
  rcases bD.mp he with rfl|he
  ·exact⟨by show 1<3;decide,j12,y1⟩
  rcases bD.mp he with rfl|he
  ·exact⟨by show 1<7;decide,l12,y2⟩
  rcases bD.mp he with rfl|he
  ·exact⟨by show 1<11;decide,r12,y3⟩
  rcases bD.mp he with rfl|he
  ·exact⟨by show 1<8;decide,d12,y4⟩
  exact Q4.ob e he,Q4.ow,Q4.kp,Q4.fr,Q4.f10⟩
 clear Q0 Q1 Q2 Q3 Q4 a1 a2 a3 a4 b1 b2 b3 b4 y1 y2 y3 y4 n1 n2 n3 n4 n5 s12 sj k12 e0 fr nl nr nd ld hj hdj nj j12 l12 r12 d12
 refine P.stM M12 rfl D.cD D.d8 (by show 7<1000;decide) λH13 P M13=>?_
 refine⟨by lia,λen hc=>?_⟩
 have M14:=M13.same (isV en hc (o:=.lst []))
 obtain⟨lb5,P'⟩:=P.new (o:=.lst []) 9 (by lia) (by lia) hc
 replace P:=P'
 clear P'
 generalize upd H13 en (.lst [])=H14 at *
 refine P.stM M14 rfl D.cD D.d9 (by show 8<1000;decide) λH15 P M15=>?_
 have eF:(λb=>lb5 b=10)=F:=funext λb=>propext (P.f10 b)
 have ob:∀n c o,(n,c,o)∈_->H15 c=aa o/\lb5 c=n:=λn c o z=>(P.ob (n,c,o) z).2
 obtain⟨r1,r2⟩:=ob 11 re _ (.tail _ (.tail _ (.tail _ (.head _))))
 refine q H15 ⟨dx,w,dw,cl,wl,hd,m,jb,dj,en,la,re,db⟩ lb5 rfl rfl P.kp (λb o n1 n2 e=>fh λz=>by rcases P.fr b z with y|y|y;exact n1 y;exact n2 y;rw[y] at e;cases e) ⟨λi b o e=>?_,by rw[eF];exact M15,⟨[],⟨r1,cU,cU,(by lia),λ_ _ ⟨_,z,_⟩=>nomatch z⟩⟩,r2,.nil,P.ow⟩
 match i,e with
 |0,e=>cases e;exact⟨P.hx,P.lx⟩
 |1,e=>cases e;exact ob 2 _ _ (.tail _ (.tail _ (.tail _ (.tail _ (.tail _ (.tail _ (.tail _ (.tail _ (.head _)))))))))
 |2,e=>cases e;exact ob 3 _ _ (.tail _ (.head _))
 |3,e=>cases e;exact ob 4 _ _ (.tail _ (.tail _ (.tail _ (.tail _ (.tail _ (.tail _ (.tail _ (.head _))))))))
 |4,e=>cases e;exact ob 5 _ _ (.tail _ (.tail _ (.tail _ (.tail _ (.tail _ (.tail _ (.head _)))))))
 |5,e=>cases e;exact ob 6 _ _ (.tail _ (.tail _ (.tail _ (.tail _ (.tail _ (.head _))))))
 |6,e=>cases e;exact ob 7 _ _ (.tail _ (.tail _ (.head _)))
 |7,e=>cases e;exact ob 8 _ _ (.tail _ (.tail _ (.tail _ (.tail _ (.head _)))))
 |8,e=>cases e;exact ob 9 _ _ (.head _)
end
section
variable {β:Type}{l:List (Int×β)}{h:Int}{b b0:β}{q:Int×β->Nat}
theorem zaw:∀ {l:List (Int×β)},h ∉ l.map (·.1)->yd l h=l
 |[],_=>rfl
 |e::l,n=>by
  rw[bo,bD] at n
  have c:e.1≠h:=λz=>n (.inl z.symm)
  rw[yd,dh,am (Bj c)]
  exact congrArg _ (zaw λz=>n (.inr z))
theorem jD:∀ {l:List (Int×β)},(l.map (·.1)).Nodup->(h,b0)∈l->(XA l h b).Perm ((h,b)::yd l h)/\l.Perm ((h,b0)::yd l h)
 |e::l,nd,m=>by
  rw[bo,bZ] at nd
  by_cases c:e.1=h
  ·have e0:e=(h,b0):=zf1 (l:=e::l) (by rw[bo,bZ];exact nd) bq m c
   have n:h ∉ l.map (·.1):=by rw[<-c];exact nd.1
   have z:yd (e::l) h=l:=by rw[yd,dh,aj (by rw[decide_eq_true_eq];exact λz=>z c)];exact zaw n
   have y:XA l h b=l:=(dA λe he=>aj λw=>n (bE.mpr ⟨e,he,w⟩)).trans (List.map_id _)
   rw[z]
   refine⟨?_,by rw[e0]⟩
   show ((if e.1=h then (h,b) else e)::XA l h b).Perm _
   rw[am c,y]
  ·have m:=(bD.mp m).resolve_left λz=>c (by rw[<-z])
   obtain⟨p1,p2⟩:=jD nd.2 m
   have z:yd (e::l) h=e::yd l h:=by rw[yd,dh,am (Bj c)];rfl
   rw[z]
   refine⟨?_,(p2.cons e).trans (.swap ..)⟩
   show ((if e.1=h then (h,b) else e)::XA l h b).Perm _
   rw[aj c]
   exact(p1.cons e).trans (.swap ..)
theorem Y9(nd:(l.map (·.1)).Nodup)(m:(h,b0)∈l):((XA l h b).map q).sum=q (h,b)+((yd l h).map q).sum/\(l.map q).sum=q (h,b0)+((yd l h).map q).sum:=by
 obtain⟨p1,p2⟩:=jD (b:=b) nd m
 exact⟨(p1.map q).sum_nat.trans (by rw[bo,cA]),(p2.map q).sum_nat.trans (by rw[bo,cA])⟩
end
theorem JN{q:Int->Nat}:∀ {a b:List Int},a.Nodup->(∀x∈a,x∈b)->(a.map q).sum<=(b.map q).sum
 |[],_,_,_=>bP _
 |x::a,b,nd,h=>by
  rw[bZ] at nd
  have p:=iN (h x bq)
  rw[(p.map q).sum_nat,bo,bo,cA,cA]
  refine nP (JN nd.2 λy hy=>?_) _
  exact(nH λz=>nd.1 (by rw[<-z];exact hy)).mpr (h y (bn _ hy))
theorem kC{α:Type}{q q':α->Nat}:∀ {l:List α},(∀x∈l,q x<=q' x)->(l.map q).sum<=(l.map q').sum
 |[],_=>bi _
 |x::l,h=>by
  have i:=kC λy hy=>h y (bn x hy)
  have:=h x bq
  rw[bo,bo,cA,cA]
  lia
theorem WG{α:Type}{q q':α->Nat}:∀ {l:List α},(l.map λx=>q x+q' x).sum=(l.map q).sum+(l.map q').sum
 |[]=>rfl
 |x::l=>by
  have i:=WG (q:=q) (q':=q') (l:=l)
  rw[bo,bo,bo,cA,cA,cA,i]
  lia
theorem zb8{α:Type}{p:α->Prop} [DecidablePred p]{q:α->Nat}:∀ {l:List α},(l.map λx=>if p x then q x else 0).sum=((l.filter λx=>decide (p x)).map q).sum
 |[]=>rfl
 |x::l=>by
  have i:=zb8 (p:=p) (q:=q) (l:=l)
  rw[bo,cA,i,dh]
  by_cases c:p x
  ·rw[am c,am (Bj c),bo,cA]
  ·rw[aj c,aj (by rw[decide_eq_true_eq];exact c),oS]
section
variable {g:List Row}{ls:List (Int×List Row)}{p:Pl}{r r':Int}{gi:List Row}
theorem XO{r r':Int}(h:r'<=r):∀(ls:List (Int×List Row)) (s:Int×Int),wD p r' (ls.filter λy=>decide (y.1≠r)) s=wD p r' ls s
 |[],_=>rfl
 |y::ls,s=>by
  rw[dh]
  by_cases c:y.1=r
  ·rw[aj (by rw[decide_eq_true_eq];exact λz=>z c),XO h ls,wD,aj (by lia)]
  ·rw[am (Bj c),wD,wD,XO h ls]
theorem Vx(h:r'<=r):yE g (kj ls r gi) p r'=yE g ls p r':=by
 unfold yE kj
 rw[Vo,aj (λz=>Int.not_lt.mpr h z.2),XO h]
theorem zax:∀(rows:List Row) (s:Int×Int),(∀w∈rows,inW w.2=af)->inW s.2=af->inW (Vg p r rows s).2=af
 |[],_,_,h=>h
 |w::rows,s,hr,h=>by
  rw[Vg]
  refine zax rows _ (λx hx=>hr x (bn _ hx)) ?_
  split
  ·exact hr w bq
  ·exact h
theorem zay:∀(ls:List (Int×List Row)) (s:Int×Int),(∀y∈ls,∀w∈y.2,inW w.2=af)->inW s.2=af->inW (wD p r ls s).2=af
 |[],_,_,h=>h
 |y::ls,s,hr,h=>by
  rw[wD]
  refine zay ls _ (λx hx=>hr x (bn _ hx)) ?_
  split
  ·exact zax _ _ (hr y bq) h
  ·exact h
end
section
variable {f n h:Int}{g:List Row}{CC:List (List Cs)}{S S':DS}{e:Ev}
theorem zeR(I:RnI C j s)(ho:yD C s=ak):j<C.length:=by
 have no:¬ yD C s=af:=by rw[ho];decide
 have lt:=Y0 no
 have wn:s.why=ai:=by
  cases e:s.why with
  |none=>rfl
  |some v=>exact absurd (show yD C s=af by unfold yD;rw[e];rfl) no
 have:=I.at_ wn
 lia
theorem Vy{k n:Nat}(h:k<n):jg f k n=(f+k)::jg f (k+1) n:=by
 unfold jg
 rw[show n-k=n-(k+1)+1 by lia,List.range_succ_eq_map,bo,df]
 refine congr (congrArg _ (by lia)) (dA λi _=>?_)
 show f+(k:Int)+((i+1:Nat):Int)=f+((k+1:Nat):Int)+i
 lia
theorem DsOk.run(ok:DsOk n f g CC S){r:Int}{s s':RSt}{w:Int}{C:List Cs}(m:(h,r,j,s)∈S.hl)(ec:CC[(r-f).toNat]?=aa C)(ho:yD C s=ak)(hw:inW w=af):DsOk n f g CC { S with hl:=XA S.hl h (r,j+1,xn C w s) }:=by
 obtain⟨p1,p2⟩:=jD (b:=(r,j+1,xn C w s)) ok.hn m
 obtain⟨C',ec',I,_⟩:=ok.rn _ m
 obtain rfl:C'=C:=bQ (ec'.symm.trans ec)
 have O:=ok.cc.ok C' (bW ec)
 have jl:j<C'.length:=zeR I ho
 have mm:∀e∈XA S.hl h (r,j+1,xn C' w s),e=(h,r,j+1,xn C' w s)\/e∈S.hl:=λe he=>(bD.mp (p1.mem_iff.mp he)).imp id λz=>(dropH_mem.mp z).1
 refine⟨ok.f0,ok.cc,ok.el,?_,ok.so,?_,λe he=>?_,λe he=>?_,ok.nt,ok.ly,ok.gw,ok.lw⟩
 ·refine dN (.append_left _ (.append_right _ ?_)) ok.pm
  exact(p1.map λe:Int×Int×Nat×RSt=>e.2.1).trans (p2.map λe:Int×Int×Nat×RSt=>e.2.1).symm
 ·exact((p1.map λe:Int×Int×Nat×RSt=>e.1).trans (p2.map λe:Int×Int×Nat×RSt=>e.1).symm).nodup_iff.mpr ok.hn
 ·rcases mm e he with rfl|he
  ·show 0<=h/\h<n
   exact ok.hr _ m
  ·exact ok.hr e he
 ·rcases mm e he with rfl|he
  ·exact⟨C',ec,zfP O.1 I ho hw,by show j+1<=11;have:=O.2;lia⟩
  ·exact ok.rn e he
theorem DsOk.iw(ok:DsOk n f g CC S)(p:Pl)(r:Int):inW (yE g S.ls p r)=af:=zay _ _ ok.lw (ok.gw p)
theorem Mv.ok(ok:DsOk n f g CC S)(m:Mv f g CC S h e S')(h0:0<=h)(hn:h<n):DsOk n f g CC S':=by
 cases m with
 |step m ec ho ha=>exact ok.run (s':=st0) m ec ho rfl
 |read m ec ho ha=>exact ok.run (s':=st0) m ec ho (ok.iw _ _)
 |@lay r j s C gi m ec ho hg =>
  obtain⟨_,p2⟩:=jD (b:=(r,j,s)) ok.hn m
  obtain⟨C',ec',I,j11⟩:=ok.rn _ m
  obtain⟨k,rk,_,kl⟩:=ok.rh m
  have rk:r=f+k:=rk
  have l2:s.gi.length<=j:=I.ok.l2
  have l3:s.no.length<=j:=I.ok.l3
  have j11:j<=11:=j11
  have lo:gi.length<=s.gi.length:=zeB hg
  have mm:∀y∈kj S.ls r gi,y∈S.ls\/y=(r,gi):=λy hy=>(bx.mp hy).imp (λz=>(cH.mp z).1) λz=>br.mp z
  refine⟨ok.f0,ok.cc,ok.el,?_,ok.so,ok.hn.sublist (dD.map _),λe he=>ok.hr e (dropH_mem.mp he).1,λe he=>ok.rn e (dropH_mem.mp he).1,λe he=>?_,λy hy=>?_,ok.gw,λy hy=>?_⟩
  ·refine dN (.append_left _ ?_) ok.pm
   refine dN ?_ (.append_right _ (p2.map λe:Int×Int×Nat×RSt=>e.2.1).symm)
   rw[bM,<-cG]
   exact ny
  ·rcases bx.mp he with he|he
   ·exact ok.nt e he
   ·cases br.mp he
    exact(⟨I.ok.nd,zgm hg,by lia,by lia⟩:zep s.no gi)
  ·rcases mm y hy with hy|rfl
   ·exact ok.ly y hy
   ·show f<=r/\r<_;lia
  ·rcases mm y hy with hy|rfl
   ·exact ok.lw y hy
   ·exact zg9 I hg
 |@settle s gi m fr =>
  obtain⟨_,p2⟩:=jD (b:=(s,gi)) ok.nd.2.1.2.1 m
  obtain⟨k,rk,_,kl⟩:=ok.rl (bu (f:=λe:Int×RSt×List Row=>e.1) m)
  have rk:f+(S.en:Int)=f+k:=rk
  refine⟨ok.f0,ok.cc,by show S.en+1<=_;lia,?_,ok.so,ok.hn,ok.hr,ok.rn,λe he=>ok.nt e (dropH_mem.mp he).1,ok.ly,ok.gw,ok.lw⟩
  have z:=ok.pm
  rw[Vy (show S.en<CC.length by lia)] at z
  refine List.Perm.cons_inv (a:=f+(S.en:Int)) (dN ?_ z)
  refine dN ?_ (.append_left _ (.append_left _ (p2.map λe:Int×RSt×List Row=>e.1).symm))
  rw[<-cG,<-cG]
  exact ph.symm
 |@again r s gi p o ws' m hy hn' pw so fr =>
  obtain⟨_,p2⟩:=jD (b:=(s,gi)) ok.nd.2.1.2.1 m
  refine⟨ok.f0,ok.cc,ok.el,?_,so,ok.hn,ok.hr,ok.rn,λe he=>ok.nt e (dropH_mem.mp he).1,ok.ly,ok.gw,ok.lw⟩
  refine dN (.append_right _ pw) (dN ?_ ok.pm)
  refine dN ?_ (.append_left _ (.append_left _ (p2.map λe:Int×RSt×List Row=>e.1).symm))
  rw[<-cG,<-cG]
  exact ph.symm
 |@take r m fr =>
  obtain⟨k,rk,_,kl⟩:=ok.rw_ m
  refine⟨ok.f0,ok.cc,ok.el,?_,ok.so.sublist oy,?_,λe he=>?_,λe he=>?_,ok.nt,ok.ly,ok.gw,ok.lw⟩
  ·refine dN ?_ ((List.Perm.append_right _ (iN m)).symm.trans ok.pm)
   rw[bM,cG]
   show (S.ws.erase r++(S.hl.map (·.2.1)++r::S.ld.map (·.1))).Perm (r::(S.ws.erase r++(S.hl.map (·.2.1)++S.ld.map (·.1))))
   rw[<-cG,<-cG]
   exact List.perm_middle
  ·rw[bM]
   refine dH.mpr ⟨ok.hn,by simp,λx hx y hy z=>fr ?_⟩
   rw[<-show y=h from br.mp hy,<-z]
   exact hx
  ·rcases bx.mp he with he|he
   ·exact ok.hr e he
   ·cases br.mp he;exact⟨h0,hn⟩
  ·rcases bx.mp he with he|he
   ·exact ok.rn e he
   ·cases br.mp he
    exact⟨_,bb (show (r-f).toNat<CC.length by lia),rn0,bP _⟩
 |rest w l fr=>exact ok
end
def Rw_(f:Int)(n:Nat)(r:Int):Nat:=14*2^(n-1-(r-f).toNat)
open Classical in
noncomputable def pen(f:Int)(n:Nat)(g:List Row)(ls:List (Int×List Row))(r:Int)(no:List Row):Nat:=if Agr g ls r no then 0 else Rw_ f n r
noncomputable def phH(f:Int)(n:Nat)(g:List Row)(ls:List (Int×List Row))(e:Int×Int×Nat×RSt):Nat:=11-e.2.2.1+2+(Rw_ f n e.2.1-14)+pen f n g ls e.2.1 e.2.2.2.no
noncomputable def phL(f:Int)(n:Nat)(g:List Row)(ls:List (Int×List Row))(e:Int×RSt×List Row):Nat:=1+pen f n g ls e.1 e.2.1.no
noncomputable def Phi(f:Int)(n:Nat)(g:List Row)(S:DS):Nat:=(S.ws.map (Rw_ f n)).sum+((S.hl.map (phH f n g S.ls)).sum+(S.ld.map (phL f n g S.ls)).sum)
section
variable {f h r r':Int}{n k:Nat}{N:Int}{g gi no:List Row}{CC:List (List Cs)}{S S':DS}{e:Ev}{ls ls':List (Int×List Row)}
theorem zeS:14<=Rw_ f n r:=Nat.le_mul_of_pos_right 14 (Nat.pow_pos (by lia))
theorem zbn:∀m k:Nat,k+m=n->((jg f k n).map (Rw_ f n)).sum=14*(2^m-1)
 |0,k,h=>by
  rw[show jg f k n=[] by unfold jg;rw[show n-k=0 by lia];rfl]
  rfl
 |m+1,k,h=>by
  rw[Vy (by lia),bo,cA,zbn m (k+1) (by lia)]
  unfold Rw_
  rw[show n-1-(f+(k:Int)-f).toNat=m by lia,Nat.pow_succ]
  have:1<=2^m:=Nat.pow_pos (by lia)
  lia
theorem zbo:pen f n g ls r no<=Rw_ f n r:=by unfold pen;split;exact bP _;exact bi _
theorem zeT(h:∀p,yE g ls' p r=yE g ls p r):pen f n g ls' r no=pen f n g ls r no:=by
 have:Agr g ls' r no↔Agr g ls r no:=forall_congr' λy=>by rw[h]
 unfold pen
 rw[propext this]
def exR(f:Int)(n:Nat)(r x:Int):Nat:=if r<x then Rw_ f n x else 0
theorem zb9:pen f n g (kj ls r gi) r' no<=pen f n g ls r' no+exR f n r r':=by
 by_cases c:r<r'
 ·have:=zbo (f:=f) (n:=n) (g:=g) (ls:=kj ls r gi) (r:=r') (no:=no)
  unfold exR
  rw[am c]
  lia
 ·rw[zeT λp=>Vx (by lia)]
  exact mG _ _
theorem zca(ok:DsOk N f g CC S)(m:(h,r,j,s)∈S.hl)(jl:j<11)(ag:Agr g S.ls r s.no->Agr g S.ls r s'.no):Phi f n g { S with hl:=XA S.hl h (r,j+1,s') }<Phi f n g S:=by
 obtain⟨e1,e2⟩:=Y9 (b:=(r,j+1,s')) (q:=phH f n g S.ls) ok.hn m
 have:pen f n g S.ls r s'.no<=pen f n g S.ls r s.no:=by
  unfold pen
  split
  ·exact bP _
  ·rw[aj λz=>(by assumption:¬ _) (ag z)]
   exact bi _
 have p1:phH f n g S.ls (h,r,j+1,s')=11-(j+1)+2+(Rw_ f n r-14)+pen f n g S.ls r s'.no:=rfl
 have p2:phH f n g S.ls (h,r,j,s)=11-j+2+(Rw_ f n r-14)+pen f n g S.ls r s.no:=rfl
 unfold Phi
 dsimp only
 lia
theorem Mv.dec(ok:DsOk N f g CC S)(m:Mv f g CC S h e S'):(e=.rest/\S'=S)\/Phi f CC.length g S'<Phi f CC.length g S:=by
 have run:∀ {r j s C},(h,r,j,s)∈S.hl->CC[(r-f).toNat]?=aa C->yD C s=ak->j<11:=λ{r j s C} m ec ho=>by
  obtain⟨C',ec',I,_⟩:=ok.rn _ m
  obtain rfl:C'=C:=bQ (ec'.symm.trans ec)
  have:=(ok.cc.ok C' (bW ec)).2
  have:j<C'.length:=zeR I ho
  lia
 cases m with
 |step m ec ho ha =>
  refine .inr (zca ok m (run m ec ho) λz=>?_)
  rw[(WD ho).1 ha]
  exact z
 |read m ec ho ha =>
  refine .inr (zca ok m (run m ec ho) λz=>?_)
  rw[(WD ho).2 _ ha]
  intro y hy
  rcases bx.mp hy with hy|hy
  ·exact z y hy
  ·rw[br.mp hy]
 |@lay r j s C gi m ec ho hg =>
  refine .inr ?_
  obtain⟨_,p2⟩:=jD (b:=(r,j,s)) ok.hn m
  obtain⟨_,e2⟩:=Y9 (b:=(r,j,s)) (q:=phH f CC.length g S.ls) ok.hn m
  obtain⟨k,rk,_,kl⟩:=ok.rh m
  have rk:r=f+k:=rk
  have b1:((yd S.hl h).map (phH f CC.length g (kj S.ls r gi))).sum<=((yd S.hl h).map (phH f CC.length g S.ls)).sum+((yd S.hl h).map λe=>exR f CC.length r e.2.1).sum:=by
   rw[<-WG]
   exact kC λx _=>by have:=zb9 (f:=f) (n:=CC.length) (g:=g) (ls:=S.ls) (r:=r) (gi:=gi) (r':=x.2.1) (no:=x.2.2.2.no);unfold phH;lia
  have b2:(S.ld.map (phL f CC.length g (kj S.ls r gi))).sum<=(S.ld.map (phL f CC.length g S.ls)).sum+(S.ld.map λe=>exR f CC.length r e.1).sum:=by
   rw[<-WG]
   exact kC λx _=>by have:=zb9 (f:=f) (n:=CC.length) (g:=g) (ls:=S.ls) (r:=r) (gi:=gi) (r':=x.1) (no:=x.2.1.no);unfold phL;lia
  have b3:((yd S.hl h).map λe=>exR f CC.length r e.2.1).sum+(S.ld.map λe=>exR f CC.length r e.1).sum<=Rw_ f CC.length r-14:=by
   have z:((yd S.hl h).map λe=>exR f CC.length r e.2.1).sum+(S.ld.map λe=>exR f CC.length r e.1).sum=((((yd S.hl h).map (·.2.1)++S.ld.map (·.1)).filter λx=>decide (r<x)).map (Rw_ f CC.length)).sum:=by
    rw[<-zb8,bM,eQ,df,df]
    rfl
   rw[z]
   have sb:((yd S.hl h).map (·.2.1)++S.ld.map (·.1)).Sublist (S.hl.map (·.2.1)++S.ld.map (·.1)):=(dD.map _).append (List.Sublist.refl _)
   have nd:=(ok.pm.nodup_iff.mpr zeQ).sublist (List.sublist_append_right S.ws _)
   refine bK (JN (b:=jg f (k+1) CC.length) (nd.sublist (List.filter_sublist.trans sb)) λx hx=>?_) ?_
   ·obtain⟨h1,h2⟩:=cH.mp hx
    obtain⟨j,ej,_,jl⟩:=ok.rk (bI _ (sb.subset h1))
    have:=of_decide_eq_true h2
    exact rks_mem.mpr ⟨j,ej,by lia,jl⟩
   ·rw[zbn (CC.length-(k+1)) (k+1) (by lia)]
    unfold Rw_
    rw[show CC.length-1-(r-f).toNat=CC.length-(k+1) by lia]
    lia
  have b4:=zeT (f:=f) (n:=CC.length) (g:=g) (no:=s.no) (ls:=S.ls) (ls':=kj S.ls r gi) (r:=r) λp=>Vx (Int.le_refl r)
  have p1:phH f CC.length g S.ls (h,r,j,s)=11-j+2+(Rw_ f CC.length r-14)+pen f CC.length g S.ls r s.no:=rfl
  have p2:([(r,s,gi)].map (phL f CC.length g (kj S.ls r gi))).sum=1+pen f CC.length g (kj S.ls r gi) r s.no+0:=rfl
  unfold Phi
  dsimp only
  rw[bM,eQ]
  lia
 |@settle s gi m fr =>
  obtain⟨_,e2⟩:=Y9 (b:=(s,gi)) (q:=phL f CC.length g S.ls) ok.nd.2.1.2.1 m
  refine .inr ?_
  have p1:phL f CC.length g S.ls (f+S.en,s,gi)=1+pen f CC.length g S.ls (f+S.en) s.no:=rfl
  unfold Phi
  dsimp only
  lia
 |@again r s gi p o ws' m hy hn pw so fr =>
  obtain⟨_,e2⟩:=Y9 (b:=(s,gi)) (q:=phL f CC.length g S.ls) ok.nd.2.1.2.1 m
  refine .inr ?_
  have e1:pen f CC.length g S.ls r s.no=Rw_ f CC.length r:=by unfold pen;exact aj λz=>hn (z _ hy)
  have p1:phL f CC.length g S.ls (r,s,gi)=1+pen f CC.length g S.ls r s.no:=rfl
  unfold Phi
  dsimp only
  rw[(pw.map (Rw_ f CC.length)).sum_nat,bo,cA]
  lia
 |@take r m fr =>
  refine .inr ?_
  have e1:=((iN m).map (Rw_ f CC.length)).sum_nat
  rw[bo,cA] at e1
  have e2:pen f CC.length g S.ls r st0.no=0:=by unfold pen;exact am λy hy=>nomatch hy
  have:=zeS (f:=f) (n:=CC.length) (r:=r)
  have p1:([(h,r,0,st0)].map (phH f CC.length g S.ls)).sum=11-0+2+(Rw_ f CC.length r-14)+pen f CC.length g S.ls r st0.no+0:=rfl
  unfold Phi
  dsimp only
  rw[bM,eQ]
  lia
 |rest w l fr=>exact .inl ⟨rfl,rfl⟩
theorem zhl(ok:DsOk N f g CC S):Phi f CC.length g S<=1000:=by
 have l5:=ok.cc.le
 have w:∀ {e},e∈S.hl->phH f CC.length g S.ls e<=2*Rw_ f CC.length e.2.1:=λ{e} he=>by
  have:=zeS (f:=f) (n:=CC.length) (r:=e.2.1)
  have:=zbo (f:=f) (n:=CC.length) (g:=g) (ls:=S.ls) (r:=e.2.1) (no:=e.2.2.2.no)
  unfold phH
  lia
 have w2:∀ {e},e∈S.ld->phL f CC.length g S.ls e<=2*Rw_ f CC.length e.1:=λ{e} he=>by
  have:=zeS (f:=f) (n:=CC.length) (r:=e.1)
  have:=zbo (f:=f) (n:=CC.length) (g:=g) (ls:=S.ls) (r:=e.1) (no:=e.2.1.no)
  unfold phL
  lia
 have a1:(S.hl.map (phH f CC.length g S.ls)).sum<=(S.hl.map λe=>2*Rw_ f CC.length e.2.1).sum:=kC λe he=>w he
 have a2:(S.ld.map (phL f CC.length g S.ls)).sum<=(S.ld.map λe=>2*Rw_ f CC.length e.1).sum:=kC λe he=>w2 he
 have a3:=kC (l:=S.ws) (q:=Rw_ f CC.length) (q':=λr=>2*Rw_ f CC.length r) λe _=>by lia
 have z:=(ok.pm.map λr=>2*Rw_ f CC.length r).sum_nat
 rw[bM,bM,eQ,eQ,df,df] at z
 have y:=zbn (f:=f) (n:=CC.length) (CC.length-S.en) S.en (by have:=ok.el;lia)
 have t:=WG (q:=Rw_ f CC.length) (q':=Rw_ f CC.length) (l:=jg f S.en CC.length)
 have t':((jg f S.en CC.length).map λr=>2*Rw_ f CC.length r).sum=((jg f S.en CC.length).map λx=>Rw_ f CC.length x+Rw_ f CC.length x).sum:=by
  congr 1
  exact dA λx _=>by lia
 have p:2^(CC.length-S.en)<=2^5:=Nat.pow_le_pow_right (by lia) (by lia)
 have p:2^(CC.length-S.en)<=32:=p
 have z:(S.ws.map λr=>2*Rw_ f CC.length r).sum+((S.hl.map λe=>2*Rw_ f CC.length e.2.1).sum+(S.ld.map λe=>2*Rw_ f CC.length e.1).sum)=_:=z
 unfold Phi
 lia
end
section
variable {H':Hp}{lb lb':ac->Nat}{d l:ac}{a:DAd}{cs en xs ys:List V}{CC:List (List Cs)}{n f h:Int}{g:List Row}{S S':DS}{v:V}{es:List He}{e:Ev}{J:List He->DS->Prop}
theorem EvAt.ts(h:EvAt H v x)(ts:TSm H H'):EvAt H' v x:=let ⟨b,q,e,h1,h2⟩:=h;⟨b,q,e,ts _ _ h1,λp z=>ts _ _ (h2 p z)⟩
theorem XQ(h:Paired (EvAt H) xs es)(ts:TSm H H'):Paired (EvAt H') xs es:=Paired.mapP h λ_ _ z=>z.ts ts
theorem Fr.up{M:Nat->Prop}(h:Fr M H H' lb lb')(hl:H' l=aa (.lst xs))(hn:H l=ai):Fr M H (upd H' l (.lst ys)) lb lb':=⟨h.ex,λb o z e=>by rw[zi (λy=>by rw[y,hn] at e;cases e)];exact h.kp b o z e,λb zs e=>qm hl (by lia) _ _ (h.ts b zs e),λb o e=>let ⟨o',e'⟩:=h.al b o e;Vs b o' e'⟩
def TnI(n:Int)(S:DS)(i t:Nat):Prop:=t<8/\(S.hl=[]\/∃e∈S.hl,((i:Int)+t)%n=e.1)
theorem zeU(ok:DsOk n f g CC S)(h1:1<=n)(h8:n<=8)(i:Nat):∃t,TnI n S i t:=by
 cases e:S.hl with
 |nil=>exact⟨0,by lia,.inl e⟩
 |cons x xs =>
  have m:x∈S.hl:=by rw[e];exact bq
  obtain⟨a1,a2⟩:=ok.hr x m
  have b1:=cN (x.1-i) (show n≠0 by lia)
  have b2:=cy (x.1-i) (show 0<n by lia)
  refine⟨((x.1-i)%n).toNat,by lia,.inr ⟨x,m,?_⟩⟩
  rw[i9 b1,Int.add_emod,Int.emod_emod_of_dvd _ (Int.dvd_refl n),<-Int.add_emod,show (i:Int)+(x.1-i)=x.1 by lia,Int.emod_eq_of_lt a1 a2]
structure FnI(t:Adr)(H:Hp)(d l:ac)(a:DAd)(lb:ac->Nat)(n f:Int)(g:List Row)(CC:List (List Cs))(J:List He->DS->Prop)(m:Nat)(H':Hp)(lb':ac->Nat)(xs:List V)(es:List He)(S:DS)(t':Nat):Prop where
 em:m=8*Phi f CC.length g S+t'
 lm:xs.length+m<=9000
 tn:TnI n S xs.length t'
 fr:Fr M0 H H' lb lb'
 hl:H' l=aa (.lst xs)
 l0:lb' l=0
 pd:Paired (EvAt H') xs es
 js:J es S
 ok:DsOk n f g CC S
 dk:DkG t H' d a lb' n f g CC S
def FnE(t:Adr)(H:Hp)(d l:ac)(a:DAd)(lb:ac->Nat)(n f:Int)(g:List Row)(CC:List (List Cs))(J:List He->DS->Prop)(m:Nat)(σ:St)(H':Hp):Prop:=σ=[aa (.ref d),aa (.ref l)]/\∃lb' xs es S t',FnI t H d l a lb n f g CC J m H' lb' xs es S t'
theorem FnI.next{H2:Hp}{lb2:ac->Nat}(I:FnI t H d l a lb n f g CC J m H' lb' xs es S t')(h1:1<=n)(h8:n<=8)(hn:H l=ai)(lt:S.en<CC.length)(js:∀es S h e S',J es S->DsOk n f g CC S->Mv f g CC S h e S'->J (es++[(h,e)]) S')(F2:Fr M0 H' H2 lb' lb2)(ev:EvAt H2 v ((xs.length:Int)%n,e))(mv:Mv f g CC S ((xs.length:Int)%n) e S2)(G2:DkG t H2 d a lb2 n f g CC S2):H2 l=aa (.lst xs)/\∃m',m'<m/\FnE t H d l a lb n f g CC J m' [aa (.ref d),aa (.ref l)] (upd H2 l (.lst (xs++[v]))):=by
 have b1:=cN (xs.length:Int) (show n≠0 by lia)
 have b2:=cy (xs.length:Int) (show 0<n by lia)
 have hl2:=F2.kp _ _ (by rw[I.l0];exact .inl rfl) I.hl
 have l2:lb2 l=0:=(F2.ex _ _ I.hl).trans I.l0
 have ts:TSm H2 (upd H2 l (.lst (xs++[v]))):=qm hl2 λ_ z=>nomatch z
 have ok2:=Mv.ok I.ok mv b1 b2
 have em:=I.em
 have lm:=I.lm
 refine⟨hl2,?_⟩
 have fin:∀t2,TnI n S2 (xs.length+1) t2->8*Phi f CC.length g S2+t2<m->∃m',m'<m/\FnE t H d l a lb n f g CC J m' [aa (.ref d),aa (.ref l)] (upd H2 l (.lst (xs++[v]))):=λt2 T2 lt2=>⟨_,lt2,rfl,lb2,xs++[v],es++[((xs.length:Int)%n,e)],S2,t2,rfl,by rw[bw];show xs.length+1+_<=9000;lia,by rw[bw];exact T2,(I.fr.trans F2).up hl2 hn,zh,l2,Paired.snocP (XQ (XQ I.pd F2.ts) ts) (ev.ts ts),js es S _ e S2 I.js I.ok mv,ok2,G2.put hl2 l2⟩
 rcases mv.dec I.ok with ⟨rfl,e12⟩|dc
 ·cases mv with
  |rest w nl fr =>
   have ne:S.hl≠[]:=λz=>by
    have:=I.ok.pm
    rw[w,z,Vy lt] at this
    exact nl (this.mem_iff.mpr bq)
   obtain⟨x,hx,ex⟩:=I.tn.2.resolve_left ne
   have t0:t'≠0:=λz=>fr (by
    rw[z,show (xs.length:Int)+((0:Nat):Int)=xs.length by lia] at ex
    rw[ex]
    exact bu (f:=λe:Int×Int×Nat×RSt=>e.1) hx)
   have:=I.tn.1
   exact fin (t'-1) ⟨by lia,.inr ⟨x,hx,by rw[show ((xs.length+1:Nat):Int)+((t'-1:Nat):Int)=xs.length+t' by lia];exact ex⟩⟩ (by lia)
 ·obtain⟨t2,T2⟩:=zeU ok2 h1 h8 (xs.length+1)
  have:=T2.1
  exact fin t2 T2 (by lia)
theorem Wt{vs:List V}{_E:XK}(D:DkF K t)(h:xq t vs H Q _E) :
  Zp K t (qqN Q) (L2.start ["self","told"] vs) H:=by
 obtain⟨d,a,lb,n,f,g,CC,S,J,rfl,h,ok,h1,h8,j0,js,q⟩:=h
 refine⟨by lia,λl hl=>?_⟩
 have s0:=isV (o:=HO.lst []) l hl
 have P1:=zhl ok
 obtain⟨t0,T0⟩:=zeU ok h1 h8 0
 have:=T0.1
 refine⟨FnE t H d l a lb n f g CC J,⟨_,rfl,lb,[],[],S,t0,rfl,by show 0+_<=9000;lia,T0,Fr.same s0,zh,h.l0 hl,.nil,j0,ok,h.same s0⟩,?_⟩
 rintro m σ H1 ⟨rfl,lb1,xs,es,S1,t1,I⟩
 obtain⟨e1,cs,en,ec,ee,lc,le⟩:=I.dk.cmp
 refine(Wr e1 rfl rfl ⟨d,_,a,n,f,en,rfl,e1,ee,Wr e1 rfl rfl ⟨d,_,a,n,f,cs,rfl,e1,ec,_,_,rfl,rfl,_,rfl,?_⟩⟩)
 have el:=I.ok.el
 have lm:=I.lm
 rcases iz en.length cs.length with lt|ge
 ·refine yY (Bj (by lia)) ⟨λσ' H'=>∃m',m'<m/\FnE t H d l a lb n f g CC J m' σ' H',λ_ _ z=>z,?_⟩
  have b1:=cN (xs.length:Int) (show n≠0 by lia)
  have b2:=cy (xs.length:Int) (show 0<n by lia)
  refine⟨_,rfl,.inl ⟨rfl,_,SqL.of I.hl⟩,Wr e1 rfl rfl ⟨_,rfl,.ref l,xs.length,rfl,.inl ⟨_,SqL.of I.hl,rfl⟩,ym e1 D.cD D.d1 rfl rfl ⟨_,_,rfl,rfl,by show (0:Int)<n;lia,d,a,lb1,n,f,(xs.length:Int)%n,g,CC,S1,rfl,I.dk,I.ok,b1,b2,λv H2 lb2 e S2 F2 ev mv G2=>?_⟩⟩⟩
  obtain⟨hl2,z⟩:=I.next h1 h8 hl (by lia) js F2 ev mv G2
  exact⟨l,xs,v,rfl,rfl,hl2,bU (show xs.length<=9000 by lia) (by rw[bS];decide),z⟩
 ·exact ya (Bk (by lia)) ⟨_,rfl,q l xs es H1 lb1 S1 I.fr I.l0 I.hl I.pd (by lia) I.js I.ok (by lia) I.dk⟩
end
theorem zeV(h0:σ[i]?=aa (aa v))(ty:Z7 K H v tv)(k:fA K tv (.type T)=aa b)(q:Q (.bl b) H):tCB (Wc K) (zc (zb i) (zc (tC (.ty T)) zk)) σ H Q:=⟨_,h0,v,.ty T,tv,b,rfl,ty,⟨T,rfl,k⟩,q⟩
theorem zhM{Q:Bool->Hp->Prop}(h0:σ[i]?=aa (aa v))(ty:Z7 K H v tv)(k:fA K tv (.type T)=aa b)(q:Q b H):tB (tCB (Wc K) (zc (zb i) (zc (tC (.ty T)) zk))) σ H Q:=zeV h0 ty k ⟨b,rfl,q⟩
theorem Vz{i:Int}(q:Q (.bl af) H):Z0 K t (qqN Q) (L2.start ["found"] [.int i]) H :=
 zeV rfl (.int i) (Zr _) ⟨af,rfl,yY rfl (zeV rfl (.int i) (kf K).i_b ⟨ak,rfl,q⟩)⟩
theorem zgp{te:TE}{qv:Nat->V}(hm:many<=1000)(h0:σ[k]?=aa (aa (.int (many:Nat))))(hte:∀(i:Nat) H' R,R (qv i) H'->te [aa (.int i)] H' R)(q:∀D H',Same H H'->H D=ai->H' D=aa (.lst ((da many).map qv))->Q (.ref D) H'):vR (qF (zc (zb k) zk)) (zp 0) Xp te 1 [] σ H Q:=by
 refine⟨_,h0,many,rfl,by lia,by lia,λD hD=>?_⟩
 refine⟨λi m ys τ H'=>m=many-i/\i<=many/\(∃o,τ=[o])/\Same H H'/\H' D=aa (.lst ys)/\ys=(da i).map qv,⟨_,rfl,bP _,⟨_,rfl⟩,isV D hD,zh,rfl⟩,?_⟩
 rintro i m ys τ H1 ⟨rfl,hi,⟨o,rfl⟩,s1,hD1,rfl⟩
 refine⟨hD1,?_⟩
 rcases iz i many with c|c
 ·refine .inr ⟨by show i<(many:Int).toNat;lia,by rw[bd,fu,bS];lia,λv τ' H'=>v=qv i/\(∃o,τ'=[o])/\Same H1 H',λv τ' H' ⟨e,z,s⟩=>⟨s _ _ hD1,many-(i+1),by lia,rfl,c,z,yz (s1.trans s) hD,zh,by rw[lf,bM,e];rfl⟩,λ_ _=>False,λ_ _ z=>z.elim,?_⟩
  rintro x H2 ⟨rfl,rfl⟩
  rw[nu]
  exact yY (R:=False) rfl (hte i _ _ ⟨rfl,⟨_,rfl⟩,Same.refl _⟩)
 ·obtain rfl:i=many:=by lia
  exact .inl ⟨by show (i:Int).toNat<=i;lia,q D H1 s1 hD hD1⟩
theorem zbp{te:TE}{rest:TS}{qv:Nat->V}(hm:many<=1000)(h0:σ[k]?=aa (aa (.int (many:Nat))))(hte:∀(i:Nat) H' R,R (qv i) H'->te [aa (.int i)] H' R)(q:∀l H',Same H H'->H l=ai->H' l=aa (.lst ((da many).map qv))->rest D (σ.set j (aa (.ref l))) H'):zm (zL (vR (qF (zc (zb k) zk)) (zp 0) Xp te 1 []) (zp j)) rest D σ H:=by
 unfold zm zL
 exact zgp hm h0 hte λl H' s n e=>q l H' s n e
def σC(l:ac)(f:Int)(many:Nat)(l3 l4 l5 l6:ac)(o7 o8:Option V):St:=[aa (.ref l),aa (.int f),aa (.int many),aa (.ref l3),aa (.ref l4),aa (.ref l5),aa (.ref l6),o7,o8]
def rgL(many:Nat)(q:Nat->Nat):List V:=(da many).map λi=>V.int (q i)
section
variable {many k:Nat}{q:Nat->Nat}{f:Int}{H0:Hp}{l l3 l4 l5 l6 a qa:ac}{c c':Ct}{h:Int}{σ:St}{xs:List V}{es:List He}{e:Ev}
theorem xP(h:k<many):(rgL many q)[k]?=aa (.int (q k)):=by
 unfold rgL
 rw[bp,gH h]
 rfl
theorem zbq(h:k<many):(rgL many q).set k (.int ((q k:Int)+1))=rgL many (upN q k):=by
 refine dW λi=>?_
 rw[oK]
 have ln:(rgL many q).length=many:=by unfold rgL;rw[bd,fu]
 rcases iz i many with z|z
 ·by_cases c:k=i
  ·subst c
   rw[am rfl,am (by lia),xP z]
   unfold upN
   rw[am rfl]
   rfl
  ·rw[aj c,xP z,xP z]
   unfold upN
   rw[aj (λy=>c y.symm)]
 ·rw[aj (by lia),ca (by lia),ca (by unfold rgL;rw[bd,fu];exact z)]
theorem zcb:∀l:List Nat,((l.map λi=>(q i:Int)).sum:Int)=((l.map q).sum:Nat)
 |[]=>rfl
 |x::l=>by rw[bo,bo,cA,cA,zcb l];lia
theorem zf3(h:k<=many):jX (rgL many q) ai (aa (k:Int))=((da k).map λi=>(q i:Int)).map V.int:=by
 rw[zeC]
 unfold rgL
 rw[<-iR,List.take_range,dv h,df]
 rfl
structure CnI(H0 H:Hp)(l3 l4 l5 l6:ac)(many:Nat)(c:Ct):Prop where
 h3:H l3=aa (.lst (rgL many c.tk))
 h4:H l4=aa (.lst (rgL many c.ly))
 h5:H l5=aa (.lst (rgL many c.ag))
 h6:H l6=aa (.lst (rgL c.st λi=>i))
 n3:l3≠l4/\l3≠l5/\l3≠l6
 n4:l4≠l5/\l4≠l6/\l5≠l6
 f3:H0 l3=ai
 f4:H0 l4=ai
 f5:H0 l5=ai
 f6:H0 l6=ai
 sm:Same H0 H
theorem CnI.same{H':Hp}(I:CnI H0 H l3 l4 l5 l6 many c)(s:Same H H'):CnI H0 H' l3 l4 l5 l6 many c:=⟨s _ _ I.h3,s _ _ I.h4,s _ _ I.h5,s _ _ I.h6,I.n3,I.n4,I.f3,I.f4,I.f5,I.f6,I.sm.trans s⟩
theorem CnI.u3(I:CnI H0 H l3 l4 l5 l6 many c){q:Nat->Nat}:CnI H0 (upd H l3 (.lst (rgL many q))) l3 l4 l5 l6 many { c with tk:=q }:=⟨zh,by rw[zi I.n3.1.symm];exact I.h4,by rw[zi I.n3.2.1.symm];exact I.h5,by rw[zi I.n3.2.2.symm];exact I.h6,I.n3,I.n4,I.f3,I.f4,I.f5,I.f6,yz I.sm I.f3⟩
theorem CnI.u4(I:CnI H0 H l3 l4 l5 l6 many c){q:Nat->Nat}:CnI H0 (upd H l4 (.lst (rgL many q))) l3 l4 l5 l6 many { c with ly:=q }:=⟨by rw[zi I.n3.1];exact I.h3,zh,by rw[zi I.n4.1.symm];exact I.h5,by rw[zi I.n4.2.1.symm];exact I.h6,I.n3,I.n4,I.f3,I.f4,I.f5,I.f6,yz I.sm I.f4⟩
theorem CnI.u5(I:CnI H0 H l3 l4 l5 l6 many c){q:Nat->Nat}:CnI H0 (upd H l5 (.lst (rgL many q))) l3 l4 l5 l6 many { c with ag:=q }:=⟨by rw[zi I.n3.2.1];exact I.h3,by rw[zi I.n4.1];exact I.h4,zh,by rw[zi I.n4.2.2.symm];exact I.h6,I.n3,I.n4,I.f3,I.f4,I.f5,I.f6,yz I.sm I.f5⟩
theorem CnI.u6(I:CnI H0 H l3 l4 l5 l6 many c) :CnI H0 (upd H l6 (.lst (rgL k λi=>i))) l3 l4 l5 l6 many { c with st:=k }:=⟨by rw[zi I.n3.2.2];exact I.h3,by rw[zi I.n4.2.1];exact I.h4,by rw[zi I.n4.2.2];exact I.h5,zh,I.n3,I.n4,I.f3,I.f4,I.f5,I.f6,yz I.sm I.f6⟩
theorem q_w{Q:Bool->Hp->Prop}(h:H a=aa (.tup (.str x::ys)))(h0:σ[7]?=aa (aa (.ref a)))(q:Q (decide (V.str x=V.str w)) H):zB (tOp rEq (tOp (yp K) (zb 7) (tC (.int 0))) (tC (.str w))) σ H Q:=⟨_,h0,a,_,0,_,rfl,rfl,SqT.of h,yf (j:=0) rfl,rfl,_,rfl,q⟩
theorem jT(h:x≠w):decide (V.str x=V.str w)=ak:=Bk λz=>h (V.str.inj z)
theorem JO :decide (V.str x=V.str x)=af:=Bj rfl
theorem zeW(I:CnI H0 H l3 l4 l5 l6 many c)(hm:many<=10)(hk:k<many)(ha:H a=aa (.tup (.str (evW e)::.int h::evX qa e)))(he:e=.take (f+k)\/e=.lay (f+k)\/(∃p o n,e=.again (f+k) p o n)\/e=.settle (f+k))(cs:CtS f many c e c')(qN:∀H',CnI H0 H' l3 l4 l5 l6 many c'->D.nx (σC l f many l3 l4 l5 l6 (aa (.ref a)) (aa (.int k))) H') :
  xi K t D (σC l f many l3 l4 l5 l6 (aa (.ref a)) (aa (.int k))) H:=by
 have kk:∀ {j:Nat},f+(k:Int)=f+j->j=k:=λz=>by lia
 have i3:atI (rgL many c.tk) (k:Int)=aa (.int (c.tk k)):=yf (xP hk)
 have i4:atI (rgL many c.ly) (k:Int)=aa (.int (c.ly k)):=yf (xP hk)
 have i5:atI (rgL many c.ag) (k:Int)=aa (.int (c.ag k)):=yf (xP hk)
 unfold xi zQ zm tOr
 rcases he with rfl|rfl|⟨p,o,n,rfl⟩|rfl
 ·obtain⟨j,ej,_,c1,c2,rfl⟩:=cs
  cases kk ej
  refine q_w ha rfl (yY JO ?_)
  refine⟨_,rfl,_,rfl,l3,_,k,_,rfl,rfl,SqL.of I.h3,i3,_,rfl,_,rfl,k,rfl,l4,_,rfl,SqL.of I.h4,λp hp=>?_⟩
  rw[zf3 (mT hk)]
  generalize c_:upd H p _=H1
  obtain⟨s1,e1⟩:=xk c_ hp
  have J:=I.same s1
  refine⟨p,_,rfl,SqL.of e1,_,_,rfl,rfl,_,rfl,?_⟩
  rw[zcb]
  refine ya (Bk (by unfold XB at c1;lia)) ?_
  refine⟨_,rfl,_,rfl,l3,_,k,_,rfl,rfl,SqL.of J.h3,i3,_,rfl,_,rfl,l5,_,k,_,rfl,rfl,SqL.of J.h5,i5,rfl,_,rfl,ya (by rw[c2,Bj rfl];rfl) ?_⟩
  refine⟨_,rfl,_,rfl,l3,_,k,_,rfl,rfl,J.h3,xP hk,by lia,_,_,rfl,rfl,J.h3,?_⟩
  rw[zbq hk]
  exact qN _ J.u3
 ·obtain⟨j,ej,_,c1,rfl⟩:=cs
  cases kk ej
  have ha:H a=aa (.tup [.str "lay",.int h,.int (f+k)]):=ha
  refine q_w ha rfl (ya (jT (by lia)) (q_w ha rfl (yY JO ?_)))
  refine⟨_,rfl,_,rfl,l4,_,k,_,rfl,rfl,I.h4,xP hk,by lia,_,_,rfl,rfl,I.h4,?_⟩
  rw[zbq hk]
  have J:=I.u4 (q:=upN c.ly k)
  generalize upd H l4 (.lst (rgL many (upN c.ly k)))=H1 at *
  have e:upN c.ly k k=c.tk k:=by unfold upN;rw[am rfl];exact c1
  exact⟨_,rfl,_,rfl,l4,_,k,_,rfl,rfl,SqL.of J.h4,yf (xP hk),_,rfl,_,rfl,l3,_,k,_,rfl,rfl,SqL.of J.h3,i3,rfl,_,rfl,ya (by show (!decide (V.int (upN c.ly k k:Nat)=_))=ak;rw[e,Bj rfl];rfl) (qN _ J)⟩
 ·obtain⟨j,ej,_,c1,c2,rfl⟩:=cs
  cases kk ej
  have ha:H a=aa (.tup [.str "again",.int h,.int (f+k),.ref qa,.int o,.int n]):=ha
  refine q_w ha rfl (ya (jT (by lia)) (q_w ha rfl (ya (jT (by lia)) (q_w ha rfl (yY JO ?_)))))
  refine⟨_,rfl,_,rfl,l5,_,k,_,rfl,rfl,I.h5,xP hk,by lia,_,_,rfl,rfl,I.h5,?_⟩
  rw[zbq hk]
  have J:=I.u5 (q:=upN c.ag k)
  have ha2:upd H l5 (.lst (rgL many (upN c.ag k))) a=aa (.tup [.str "again",.int h,.int (f+k),.ref qa,.int o,.int n]):=by rw[zi (zG ha I.h5 (by lia))];exact ha
  generalize upd H l5 (.lst (rgL many (upN c.ag k)))=H1 at *
  have e:upN c.ag k k=c.ly k:=by unfold upN;rw[am rfl];exact c1
  refine⟨_,rfl,_,rfl,l5,_,k,_,rfl,rfl,SqL.of J.h5,yf (xP hk),_,rfl,_,rfl,l4,_,k,_,rfl,rfl,SqL.of J.h4,i4,rfl,_,rfl,ya (by show (!decide (V.int (upN c.ag k k:Nat)=_))=ak;rw[e,Bj rfl];rfl) ?_⟩
  refine⟨_,rfl,.ref a,6,rfl,.inr ⟨_,SqT.of ha2,rfl⟩,rfl,_,rfl,ya rfl ?_⟩
  exact⟨_,rfl,a,_,4,_,rfl,rfl,SqT.of ha2,rfl,_,rfl,a,_,5,_,rfl,rfl,SqT.of ha2,rfl,rfl,_,rfl,ya (Bk λz=>c2 (V.int.inj z)) (qN _ J)⟩
 ·obtain⟨ej,_,rfl⟩:=cs
  have es:c.st=k:=kk ej
  have ha:H a=aa (.tup [.str "settle",.int h,.int (f+k)]):=ha
  refine q_w ha rfl (ya (jT (by lia)) (q_w ha rfl (ya (jT (by lia)) (q_w ha rfl (ya (jT (by lia)) ?_)))))
  have ln:(rgL c.st λi=>i).length=k:=by unfold rgL;rw[bd,fu];exact es
  refine⟨_,rfl,.inl ⟨rfl,_,SqL.of I.h6⟩,_,rfl,l6,_,_,rfl,rfl,I.h6,by rw[ln,bS];lia,?_⟩
  have z:(rgL c.st λi=>i)++[V.int k]=rgL (c.st+1) λi=>i:=by unfold rgL;rw[lf,bM,es];rfl
  rw[z]
  exact qN _ I.u6
theorem zeX(I:CnI H0 H l3 l4 l5 l6 many c)(hm:many<=10)(ev:EvAt H (.ref a) (h,e))(cs:CtS f many c e c')(qN:∀o8 H',CnI H0 H' l3 l4 l5 l6 many c'->D.nx (σC l f many l3 l4 l5 l6 (aa (.ref a)) o8) H'/\D.ct (σC l f many l3 l4 l5 l6 (aa (.ref a)) o8) H') :
  wt K t D (σC l f many l3 l4 l5 l6 (aa (.ref a)) o8) H:=by
 obtain⟨a',qa,ea,ha,_⟩:=ev
 cases ea
 have ln:¬ ((2+(evX qa e).length:Nat):Int)<2:=by lia
 unfold wt zm zQ tOr Xg
 refine zhM rfl (.tup ha) (Zr _) (ya rfl ?_)
 refine⟨_,rfl,.ref a,2+(evX qa e).length,rfl,.inr ⟨_,SqT.of ha,by simp;lia⟩,_,_,rfl,rfl,_,rfl,ya (Bk ln) ?_⟩
 refine⟨_,rfl,a,_,0,.str (evW e),rfl,rfl,SqT.of ha,yf (j:=0) rfl,_,.ty "str",_,_,rfl,.str _,⟨"str",rfl,Zr _⟩,af,rfl,ya rfl ?_⟩
 have fin:∀(k:Nat),(e=.take (f+k)\/e=.lay (f+k)\/(∃p o n,e=.again (f+k) p o n)\/e=.settle (f+k))->k<many->1<=(evX qa e).length->(evX qa e)[0]?=aa (.int (f+k))->wq K t D (σC l f many l3 l4 l5 l6 (aa (.ref a)) o8) H:=λk he hk l1 e2=>by
  have ix:atI (V.str (evW e)::V.int h::evX qa e) 2=aa (.int (f+k)):=yf (j:=2) e2
  unfold wq zm zQ tOr Xg
  refine⟨_,rfl,.ref a,2+(evX qa e).length,rfl,.inr ⟨_,SqT.of ha,by simp;lia⟩,_,_,rfl,rfl,_,rfl,ya (Bk (by lia)) ?_⟩
  refine⟨_,rfl,a,_,2,_,rfl,rfl,SqT.of ha,ix,_,rfl,af,rfl,ya rfl ?_⟩
  refine⟨_,rfl,a,_,2,_,rfl,rfl,SqT.of ha,ix,_,rfl,_,_,rfl,rfl,_,_,rfl,rfl,_,rfl,yY (Bj (by lia)) ⟨_,rfl,_,_,rfl,rfl,_,rfl,ya (by rw[Bj (by lia)];rfl) ?_⟩⟩
  refine⟨_,rfl,a,_,2,_,rfl,rfl,SqT.of ha,ix,_,rfl,_,_,rfl,rfl,?_⟩
  show xi K t D (σC l f many l3 l4 l5 l6 (aa (.ref a)) (aa (.int (f+k-f)))) H
  rw[show f+(k:Int)-f=k by lia]
  exact zeW I hm hk ha he cs λH' J=>(qN _ H' J).1
 cases e with
 |rest=>cases cs;exact q_w ha rfl (yY JO (yY rfl (qN _ _ I).2))
 |step r =>
  cases cs
  have ha:H a=aa (.tup [.str "step",.int h,.int r]):=ha
  exact q_w ha rfl (ya (jT (by lia)) (q_w ha rfl (yY JO (yY rfl (qN _ _ I).2))))
 |read r p w =>
  cases cs
  have ha:H a=aa (.tup [.str "read",.int h,.int r,.ref qa,.int w]):=ha
  exact q_w ha rfl (ya (jT (by lia)) (q_w ha rfl (ya (jT (by lia)) (q_w ha rfl (yY JO (qN _ _ I).2)))))
 |take r =>
  obtain⟨k,ek,hk,_⟩:=id cs
  have ha:H a=aa (.tup [.str "take",.int h,.int r]):=ha
  exact q_w ha rfl (ya (jT (by lia)) (q_w ha rfl (ya (jT (by lia)) (q_w ha rfl (ya (jT (by lia)) (fin k (.inl (by rw[ek])) hk (bi _) (by rw[ek];rfl)))))))
 |lay r =>
  obtain⟨k,ek,hk,_⟩:=id cs
  have ha:H a=aa (.tup [.str "lay",.int h,.int r]):=ha
  exact q_w ha rfl (ya (jT (by lia)) (q_w ha rfl (ya (jT (by lia)) (q_w ha rfl (ya (jT (by lia)) (fin k (.inr (.inl (by rw[ek]))) hk (bi _) (by rw[ek];rfl)))))))
 |settle r =>
  obtain⟨ek,hk,_⟩:=id cs
  have ha:H a=aa (.tup [.str "settle",.int h,.int r]):=ha
  exact q_w ha rfl (ya (jT (by lia)) (q_w ha rfl (ya (jT (by lia)) (q_w ha rfl (ya (jT (by lia)) (fin c.st (.inr (.inr (.inr (by rw[ek])))) hk (bi _) (by rw[ek];rfl)))))))
 |again r p o n =>
  obtain⟨k,ek,hk,_⟩:=id cs
  have ha:H a=aa (.tup [.str "again",.int h,.int r,.ref qa,.int o,.int n]):=ha
  exact q_w ha rfl (ya (jT (by lia)) (q_w ha rfl (ya (jT (by lia)) (q_w ha rfl (ya (jT (by lia)) (fin k (.inr (.inr (.inl ⟨p,o,n,by rw[ek]⟩))) hk (by show 1<=4;decide) (by rw[ek];rfl)))))))
theorem KR:∀ {l:List Nat},(l.map λi=>V.int (q i)).all yB=af
 |[]=>rfl
 |_::l=>by rw[bo,fB,KR];rfl
theorem zeY:∀ {l:List Nat},Xu (l.map λi=>V.int (q i)) (l.map λi=>V.int (q i))=af
 |[]=>rfl
 |_::l=>by rw[bo,Xu,zeY];rfl
theorem zeZ{o7 o8:Option V}(I:CnI H0 H l3 l4 l5 l6 many c)(hm:many<=10)(h1:c.st=many)(h2:∀k,k<many->c.ly k=c.ag k+1/\c.tk k=c.ly k)(q:∀H',Same H0 H'->Q (.bl af) H') :
  jB K t (qqN Q) (σC l f many l3 l4 l5 l6 o7 o8) H:=by
 refine⟨_,rfl,many,rfl,by lia,by lia,Z9 (λ_ σ H'=>(∃o8,σ=(σC l f many l3 l4 l5 l6 o7 o8))/\CnI H0 H' l3 l4 l5 l6 many c) ⟨⟨_,rfl⟩,I⟩ ?_ ?_⟩
 ·rintro i σ H1 hi ⟨⟨o8,rfl⟩,J⟩
  have hk:i<many:=by lia
  obtain⟨c1,c2⟩:=h2 i hk
  rw[nu]
  refine⟨_,rfl,_,rfl,l4,_,i,_,rfl,rfl,SqL.of J.h4,yf (xP hk),_,rfl,_,rfl,l5,_,i,_,rfl,rfl,SqL.of J.h5,yf (xP hk),_,_,rfl,rfl,rfl,_,rfl,ya (by rw[c1];simp) ?_⟩
  exact⟨_,rfl,_,rfl,l3,_,i,_,rfl,rfl,SqL.of J.h3,yf (xP hk),_,rfl,_,rfl,l4,_,i,_,rfl,rfl,SqL.of J.h4,yf (xP hk),rfl,_,rfl,ya (by rw[c2,Bj rfl];rfl) ⟨⟨_,rfl⟩,J⟩⟩
 ·rintro σ H1 ⟨⟨o8,rfl⟩,J⟩
  refine⟨_,rfl,zgp (many:=many) (qv:=λi=>.int i) (by lia) rfl (λi H' R z=>⟨_,rfl,z⟩) λD H2 s2 hD hl=>?_⟩
  have e6:=s2 _ _ J.h6
  rw[h1] at e6
  refine⟨l6,D,_,_,rfl,rfl,SqL.of e6,SqL.of hl,⟨KR,KR,zeY⟩,?_⟩
  show Q (.bl (decide ((rgL many λi=>i)=rgL many λi=>i))) _
  rw[Bj rfl]
  exact q H2 (J.sm.trans s2)
theorem XR{vs:List V}{_E:XK}(h:vj vs H Q _E) :
  vp K t (qqN Q) (L2.start ["rows","first","many","takes","lays","agains","settled","row","rank"] vs) H:=by
 obtain⟨l,f,many,xs,es,c,rfl,h0,hp,h3,hm,cr,h1,h2,q⟩:=h
 have m1:many<=1000:=by lia
 unfold vp
 refine zbp (te:=tC (.int 0)) (many:=many) (qv:=λ_=>.int 0) m1 rfl (λi H' R z=>z) λl3 H1 s1 n3 e3=>?_
 refine zbp (te:=tC (.int 0)) (many:=many) (qv:=λ_=>.int 0) m1 rfl (λi H' R z=>z) λl4 H2 s2 n4 e4=>?_
 refine zbp (te:=tC (.int 0)) (many:=many) (qv:=λ_=>.int 0) m1 rfl (λi H' R z=>z) λl5 H3 s3 n5 e5=>?_
 refine⟨by lia,λl6 n6=>?_⟩
 generalize c_:upd H3 l6 _=H4
 obtain⟨s4,e6⟩:=xk c_ n6
 have I:CnI H H4 l3 l4 l5 l6 many ct0:=⟨s4 _ _ (s3 _ _ (s2 _ _ e3)),s4 _ _ (s3 _ _ e4),s4 _ _ e5,e6,⟨zx e3 n4,zx (s2 _ _ e3) n5,zx (s3 _ _ (s2 _ _ e3)) n6⟩,⟨zx e4 n5,zx (s3 _ _ e4) n6,zx e5 n6⟩,n3,zH s1 n4,zH (s1.trans s2) n5,zH (s1.trans (s2.trans s3)) n6,s1.trans (s2.trans (s3.trans s4))⟩
 have S:Same H H4:=I.sm
 refine⟨_,rfl,l,rfl,⟨_,SqL.of (S _ _ h0)⟩,yU xs (λi σ H'=>(∃o7 o8,σ=(σC l f many l3 l4 l5 l6 o7 o8))/\∃ci,CtR f many ci (es.drop i) c/\CnI H H' l3 l4 l5 l6 many ci) ⟨⟨_,_,rfl⟩,ct0,cr,I⟩ (λi σ H' ⟨_,_,_,J⟩=>SqL.of (J.sm _ _ h0)) ?_ ?_⟩
 ·rintro i u σ H' hu ⟨⟨o7,o8,rfl⟩,ci,cr,J⟩
  obtain⟨x,hx,ev⟩:=Paired.getP hp hu
  obtain⟨a,qa,rfl,_⟩:=id ev
  rw[gD (bf.mp hx).1,(bf.mp hx).2] at cr
  cases cr with
  |cons cs cr'=>exact zeX J hm (ev.ts (TSm.of J.sm)) cs λo8 H' J'=>⟨⟨⟨_,_,rfl⟩,_,cr',J'⟩,⟨_,_,rfl⟩,_,cr',J'⟩
 ·rintro σ H' ⟨⟨o7,o8,rfl⟩,ci,cr,J⟩
  rw[gW (by rw[bL hp];exact bi _)] at cr
  cases cr
  exact zeZ (t:=t) J hm h1 h2 q
end
structure Lk(f:Int)(g:List Row)(n:Nat)(S:DS)(c:Ct):Prop where
 st:c.st=S.en
 nw:∀k,n<=k->c.tk k=0/\c.ly k=0/\c.ag k=0
 ws:∀k:Nat,f+k∈S.ws->c.tk k=c.ag k/\c.ly k=c.ag k
 hl:∀e∈S.hl,∀k:Nat,e.2.1=f+k->c.tk k=c.ag k+1/\c.ly k=c.ag k/\(Agr g S.ls e.2.1 e.2.2.2.no\/c.ag k+1<=XB c.ly k)
 ld:∀e∈S.ld,∀k:Nat,e.1=f+k->c.tk k=c.ag k+1/\c.ly k=c.ag k+1/\(Agr g S.ls e.1 e.2.1.no\/c.ag k+1<=XB c.ly k)
 en:∀k,k<S.en->c.tk k=c.ag k+1/\c.ly k=c.ag k+1
 le:∀k,c.ag k<=XB c.ly k
section
variable {f N h:Int}{g:List Row}{CC:List (List Cs)}{C:List Cs}{S S':DS}{e:Ev}{c c1 c':Ct}{many k k':Nat}{q:Nat->Nat}{es:List He}
theorem JP:XB q (k+1)=XB q k+q k:=by
 unfold XB
 rw[lf,bM,eQ]
 rfl
theorem zcc:XB (upN q k) k'=XB q k'+if k<k' then 1 else 0:=by
 induction k' with
 |zero=>rw[aj (Nat.not_lt_zero k)];rfl
 |succ m ih =>
  rw[JP,JP,ih]
  unfold upN
  by_cases c:m=k
  ·subst c
   rw[aj (eS m),am rfl,am (iG m)]
   lia
  ·rw[aj c]
   by_cases d:k<m
   ·rw[am d,am (by lia)];lia
   ·rw[aj d,aj (by lia)];lia
theorem xE(h:k'≠k):upN q k k'=q k':=aj h
theorem KS:upN q k k=q k+1:=am rfl
theorem CtR.snoc(h:CtR f many c es c1)(s:CtS f many c1 e c'):CtR f many c (es++[(N,e)]) c':=by
 induction h with
 |nil=>exact .cons s .nil
 |cons x _ ih=>exact .cons x (ih s)
theorem JQ{α:Type}{q:α->Int}{x y:α}:∀ {l:List α},(l.map q).Nodup->x∈l->y∈l->q x=q y->x=y
 |z::l,nd,hx,hy,e=>by
  rw[bo,bZ] at nd
  rcases bD.mp hx with h1|h1 <;> rcases bD.mp hy with h2|h2
  ·rw[h1,h2]
  ·exact absurd (bE.mpr ⟨y,h2,by rw[<-e,h1]⟩) nd.1
  ·exact absurd (bE.mpr ⟨x,h1,by rw[e,h2]⟩) nd.1
  ·exact JQ nd.2 h1 h2 e
theorem Lk.run(ok:DsOk N f g CC S)(L:Lk f g many S c){r:Int}(m:(h,r,j,s)∈S.hl)(ag:Agr g S.ls r s.no->Agr g S.ls r s'.no):Lk f g many { S with hl:=XA S.hl h (r,j+1,s') } c:=by
 obtain⟨p1,_⟩:=jD (b:=(r,j+1,s')) ok.hn m
 refine⟨L.st,L.nw,L.ws,λe he k ek=>?_,L.ld,L.en,L.le⟩
 rcases bD.mp (p1.mem_iff.mp he) with rfl|he
 ·obtain⟨a,b,z⟩:=L.hl _ m k ek
  exact⟨a,b,z.imp ag id⟩
 ·exact L.hl e (dropH_mem.mp he).1 k ek
theorem Mv.lk(ok:DsOk N f g CC S)(L:Lk f g CC.length S c)(hm:CC.length<=many)(m:Mv f g CC S h e S'):∃c',CtS f many c e c'/\Lk f g CC.length S' c':=by
 obtain⟨ndw,⟨ndh,ndl,dj⟩,dw⟩:=ok.nd
 cases m with
 |step m ec ho ha=>exact⟨c,rfl,L.run ok m λz=>by rw[(WD ho).1 ha];exact z⟩
 |read m ec ho ha =>
  refine⟨c,rfl,L.run ok m λz=>?_⟩
  rw[(WD ho).2 _ ha]
  intro y hy
  rcases bx.mp hy with hy|hy
  ·exact z y hy
  ·rw[br.mp hy]
 |@lay r j s C gi m ec ho hg =>
  obtain⟨k,rk,k1,kl⟩:=ok.rh m
  obtain⟨t1,t2,t3⟩:=L.hl _ m k rk
  have rk:r=f+k:=rk
  subst rk
  have mr:f+(k:Int)∈S.hl.map (·.2.1):=bu (f:=λe:Int×Int×Nat×RSt=>e.2.1) m
  have up:∀ {r':Int} {k':Nat} {no:List Row},r'=f+k'->(Agr g S.ls r' no\/c.ag k'+1<=XB c.ly k')->(Agr g (kj S.ls (f+k) gi) r' no\/c.ag k'+1<=XB (upN c.ly k) k'):=λ{r' k' no} er z=>by
   rw[zcc]
   by_cases d:k<k'
   ·rw[am d]
    exact .inr (eA (L.le k'))
   ·rw[aj d]
    refine z.imp (λz y hy=>?_) id
    rw[Vx (by lia)]
    exact z y hy
  refine⟨{ c with ly:=upN c.ly k },⟨k,rfl,by lia,by lia,rfl⟩,L.st,λk' h'=>?_,λk' h'=>?_,λe he k' ek=>?_,λe he k' ek=>?_,λk' h'=>?_,λk'=>?_⟩
  ·show _/\upN c.ly k k'=0/\_
   rw[xE (by lia)]
   exact L.nw k' h'
  ·show _/\upN c.ly k k'=_
   rw[xE (λz=>by rw[z] at h';exact dw _ h' _ (cz _ mr) rfl)]
   exact L.ws k' h'
  ·obtain⟨he,ne⟩:=dropH_mem.mp he
   obtain⟨a,b,z⟩:=L.hl e he k' ek
   refine⟨a,?_,up ek z⟩
   show upN c.ly k k'=_
   rw[xE (λz=>ne ?_)]
   ·exact b
   ·have e1:e.2.1=f+k:=by rw[ek,z]
    exact congrArg (·.1) (JQ ndh he m e1)
  ·rcases bx.mp he with he|he
   ·obtain⟨a,b,z⟩:=L.ld e he k' ek
    refine⟨a,?_,up ek z⟩
    show upN c.ly k k'=_
    rw[xE (λz=>dj _ mr _ (bu (f:=λe:Int×RSt×List Row=>e.1) he) (by rw[ek,z]))]
    exact b
   ·cases br.mp he
    have:k'=k:=by have:f+(k:Int)=f+k':=ek;lia
    subst this
    refine⟨t1,?_,up rfl t3⟩
    show upN c.ly k' k'=_
    rw[KS,t2]
  ·show _/\upN c.ly k k'=_
   rw[xE (by have:k'<S.en:=h';lia)]
   exact L.en k' h'
  ·show _<=XB (upN c.ly k) k'
   rw[zcc]
   exact bK (L.le k') (mG _ _)
 |@settle s gi m fr =>
  obtain⟨k,rk,_,kl⟩:=ok.rl (bu (f:=λe:Int×RSt×List Row=>e.1) m)
  have rk:f+(S.en:Int)=f+k:=rk
  refine⟨{ c with st:=c.st+1 },⟨by rw[L.st],by rw[L.st];lia,rfl⟩,congrArg (· + 1) L.st,L.nw,L.ws,L.hl,λe he k' ek=>L.ld e (dropH_mem.mp he).1 k' ek,λk' h'=>?_,L.le⟩
  by_cases d:k'=S.en
  ·obtain⟨a,b,_⟩:=L.ld _ m k' (by rw[d])
   exact⟨a,b⟩
  ·exact L.en k' (by have:k'<S.en+1:=h';lia)
 |@again r s gi p o ws' m hy hn pw so fr =>
  obtain⟨k,rk,k1,kl⟩:=ok.rl (bu (f:=λe:Int×RSt×List Row=>e.1) m)
  obtain⟨t1,t2,t3⟩:=L.ld _ m k rk
  have rk:r=f+k:=rk
  subst rk
  have mr:f+(k:Int)∈S.ld.map (·.1):=bu (f:=λe:Int×RSt×List Row=>e.1) m
  have lk:=t3.resolve_left λz=>hn (z _ hy)
  refine⟨{ c with ag:=upN c.ag k },⟨k,rfl,by lia,by lia,eL hn,rfl⟩,L.st,λk' h'=>?_,λk' h'=>?_,λe he k' ek=>?_,λe he k' ek=>?_,λk' h'=>?_,λk'=>?_⟩
  ·show _/\_/\upN c.ag k k'=0
   rw[xE (by lia)]
   exact L.nw k' h'
  ·show _=upN c.ag k k'/\_=upN c.ag k k'
   rcases bD.mp (pw.mem_iff.mp h') with z|z
   ·have:k'=k:=by lia
    subst this
    rw[KS,t1,t2]
    exact⟨rfl,rfl⟩
   ·rw[xE (λy=>by rw[y] at z;exact dw _ z _ (bI _ mr) rfl)]
    exact L.ws k' z
  ·show _=upN c.ag k k'+1/\_=upN c.ag k k'/\(_\/upN c.ag k k'+1<=_)
   rw[xE (λy=>dj _ (bu (f:=λe:Int×Int×Nat×RSt=>e.2.1) he) _ mr (by rw[ek,y]))]
   exact L.hl e he k' ek
  ·obtain⟨he,ne⟩:=dropH_mem.mp he
   show _=upN c.ag k k'+1/\_=upN c.ag k k'+1/\(_\/upN c.ag k k'+1<=_)
   rw[xE (λy=>ne (by rw[ek,y]))]
   exact L.ld e he k' ek
  ·show _=upN c.ag k k'+1/\_=upN c.ag k k'+1
   rw[xE (by have:k'<S.en:=h';lia)]
   exact L.en k' h'
  ·show upN c.ag k k'<=_
   by_cases d:k'=k
   ·subst d
    rw[KS]
    exact lk
   ·rw[xE d]
    exact L.le k'
 |@take r m fr =>
  obtain⟨k,rfl,k1,kl⟩:=ok.rw_ m
  obtain⟨t1,t2⟩:=L.ws k m
  have ll:=L.le k
  refine⟨{ c with tk:=upN c.tk k },⟨k,rfl,by lia,by lia,t1,rfl⟩,L.st,λk' h'=>?_,λk' h'=>?_,λe he k' ek=>?_,λe he k' ek=>?_,λk' h'=>?_,L.le⟩
  ·show upN c.tk k k'=0/\_
   rw[xE (by lia)]
   exact L.nw k' h'
  ·show upN c.tk k k'=_/\_
   have h':f+(k':Int)∈S.ws.erase (f+k):=h'
   rw[ndw.mem_erase_iff] at h'
   rw[xE (λz=>h'.1 (by rw[z]))]
   exact L.ws k' h'.2
  ·show upN c.tk k k'=_/\_
   rcases bx.mp he with he|he
   ·rw[xE (λz=>dw _ m _ (cz _ (bu (f:=λe:Int×Int×Nat×RSt=>e.2.1) he)) (by rw[ek,z]))]
    exact L.hl e he k' ek
   ·cases br.mp he
    have:k'=k:=by have:f+(k:Int)=f+k':=ek;lia
    subst this
    rw[KS,t1]
    exact⟨rfl,t2,.inl λy hy=>nomatch hy⟩
  ·show upN c.tk k k'=_/\_
   rw[xE (λz=>dw _ m _ (bI _ (bu (f:=λe:Int×RSt×List Row=>e.1) he)) (by rw[ek,z]))]
   exact L.ld e he k' ek
  ·show upN c.tk k k'=_/\_
   rw[xE (by have:k'<S.en:=h';lia)]
   exact L.en k' h'
 |rest w l fr=>exact⟨c,rfl,L⟩
theorem Lk.add(L:Lk f g k S c):Lk f g (k+1) (zcM f k S) c:=⟨L.st,λk' h=>L.nw k' (by lia),λk' h=>by
 rcases bx.mp h with h|h
 ·exact L.ws k' h
 ·have:=br.mp h
  have:k'=k:=by lia
  rw[this]
  obtain⟨a,b,z⟩:=L.nw k (bi _)
  lia,L.hl,L.ld,L.en,L.le⟩
theorem DsOk.add(ok:DsOk N f g CC S)(hC:zbg C/\C.length<=11)(h5:CC.length<5):DsOk N f g (CC++[C]) (zcM f CC.length S):=by
 have ln:(CC++[C]).length=CC.length+1:=bw ..
 have el:=ok.el
 refine⟨ok.f0,⟨λC' h=>?_,by lia⟩,by show S.en<=_;lia,?_,?_,ok.hn,ok.hr,λe he=>?_,ok.nt,λy hy=>?_,ok.gw,ok.lw⟩
 ·rcases bx.mp h with h|h
  ·exact ok.cc.ok C' h
  ·rw[br.mp h];exact hC
 ·show ((S.ws++[f+(CC.length:Int)])++_).Perm (jg f S.en _)
  rw[ln]
  have z:jg f S.en (CC.length+1)=jg f S.en CC.length++[f+(CC.length:Int)]:=by
   unfold jg
   rw[show CC.length+1-S.en=CC.length-S.en+1 by lia,lf,bM]
   refine congrArg _ ?_
   show [f+(S.en:Int)+((CC.length-S.en:Nat):Int)]=_
   rw[show f+(S.en:Int)+((CC.length-S.en:Nat):Int)=f+CC.length by lia]
  rw[z,cG]
  refine dN ?_ (ok.pm.append_right _)
  rw[cG]
  exact .append_left _ ny
 ·refine gq.mpr ⟨ok.so,by simp,λx hx y hy=>?_⟩
  obtain⟨j,rfl,_,jl⟩:=ok.rw_ hx
  rw[br.mp hy]
  lia
 ·obtain⟨C',h1,h2⟩:=ok.rn e he
  exact⟨C',by rw[dX (bf.mp h1).1];exact h1,h2⟩
 ·have:=ok.ly y hy
  lia
end
def S0:DS:=⟨[],[],[],[],0⟩
section
variable {H0 H':Hp}{lb lb':ac->Nat}{d l lr s z:ac}{a:DAd}{CC:List (List Cs)}{C:List Cs}{n f h:Int}{g:List Row}{S:DS}{v:V}{xs ys rows:List V}{es:List He}{c:Ct}{ad m:Nat}{E:XK}{Z:List (ac×HO)}
theorem CoAt.same(h:CoAt H v C)(k:Same H H'):CoAt H' v C:=let ⟨c,ys,e,hc,pc⟩:=h;⟨c,ys,e,k _ _ hc,wu k pc⟩
structure LwI(t:Adr)(H0:Hp)(Z:List (ac×HO))(d lr:ac)(a:DAd)(n f:Int)(g:List Row)(CC:List (List Cs))(ad m:Nat)(H:Hp)(lb:ac->Nat)(S:DS)(es:List He)(xs:List V)(c:Ct):Prop where
 sm:Same H0 H
 z0:∀b o,H0 b=aa o->lb b=0
 kz:∀y∈Z,H y.1=aa y.2/\lb y.1=0/\y.1≠lr
 hr:H lr=aa (.lst xs)
 l0:lb lr=0
 hn:H0 lr=ai
 pr:Paired (EvAt H) xs es
 le:xs.length<=m
 dk:DkG t H d a lb n f g (CC.take ad) S
 ok:DsOk n f g (CC.take ad) S
 ct:CtR f CC.length ct0 es c
 lk:Lk f g ad S c
 al:ad<=CC.length
 cc:zfI CC
theorem LwI.ln(I:LwI t H0 Z d lr a n f g CC ad m H lb S es xs c):(CC.take ad).length=ad:=by rw[cR];exact dv I.al
theorem LwI.fr(I:LwI t H0 Z d lr a n f g CC ad m H lb S es xs c)(F:Fr M0 H H' lb lb'):Same H0 H'/\(∀b o,H0 b=aa o->lb' b=0)/\(∀y∈Z,H' y.1=aa y.2/\lb' y.1=0/\y.1≠lr)/\H' lr=aa (.lst xs)/\lb' lr=0/\Paired (EvAt H') xs es:=by
 have k:∀b o,lb b=0->H b=aa o->H' b=aa o/\lb' b=0:=λb o z e=>⟨F.kp b o (.inl z) e,(F.ex b o e).trans z⟩
 exact⟨λb o e=>(k b o (I.z0 b o e) (I.sm b o e)).1,λb o e=>(k b o (I.z0 b o e) (I.sm b o e)).2,λy hy=>let ⟨a,b,c⟩:=I.kz y hy;let ⟨p,q⟩:=k _ _ b a;⟨p,q,c⟩,(k _ _ I.l0 I.hr).1,(k _ _ I.l0 I.hr).2,XQ I.pr F.ts⟩
theorem LwI.same(I:LwI t H0 Z d lr a n f g CC ad m H lb S es xs c)(s:Same H H'):LwI t H0 Z d lr a n f g CC ad m H' lb S es xs c:=by
 obtain⟨a1,a2,a3,a4,a5,a6⟩:=I.fr (Fr.same s)
 exact⟨a1,a2,a3,a4,a5,I.hn,a6,I.le,I.dk.same s,I.ok,I.ct,I.lk,I.al,I.cc⟩
theorem LwI.add(I:LwI t H0 Z d lr a n f g CC ad m H lb S es xs c)(hc:CC[ad]?=aa C):(CC.take ad).length<=10/\S.ws.length<=10/\∀H' lb',Fr M0 H H' lb lb'->DkG t H' d a lb' n f g (CC.take ad++[C]) (zcM f (CC.take ad).length S)->LwI t H0 Z d lr a n f g CC (ad+1) m H' lb' (zcM f ad S) es xs c:=by
 have ln:=I.ln
 have lt:=(bf.mp hc).1
 have l5:=I.cc.le
 have ll:=I.ok.len
 refine⟨by lia,by lia,λH' lb' F G=>?_⟩
 obtain⟨a1,a2,a3,a4,a5,a6⟩:=I.fr F
 have e:CC.take ad++[C]=CC.take (ad+1):=by rw[dU,hc];rfl
 have ok:=I.ok.add (I.cc.ok C (bW hc)) (by lia)
 rw[ln] at G ok
 rw[e] at G ok
 exact⟨a1,a2,a3,a4,a5,I.hn,a6,I.le,G,ok,I.ct,I.lk.add,lt,I.cc⟩
theorem LwI.move(I:LwI t H0 Z d lr a n f g CC ad m H lb S es xs c)(p0:0<=h)(pn:h<n)(q:∀v H' lb' S' es' c',H' lr=aa (.lst xs)->LwI t H0 Z d lr a n f g CC ad (m+1) (upd H' lr (.lst (xs++[v]))) lb' S' es' (xs++[v]) c'->Q v H'):we t [.ref d,.int h] H Q E:=by
 refine⟨d,a,lb,n,f,h,g,CC.take ad,S,rfl,I.dk,I.ok,p0,pn,λv H' lb' e S' F ev mv G=>?_⟩
 obtain⟨a1,a2,a3,a4,a5,a6⟩:=I.fr F
 have lk:=I.lk
 have ln:=I.ln
 rw[<-ln] at lk
 obtain⟨c',cs,lk'⟩:=Mv.lk (many:=CC.length) I.ok lk (by have:=I.al;lia) mv
 rw[ln] at lk'
 have ts:TSm H' (upd H' lr (.lst (xs++[v]))):=qm a4 λ_ z=>nomatch z
 refine q v H' lb' S' (es++[(h,e)]) c' a4 ⟨yz a1 I.hn,a2,λy hy=>?_,zh,a5,I.hn,Paired.snocP (XQ a6 ts) (ev.ts ts),by rw[bw];exact eA I.le,G.put a4 a5,Mv.ok I.ok mv p0 pn,I.ct.snoc cs,lk',I.al,I.cc⟩
 obtain⟨b1,b2,b3⟩:=a3 y hy
 exact⟨by rw[zi b3];exact b1,b2,b3⟩
theorem LwI.fin(I:LwI t H0 [] d lr a n f g CC ad m H lb S es xs c)(h1:1<=n)(h8:n<=8)(hm:m<=20000)(q:∀p H' lb' S' es' ys c',LwI t H0 [] d p a n f g CC ad (m+10000) H' lb' S' es' ys c'->S'.en=ad->Q (.ref p) H'):xq t [.ref d] H (λv H2=>WN (.ref lr) v H2 Q) E:=by
 have ln:=I.ln
 have al:=I.al
 refine⟨d,a,lb,n,f,g,CC.take ad,S,λes' S'=>∃c',CtR f CC.length ct0 (es++es') c'/\Lk f g ad S' c',rfl,I.dk,I.ok,h1,h8,⟨c,by rw[bV];exact I.ct,I.lk⟩,λes' S1 h e S2 ⟨c1,k1,k2⟩ ok mv=>?_,λl ys es' H2 lb2 S2 F2 l2 hl2 p2 y10 ⟨c2,k1,k2⟩ ok2 en2 G2=>?_⟩
 ·rw[<-ln] at k2
  obtain⟨c',cs,lk'⟩:=Mv.lk (many:=CC.length) ok k2 (by lia) mv
  rw[ln] at lk'
  exact⟨c',by rw[<-cG];exact k1.snoc cs,lk'⟩
 ·obtain⟨a1,a2,a3,a4,a5,a6⟩:=I.fr F2
  have:=I.le
  refine⟨lr,l,xs,ys,rfl,rfl,a4,hl2,by rw[bS];lia,λp hp=>?_⟩
  generalize c_:upd H2 p _=H3
  obtain⟨s3,e3⟩:=xk c_ hp
  exact q p H3 lb2 S2 (es++es') (xs++ys) c2 ⟨a1.trans s3,a2,(by lia),e3,G2.l0 hp,zH a1 hp,Paired.app2 (XQ a6 (TSm.of s3)) (XQ p2 (TSm.of s3)),by rw[bw];lia,G2.same s3,ok2,k1,k2,al,I.cc⟩ (by lia)
end
section
variable {H0 H':Hp}{lb lb':ac->Nat}{d l lr cl s z:ac}{a:DAd}{CC:List (List Cs)}{C:List Cs}{n f:Int}{g:List Row}{S:DS}{v:V}{xs ys vs:List V}{es:List He}{c:Ct}{ad m:Nat}{ns:List Int}{E:XK}{Z:List (ac×HO)}
def σL(o0 o1 o2 o3:Option V)(cl:ac)(o5 o6:Option V)(f:Int)(d:ac)(o9 o10:Option V)(lr:ac)(o12 o13:Option V):St:=[o0,o1,o2,o3,aa (.ref cl),o5,o6,aa (.int f),aa (.ref d),o9,o10,aa (.ref lr),o12,o13]
structure JR(H:Hp)(l:ac)(vs:List V)(CC:List (List Cs)):Prop where
 hx:H l=aa (.lst vs)
 px:Paired (CoAt H) vs CC
theorem zcV{o0 o1 o2 o3 o5 o6 o9 o10 o12 o13:Option V}(I:LwI t H0 [] d lr a n f g CC CC.length m H lb S es xs c)(hm:m<=50000)(hc:JR H0 cl vs CC)(en:S.en=CC.length)(q:∀H',Q (.bl af) H') :
  JD K t (qqN Q) (σL o0 o1 o2 o3 cl o5 o6 f d o9 o10 lr o12 o13) H:=by
 obtain⟨e1,cs',en',_,ee,_,le⟩:=I.dk.cmp
 have lv:=bL hc.px
 have l5:=I.cc.le
 have hv:=I.sm _ _ hc.hx
 refine⟨_,rfl,d,_,_,rfl,e1,rfl,d,_,a,n,f,en',rfl,e1,ee,_,rfl,_,rfl,.ref cl,vs.length,rfl,.inl ⟨_,SqL.of hv,rfl⟩,_,_,rfl,rfl,rfl,af,congrArg V.bl (Bj (by rw[le,en,lv])),yY rfl ?_⟩
 refine⟨_,rfl,_,rfl,_,rfl,.ref cl,vs.length,rfl,.inl ⟨_,SqL.of hv,rfl⟩,lr,f,vs.length,xs,es,c,rfl,I.hr,I.pr,bK I.le (by lia),by lia,by rw[lv];exact I.ct,by rw[I.lk.st,en,lv],λk hk=>?_,λH' _=>q H'⟩
 obtain⟨b1,b2⟩:=I.lk.en k (by lia)
 lia
theorem zcW{o0 o1 o2 o3 o6 o9 o12 o13:Option V}(I:LwI t H0 [] d lr a n f g CC ad m H lb S es xs c)(h1:1<=n)(h8:n<=8)(hm:m<=20000)(hc:JR H0 cl vs CC)(q:∀H',Q (.bl af) H') :
  JE K t (qqN Q) (σL o0 o1 o2 o3 cl (aa (.int n)) o6 f d o9 (aa (.int ad)) lr o12 o13) H:=by
 have lv:=bL hc.px
 have al:=I.al
 refine⟨_,rfl,_,rfl,ad,rfl,cl,vs,rfl,SqL.of (I.sm _ _ hc.hx),λz hz=>?_⟩
 have ec:jX vs (aa (ad:Int)) ai=vs.drop ad:=by
  have e3:HT.sIx vs.length 0 (aa (ad:Int))=min ad vs.length:=HT.sIx_nat ..
  have e8:HT.sIx vs.length vs.length ai=vs.length:=rfl
  unfold jX
  rw[e3,e8,dv (by lia),cj (by rw[cK];exact bi _)]
 rw[ec]
 have lz:=I.dk.l0 hz
 generalize c_:upd H z _=H2
 obtain⟨s2,e2⟩:=xk c_ hz
 have I2:=I.same s2
 have nz:z≠lr:=λy=>by rw[y,I.hr] at hz;cases hz
 have I3:LwI t H0 [(z,.lst (vs.drop ad))] d lr a n f g CC ad m H2 lb S es xs c:={ I2 with kz:=λy hy=>by cases br.mp hy;exact⟨e2,lz,nz⟩ }
 refine⟨z,rfl,⟨_,SqL.of e2⟩,yU (vs.drop ad) (λi σ H'=>(∃o13,σ=(σL o0 o1 o2 o3 cl (aa (.int n)) o6 f d o9 (aa (.int ad)) lr o12 o13))/\∃lb' S',LwI t H0 [(z,.lst (vs.drop ad))] d lr a n f g CC (ad+i) m H' lb' S' es xs c) ⟨⟨_,rfl⟩,lb,S,I3⟩ (λi σ H' ⟨_,_,_,J⟩=>SqL.of (J.kz _ bq).1) ?_ ?_⟩
 ·rintro i u σ H' hu ⟨⟨o13,rfl⟩,lb',S',J⟩
  rw[ou] at hu
  obtain⟨C,hC,hv⟩:=Paired.getP hc.px hu
  obtain⟨e1,_⟩:=J.dk.cmp
  obtain⟨b1,b2,b3⟩:=J.add hC
  exact⟨_,rfl,d,_,_,rfl,e1,rfl,_,rfl,d,u,a,lb',n,f,g,_,C,S',rfl,hv.same J.sm,J.dk,b1,b2,λH3 lb3 F3 G3=>⟨⟨_,rfl⟩,lb3,_,b3 H3 lb3 F3 G3⟩⟩
 ·rintro σ H' ⟨⟨o13,rfl⟩,lb',S',J⟩
  have en:ad+(vs.drop ad).length=CC.length:=by rw[cK];lia
  rw[en] at J
  have J:LwI t H0 [] d lr a n f g CC CC.length m H' lb' S' es xs c:={ J with kz:=λ_ z=>nomatch z }
  obtain⟨e1,_⟩:=J.dk.cmp
  exact⟨_,rfl,_,rfl,d,_,_,rfl,e1,rfl,J.fin (E:=E0) h1 h8 hm λp H3 lb3 S3 es3 ys3 c3 J3 en3=>zcV J3 (by lia) hc en3 q⟩
theorem zcX{o0 o1 o2 o3 o6 o9 o12 o13:Option V}(I:LwI t H0 [] d lr a n f g CC ad m H lb S es xs c)(h1:1<=n)(h8:n<=8)(hm:m<=10000)(hc:JR H0 cl vs CC)(q:∀H',Q (.bl af) H') :
  JF K t (qqN Q) (σL o0 o1 o2 o3 cl (aa (.int n)) o6 f d o9 (aa (.int ad)) lr o12 o13) H:=by
 obtain⟨e1,_⟩:=I.dk.cmp
 exact⟨_,rfl,_,rfl,d,_,_,rfl,e1,rfl,I.fin (E:=E0) h1 h8 (by lia) λp H3 lb3 S3 es3 ys3 c3 J3 en3=>zcW J3 h1 h8 (by lia) hc q⟩
theorem ze0{cell:Int}(I:LwI t H0 Z d lr a n f g CC ad m H lb S es xs c)(h1:1<=n)(hm:m<=100)(q:∀H' lb' S' es' ys c',LwI t H0 Z d lr a n f g CC ad (m+1) H' lb' S' es' ys c'->D.nx (σL o0 o1 o2 o3 cl (aa (.int n)) o6 f d o9 (aa (.int ad)) lr (aa (.int cell)) o13) H') :
  Vi K t D (σL o0 o1 o2 o3 cl (aa (.int n)) o6 f d o9 (aa (.int ad)) lr (aa (.int cell)) o13) H:=by
 obtain⟨e1,_⟩:=I.dk.cmp
 refine⟨_,rfl,.inl ⟨rfl,_,SqL.of I.hr⟩,_,rfl,d,_,_,rfl,e1,rfl,_,rfl,_,_,rfl,rfl,dB,_,rfl,_,_,rfl,rfl,by show (0:Int)<n;lia,I.move (E:=E0) (cN _ (by lia)) (cy _ (by lia)) λv H' lb' S' es' c' hl J=>?_⟩
 have:=I.le
 exact⟨lr,xs,v,rfl,rfl,hl,bU (show xs.length<=100 by lia) (by rw[bS];decide),q _ _ _ _ _ _ J⟩
def L13(t:Adr)(H0:Hp)(d lr cl s:ac)(a:DAd)(n f:Int)(g:List Row)(CC:List (List Cs))(o1 o2 o3 o6 o13:Option V)(ea:Int)(i:Nat)(σ:St)(H':Hp):Prop:=i<=63/\∃(ad:Nat) (o12:Option V) (lb':ac->Nat) (S':DS) (es':List He) (ys:List V) (c':Ct),σ=(σL (aa (.ref s)) o1 o2 o3 cl (aa (.int n)) o6 f d (aa (.int ea)) (aa (.int ad)) lr o12 o13)/\LwI t H0 [] d lr a n f g CC ad i H' lb' S' es' ys c'
theorem zcY{o1 o2 o3 o6 o12 o13:Option V}{ea:Int}(I:LwI t H0 [] d lr a n f g CC 0 0 H lb S es xs c)(hS:SqL K H0 s (ns.map V.int))(hn:ns.length<=63)(h1:1<=n)(h8:n<=8)(hc:JR H0 cl vs CC)(he:ea<=CC.length)(q:∀H',Q (.bl af) H') :
  JG K t (qqN Q) (σL (aa (.ref s)) o1 o2 o3 cl (aa (.int n)) o6 f d (aa (.int ea)) (aa (.int (0:Nat))) lr o12 o13) H:=by
 have lv:=bL hc.px
 refine⟨_,rfl,s,rfl,⟨_,hS.mono I.sm⟩,yU (ns.map V.int) (L13 t H0 d lr cl s a n f g CC o1 o2 o3 o6 o13 ea) ⟨bP _,0,_,lb,S,es,xs,c,rfl,I⟩ (λi σ H' ⟨_,_,_,_,_,_,_,_,_,J⟩=>hS.mono J.sm) ?_ ?_⟩
 ·rintro i u σ H' hu ⟨hi,ad,o12,lb',S',es',ys,c',rfl,J⟩
  have li:=(bf.mp hu).1
  rw[bd] at li
  rw[bp] at hu
  obtain⟨cell,_,rfl⟩:=b6.mp hu
  have fin:∀(D:YB),(∀σ H',L13 t H0 d lr cl s a n f g CC o1 o2 o3 o6 o13 ea (i+1) σ H'->D.nx σ H')->∀(ad:Nat) H2 lb2 S2,LwI t H0 [] d lr a n f g CC ad i H2 lb2 S2 es' ys c'->Vi K t D (σL (aa (.ref s)) o1 o2 o3 cl (aa (.int n)) o6 f d (aa (.int ea)) (aa (.int ad)) lr (aa (.int cell)) o13) H2:=λD z ad H2 lb2 S2 J2=>ze0 J2 h1 (by lia) λH3 lb3 S3 es3 ys3 c3 J3=>z _ _ ⟨by lia,ad,_,lb3,S3,es3,ys3,c3,rfl,J3⟩
  refine⟨_,rfl,_,_,rfl,rfl,by show (0:Int)<7;decide,_,_,rfl,rfl,_,rfl,?_⟩
  by_cases c1:cell%7<2
  ·refine yY (Bj c1) ⟨_,rfl,_,rfl,_,_,rfl,rfl,_,rfl,?_⟩
   by_cases c2:(ad:Int)<ea
   ·have lt:ad<CC.length:=by lia
    obtain⟨v,hv⟩:∃v,vs[ad]?=aa v:=⟨_,bb (by lia)⟩
    obtain⟨C,hC,co⟩:=Paired.getP hc.px hv
    obtain⟨e1,_⟩:=J.dk.cmp
    obtain⟨b1,b2,b3⟩:=J.add hC
    exact yY (Bj c2) ⟨_,rfl,d,_,_,rfl,e1,rfl,_,rfl,_,rfl,cl,vs,ad,_,rfl,rfl,SqL.of (J.sm _ _ hc.hx),yf hv,d,v,a,lb',n,f,g,_,C,S',rfl,co.same J.sm,J.dk,b1,b2,λH3 lb3 F3 G3=>⟨_,rfl,_,_,rfl,rfl,fin _ (λ_ _ z=>z) (ad+1) H3 lb3 _ (b3 H3 lb3 F3 G3)⟩⟩
   ·exact ya (Bk c2) (fin _ (λ_ _ z=>z) ad H' lb' S' J)
  ·exact ya (Bk c1) (ya rfl (fin _ (λ_ _ z=>z) ad H' lb' S' J))
 ·rintro σ H' ⟨hi,ad,o12,lb',S',es',ys,c',rfl,J⟩
  exact zcX J h1 h8 (by lia) hc q
end
section
variable {H0 H1 H':Hp}{lb:ac->Nat}{d l lr cl tl s w x dx dw:ac}{a:DAd}{CC:List (List Cs)}{n f k:Int}{tab:List Row}{xs vs rows:List V}{ns:List Int}{wo:HO}{E:XK}
structure NwD(t:Adr)(H0 H:Hp)(d:ac)(a:DAd)(lb:ac->Nat)(n f:Int)(tab:List Row):Prop where
 sm:Same H0 H
 z0:∀b o,H0 b=aa o->lb b=0
 dk:DkG t H d a lb n f tab [] S0
structure LwS(K:bt)(H:Hp)(s tl cl:ac)(ns:List Int)(tab:List Row)(rows vs:List V)(CC:List (List Cs))(n f:Int):Prop where
 hS:SqL K H s (ns.map V.int)
 hn:ns.length<=63
 hb:∀i∈ns,Cb i
 hc:JR H cl vs CC
 cc:zfI CC
 ht:H tl=aa (.lst rows)
 pt:Paired (PrAt H) rows tab
 l5:tab.length<=5
 iw:∀r∈tab,inW r.2=af
 n1:1<=n
 n8:n<=8
 f0:0<=f
theorem JS{o1 o2 o6 o9 o10 o11 o12 o13:Option V}(L:LwS K H0 s tl cl ns tab rows vs CC n f)(N:NwD t H0 H d a lb n f tab)(q:∀H',Q (.bl af) H') :
  JH K t (qqN Q) [aa (.ref s),o1,o2,aa (.ref tl),aa (.ref cl),aa (.int n),o6,aa (.int f),aa (.ref d),o9,o10,o11,o12,o13] H:=by
 have lv:=bL L.hc.px
 refine⟨_,rfl,s,ns,2,rfl,L.hS.mono N.sm,L.hn,L.hb,λc H3 s3 _=>⟨_,_,rfl,rfl,dB,_,rfl,.ref cl,vs.length,rfl,.inl ⟨_,SqL.of (s3 _ _ (N.sm _ _ L.hc.hx)),rfl⟩,_,_,rfl,rfl,_,_,rfl,rfl,by show (0:Int)<(vs.length:Int)+1;lia,by lia,λlr hl=>?_⟩⟩
 have s4:=isV (o:=HO.lst []) lr hl
 have S:=N.sm.trans s3
 have dk:=(N.dk.same s3).same s4
 refine zcY (g:=tab) (vs:=vs) (CC:=CC) (S:=S0) (c:=ct0) (es:=[]) (xs:=[]) (lb:=lb) (H0:=H0) ⟨S.trans s4,N.z0,(by lia),zh,(N.dk.same s3).l0 hl,zH S hl,.nil,bi _,dk,?_,.nil,?_,bP _,L.cc⟩ L.hS L.hn L.n1 L.n8 L.hc ?_ q
 ·exact⟨L.f0,⟨(by lia),bP _⟩,bi _,.refl _,.nil,cU,(by lia),(by lia),(by lia),(by lia),λp=>zd6 L.iw p,(by lia)⟩
 ·exact⟨rfl,λ_ _=>⟨rfl,rfl,rfl⟩,(by lia),(by lia),(by lia),(λ_ z=>absurd z (Nat.not_lt_zero _)),λ_=>bP _⟩
 ·have:=cy (c/7) (show (0:Int)<(vs.length:Int)+1 by lia)
  lia
theorem Xl(L:LwS K H0 s tl cl ns tab rows vs CC n f)(s0:Same H0 H)(hl:H l=ai)(s1:Same (upd H l (.lst rows)) H1)(hw:H1 w=aa wo)(nw:upd H l (.lst rows) w=ai)(wy:∀a:DAd,a.dw=dw->zgZ t a wo)(hx:H1 x=ai)(hdx:H1 dx=ai)(q:∀H' a lb,NwD t H0 H' x a lb n f tab->Q .non H'):xA t [.ref x,.ref l,.int n,.ref w,.int f] (upd (upd H1 dx (.own x)) x (.ins t.q00 dx [])) Q E:=by
 have s2:=isV (o:=HO.lst rows) l hl
 have e1:upd H l (.lst rows) l=aa (.lst rows):=zh
 generalize upd H l (.lst rows)=H2 at *
 have s3:Same H1 (upd (upd H1 dx (.own x)) x (.ins t.q00 dx [])):=λb o z=>by rw[zi (zx z hx),zi (zx z hdx)];exact z
 have S:=(s0.trans s2).trans (s1.trans s3)
 have nx:∀b o,H0 b=aa o->b≠x:=λb o z y=>by have:=s1 _ _ (s2 _ _ (s0 _ _ z));rw[y,hx] at this;cases this
 have l5:=L.l5
 refine⟨x,l,w,dx,dw,n,f,wo,tab,rfl,zh,⟨rows,s3 _ _ (s1 _ _ e1),ku S L.pt⟩,by lia,s3 _ _ hw,(λz=>by rw[z,hx] at hw;cases hw),λH' a lb ea ed k z0 h=>q H' a lb ⟨λb o z=>k b o (nx b o z) (S _ _ z),λb o z=>z0 b o (nx b o z) (λy=>by have:=s2 _ _ (s0 _ _ z);rw[y,nw] at this;cases this) (S _ _ z),wo,[],[],[],[],[],h,.nil,.nil,⟨cU,λ_ z=>nomatch z⟩,rfl,wy a ed⟩⟩
theorem zaz{o1 o2 o9 o10 o11 o12 o13:Option V}(D:DkF K t)(L:LwS K H0 s tl cl ns tab rows vs CC n f)(N:NwD t H0 H d a lb n f tab)(q:∀H',Q (.bl af) H') :
  zac K t (qqN Q) [aa (.ref s),o1,o2,aa (.ref tl),aa (.ref cl),aa (.int n),aa (.int k),aa (.int f),aa (.ref d),o9,o10,o11,o12,o13] H:=by
 refine⟨_,rfl,rfl,_,rfl,?_⟩
 by_cases hk:k=2
 ·refine yY (Bj (congrArg V.int hk)) ⟨_,rfl,tl,rows,rfl,.inl (SqL.of (N.sm _ _ L.ht)),λl hl=>⟨_,rfl,?_⟩⟩
  intro w dw hw hdw nw
  refine⟨w,dw,rfl,zh,⟨rfl,_,rfl,?_⟩⟩
  intro x dx hx hdx nx
  have s1:Same (upd H l (.lst rows)) (upd (upd (upd (upd H l (.lst rows)) dw (.own w)) w (.ins t.q05 dw [])) w (.ins t.q05 dw [(bc "times",.int 0)])):=λb o z=>by rw[zi (zx z hw),zi (zx z hw),zi (zx z hdw)];exact z
  exact Xl (dw:=dw) L N.sm hl s1 zh hw (λa ea=>.inr (.inr ⟨0,by rw[ea];rfl⟩)) hx hdx λH' a lb N'=>⟨rfl,JS L N' q⟩
 ·exact ya (Bk λz=>hk (V.int.inj z)) (JS L N q)
theorem ze1{o1 o2 o8 o9 o10 o11 o12 o13:Option V}(D:DkF K t)(L:LwS K H s tl cl ns tab rows vs CC n f)(q:∀H',Q (.bl af) H') :
  zad K t (qqN Q) [aa (.ref s),o1,o2,aa (.ref tl),aa (.ref cl),aa (.int n),aa (.int k),aa (.int f),o8,o9,o10,o11,o12,o13] H:=by
 refine⟨_,rfl,tl,rows,rfl,.inl (SqL.of L.ht),λl hl=>⟨_,rfl,?_⟩⟩
 intro w dw hw hdw nw
 refine⟨_,rfl,?_⟩
 intro x dx hx hdx nx
 have s1:Same (upd H l (.lst rows)) (upd (upd (upd H l (.lst rows)) dw (.own w)) w (.ins t.q0e dw [])):=λb o z=>by rw[zi (zx z hw),zi (zx z hdw)];exact z
 refine Xl (dw:=dw) L (Same.refl _) hl s1 zh hw (λa ea=>.inl (by rw[ea])) hx hdx λH' a lb N=>⟨rfl,?_⟩
 refine⟨_,rfl,rfl,_,rfl,?_⟩
 by_cases hk:k=1
 ·refine yY (Bj (congrArg V.int hk)) ⟨_,rfl,tl,rows,rfl,.inl (SqL.of (N.sm _ _ L.ht)),λl hl=>⟨_,rfl,?_⟩⟩
  intro w dw hw hdw nw
  refine⟨_,rfl,?_⟩
  intro x dx hx hdx nx
  have s1:Same (upd H' l (.lst rows)) (upd (upd (upd H' l (.lst rows)) dw (.own w)) w (.ins t.q0d dw [])):=λb o z=>by rw[zi (zx z hw),zi (zx z hdw)];exact z
  exact Xl (dw:=dw) L N.sm hl s1 zh hw (λa ea=>.inr (.inl (by rw[ea]))) hx hdx λH' a lb N'=>⟨rfl,zaz D L N' q⟩
 ·exact ya (Bk λz=>hk (V.int.inj z)) (zaz D L N q)
theorem ze2{o1 o2 o5 o6 o7 o8 o9 o10 o11 o12 o13:Option V}(D:DkF K t)(hS:SqL K H s (ns.map V.int))(hn:ns.length<=63)(hb:∀i∈ns,Cb i)(hc:JR H cl vs CC)(cc:zfI CC)(hT:LsAt H tl tab)(l5:tab.length<=5)(iw:∀r∈tab,inW r.2=af)(q:∀H',Q (.bl af) H') :
  zae K t (qqN Q) [aa (.ref s),o1,o2,aa (.ref tl),aa (.ref cl),o5,o6,o7,o8,o9,o10,o11,o12,o13] H:=by
 obtain⟨rows,hr,pr⟩:=hT
 refine⟨_,rfl,s,ns,0,rfl,hS,hn,hb,λc1 H1 s1 _=>⟨_,_,rfl,rfl,by show (0:Int)<8;decide,_,_,rfl,rfl,?_⟩⟩
 refine⟨_,rfl,s,ns,0,rfl,hS.mono s1,hn,hb,λc2 H2 s2 _=>⟨_,_,rfl,rfl,dB,_,_,rfl,rfl,by show (0:Int)<3;decide,?_⟩⟩
 have S2:=s1.trans s2
 refine⟨_,rfl,s,ns,0,rfl,hS.mono S2,hn,hb,λc3 H3 s3 cb=>⟨_,_,rfl,rfl,dB,_,_,rfl,rfl,⟨by lia,by lia,by lia⟩,_,_,rfl,rfl,⟨cb.w.div,by unfold Cw;lia⟩,_,_,rfl,rfl,⟨by lia,by lia,by lia⟩,_,_,rfl,rfl,_,_,rfl,rfl,by show (0:Int)<10^29-300;decide,?_⟩⟩
 have S:=S2.trans s3
 have b1:=cN c1 (show (8:Int)≠0 by lia)
 have b2:=cy c1 (show (0:Int)<8 by lia)
 exact ze1 D (tab:=tab) (rows:=rows) (vs:=vs) (CC:=CC) (ns:=ns) ⟨hS.mono S,hn,hb,⟨S _ _ hc.hx,Paired.mapP hc.px λ_ _ z=>z.same S⟩,cc,S _ _ hr,ku S pr,l5,iw,by lia,by lia,cN _ (by lia)⟩ q
end
theorem KU:∀a:Rws,a.deep=0->Zc a<=a.cnt
 |.nil,_=>by rw[Zc];exact bP _
 |.cons r rs,h=>by
  rw[Rws.deep] at h
  have i:=KU rs (by lia)
  rw[Zc,Rws.cnt]
  have:szR r<=r.cnt:=by
   cases r with
   |iff e a b=>rw[Rw.deep] at h;lia
   |_=>simp[szR,Rw.cnt]
  lia
theorem zgq:∀rs:List Rw,(Rws.of rs).deep<=1->Zc (Rws.of rs)<=(rs.map szX).sum
 |[],_=>by show Zc .nil<=_;rw[Zc];exact bP _
 |r::rs,h=>by
  have h:(Rws.cons r (Rws.of rs)).deep<=1:=h
  rw[Rws.deep] at h
  have i:=zgq rs (by lia)
  show Zc (.cons r (Rws.of rs))<=_
  rw[Zc,bo,cA]
  have:szR r<=szX r:=by
   cases r with
   |iff e a b =>
    rw[Rw.deep] at h
    have h1:=KU a (by lia)
    have h2:=KU b (by lia)
    rw[szR]
    show _<=a.cnt+b.cnt+3
    lia
   |_=>simp[szR,szX]
  lia
theorem zhm(h:zfH rs):Ve 6 (Rws.of rs)/\(zY (Rws.of rs) 0).length<=11/\zbg (zY (Rws.of rs) 0):=by
 have z:=Y4 (Rws.of rs) 0
 have s:=zgq rs h.dp
 have:(rs.map szX).sum<=11:=h.sz
 have:=h.dp
 have R:Ve 6 (Rws.of rs):=⟨by lia,by lia,h.pl⟩
 exact⟨R,by lia,zhI R h.ok (by lia)⟩
theorem zhN(ns:List Int):∃ys:List Int,jX (ns.map V.int) (aa (3:Int)) (aa (7:Int))=ys.map V.int/\ys.length<=4:=by
 have e3:HT.sIx ns.length 0 (aa (3:Int))=min 3 ns.length:=HT.sIx_nat ..
 have e8:HT.sIx ns.length ns.length (aa (7:Int))=min 7 ns.length:=HT.sIx_nat ..
 refine⟨(ns.drop (min 3 ns.length)).take (min 7 ns.length-min 3 ns.length),?_,?_⟩
 ·unfold jX
  rw[bd,e3,e8,iR,mE]
 ·rw[cR,cK];lia
section
variable {a b tl s:ac}{CC:List (List Cs)}{ns:List Int}{us ws:List Str}{tab:List Row}
theorem ze3{o4 o5 o6 o7 o8 o9 o10 o11 o12 o13:Option V}(Dk:DkF K t)(hS:SqL K H s (ns.map V.int))(hn:ns.length<=63)(hb:∀i∈ns,Cb i)(h1:NamesAt H a us)(h2:us.length=2)(h3:NamesAt H b ws)(h4:ws.length=2)(hT:LsAt H tl tab)(l5:tab.length<=5)(iw:∀r∈tab,inW r.2=af)(q:∀H',Q (.bl af) H') :
  zaf K t (qqN Q) [aa (.ref s),aa (.ref a),aa (.ref b),aa (.ref tl),o4,o5,o6,o7,o8,o9,o10,o11,o12,o13] H:=by
 obtain⟨ms,em,lm⟩:=zhN ns
 refine⟨_,rfl,3,rfl,7,rfl,s,_,rfl,hS,λp hp=>?_⟩
 rw[em]
 generalize c_:upd H p _=H1
 obtain⟨s1,e1⟩:=xk c_ hp
 refine⟨p,rfl,⟨_,SqL.of e1⟩,λD hD=>?_⟩
 have s2:=isV (o:=HO.lst []) D hD
 refine⟨λi m ys τ H'=>m=ms.length-i/\i<=ms.length/\(∃o,τ=[o,aa (.ref a),aa (.ref b)])/\Same H1 H'/\H' D=aa (.lst ys)/\∃CC:List (List Cs),Paired (λv C=>CoAt H' v C/\v≠.ref D) ys CC/\CC.length=i/\∀C∈CC,zbg C/\C.length<=11,⟨_,rfl,bP _,⟨_,rfl⟩,s2,zh,[],.nil,rfl,λ_ z=>nomatch z⟩,?_⟩
 rintro i m ys τ H2 ⟨rfl,hi,⟨o,rfl⟩,sm,hD2,CC,pc,lc,ok⟩
 refine⟨hD2,?_⟩
 have ly:=bL pc
 rcases iz i ms.length with c|c
 ·refine .inr ⟨⟨_,_,SqL.of (sm _ _ e1),bb (by rw[bd];exact c)⟩,bU (show ys.length<=5 by lia) (by rw[bS];decide),λv τ' H'=>H' D=aa (.lst ys)/\Same H2 H'/\(∃o,τ'=[o,aa (.ref a),aa (.ref b)])/\∃C,CoAt H' v C/\v≠.ref D/\zbg C/\C.length<=11,?_,λ_ _=>False,λ_ _ z=>z.elim,?_⟩
  ·rintro v τ' H3 ⟨z1,s3,z2,C,cv,nv,z3⟩
   have ts:TSm H3 (upd H3 D (.lst (ys++[v]))):=qm z1 λ_ z=>nomatch z
   have kc:∀ {v C},CoAt H3 v C->v≠.ref D->CoAt (upd H3 D (.lst (ys++[v]))) v C/\v≠.ref D:=λ{v C} ⟨c,zs,e,hc,pc⟩ n=>⟨⟨c,zs,e,by rw[zi (λy=>n (by rw[e,y]))];exact hc,xO (qm z1 λ_ z=>nomatch z) pc⟩,n⟩
   refine⟨z1,ms.length-(i+1),by lia,rfl,c,z2,yz (sm.trans s3) hD,zh,CC++[C],Paired.snocP (Paired.mapP pc λv C ⟨z,n⟩=>?_) ?_,by rw[bw,lc];rfl,λC' z=>?_⟩
   ·obtain⟨c,zs,e,hc,pc⟩:=z.same s3
    exact⟨⟨c,zs,e,by rw[zi (λy=>n (by rw[e,y]))];exact hc,xO ts pc⟩,n⟩
   ·obtain⟨c,zs,e,hc,pc⟩:=cv
    exact⟨⟨c,zs,e,by rw[zi (λy=>nv (by rw[e,y]))];exact hc,xO ts pc⟩,nv⟩
   ·rcases bx.mp z with z|z
    ·exact ok C' z
    ·rw[br.mp z];exact z3
  ·rintro x H3 ⟨rfl,hx⟩
   have hx:=hx _ (SqL.of (sm _ _ e1))
   rw[bp] at hx
   obtain⟨n,_,rfl⟩:=b6.mp hx
   have S:=s1.trans sm
   refine yY (R:=False) rfl ⟨_,rfl,_,rfl,_,rfl,n,a,b,us,ws,rfl,h1.same S,h2,h3.same S,h4,λl rs H4 s4 rl rx=>?_⟩
   obtain⟨R,l11,O⟩:=zhm rx
   refine⟨.ref l,Rws.of rs,rfl,rl.any,R,bK l11 (by lia),λl2 xs H5 s5 hl2 hx px=>?_⟩
   exact⟨(s4.trans s5) _ _ hD2,s4.trans s5,⟨_,rfl⟩,_,⟨l2,xs,rfl,hx,px⟩,(λz=>by cases z;rw[s4 _ _ hD2] at hl2;cases hl2),O,l11⟩
 ·refine .inl ⟨⟨_,SqL.of (sm _ _ e1),by rw[bd];exact c⟩,?_⟩
  have S:=s1.trans sm
  exact ze2 Dk (hS.mono S) hn hb ⟨hD2,Paired.mapP pc λ_ _ z=>z.1⟩ ⟨ok,by lia⟩ (hT.same S) l5 iw q
theorem zf4{vs:List V}{_E:XK}(Dk:DkF K t)(h:sp_law K vs H Q _E) :
  zer K t (qqN Q) (L2.start ["script","shelves","slots","table","codes","hands","kind","first","desk","early","added","rows","cell","code"] vs) H:=by
 obtain⟨s,ns,rfl,hS,hn,hb,q⟩:=h
 refine⟨_,rfl,s,ns,1,rfl,hS,hn,hb,λc1 H1 s1 _=>⟨c1,rfl,λa us H2 s2 _ na la=>?_⟩⟩
 have S2:=s1.trans s2
 refine⟨_,rfl,s,ns,2,rfl,hS.mono S2,hn,hb,λc2 H3 s3 _=>⟨c2,rfl,λb ws H4 s4 _ nb lb=>?_⟩⟩
 have S4:=S2.trans (s3.trans s4)
 refine⟨_,rfl,s,ns,1,rfl,hS.mono S4,hn,hb,λc3 H5 s5 _=>⟨_,_,rfl,rfl,dB,_,rfl,_,a,us,rfl,na.same (s3.trans (s4.trans s5)),la,λtl tab H6 s6 _ ht _ ok l5=>?_⟩⟩
 have S6:=S4.trans (s5.trans s6)
 exact ze3 Dk (hS.mono S6) hn hb (na.same (s3.trans (s4.trans (s5.trans s6)))) la (nb.same (s5.trans s6)) lb ht l5 (λr z=>(ok r z).2.1) q
end
section
variable {x:ac}{a:RAd}{C:List Cs}{s:RSt}{E:XK}{σ:St}
theorem Zu{k:Int}(R:RnAt t H x a C s)(so:yS s.sl)(h0:σ[0]?=aa (aa (.ref x)))(h1:σ[1]?=aa (aa (.ref p)))(e2:H p=aa (.tup xs))(ek:atI xs k=aa (.ref te))(e3:H te=aa (.tup e))(ok:TermOk e)(q:∀H1,Same H H1->fin t (rk s.sl e) Q E H1) :
  zW t.q01 "worth_of" (z8 t) [] E (zb 0) (zc (tOp (yp K) (zb 1) (tC (.int k))) zk) σ H Q:=
 ⟨_,h0,x,_,_,rfl,R.ix,rfl,W9 h1 e2 ek ⟨x,te,e,a,C,s,rfl,R,so,e3,ok,q⟩⟩
theorem zaA(R:RnAt t H x a C s)(so:yS s.sl)(h0:σ[0]?=aa (aa (.ref x)))(h1:σ[1]?=aa (aa (.ref p)))(e2:H p=aa (.tup xs))(i1:atI xs 1=aa (.str sh))(i2:atI xs 2=aa (.ref te))(e3:H te=aa (.tup e))(ok:TermOk e)(q1:∀i q H',rk s.sl e=.ok i->Same H H'->H' q=aa (.tup [.str sh,.int i])->Q (.ref q) H')(q2:∀er H',rk s.sl e=.error er->Same H H'->zeo t er E H') :
  zW t.q01 "place_in" (yN t) [] E (zb 0) (zc (zb 1) zk) σ H Q:=
 ⟨_,h0,x,_,_,rfl,R.ix,rfl,_,h1,x,p,xs,sh,te,e,a,C,s,rfl,R,so,e2,i1,i2,e3,ok,q1,q2⟩
theorem KW{vs:List V}(F:RnF K t)(h:Za t vs H Q E) :
  X4 K t E (qqN Q) (L2.start ["self","due","worth","place"] vs) H:=by
 obtain⟨x,v,r,w,m,a,C,s,rfl,R,h1,h2,h3,h4,h5,q1,q2⟩:=h
 have l1:=h4.l1
 have l2:=h4.l2
 have l4:=h4.l4
 have so:=h4.so
 cases r with
 |take sh e sl' =>
  unfold RwAt at h1
  unfold qO at h3
  obtain⟨r,te,rfl,_,_,e2,e3⟩:=h1
  refine kQ rfl e2 rfl (λ_=>?_) λz=>absurd rfl z
  refine⟨_,rfl,x,_,_,rfl,R.ix,rfl,zaA R so rfl rfl e2 rfl rfl e3 h3 (λi q H1 hk s1 hq=>?_) λer H1 hk s1=>q2 H1 er (by unfold doR;simp only[hk]) s1⟩
  have R1:=R.same s1
  refine⟨_,rfl,x,q,(sh,i),w,a,C,s,rfl,R1,hq,by have:=h4.l3;lia,λH2 K2 R2=>?_⟩
  have hs2:=R2.hs
  rw[zeu] at hs2
  exact qR rfl R2.ix F.cl F.n4 rfl (W9 rfl (K2 _ _ (R1.notup (s1 _ _ e2)) (s1 _ _ e2)) rfl ⟨_,_,rfl,DPut.k (k:=.inr sl') hs2 (bU (by lia:_<=900) (by lia)),q1 _ _ (by unfold doR;simp only[hk]) ((Kp.of_same s1).trans (K2.trans (wP (.inr (.inl rfl))))) (R2.putS _)⟩)
 |give sh e f =>
  unfold RwAt at h1
  unfold qO at h3
  obtain⟨r,te,tf,rfl,_,_,_,e2,e3,e4⟩:=h1
  refine kQ rfl e2 rfl (λz=>absurd z (by lia)) λ_=>kQ rfl e2 rfl (λ_=>?_) λz=>absurd rfl z
  refine zaA R so rfl rfl e2 rfl rfl e3 h3.1 (λi q H1 hk s1 hq=>?_) λer H1 hk s1=>q2 H1 er (by unfold doR;simp only[hk]) s1
  have R1:=R.same s1
  refine Zu R1 so rfl rfl (s1 _ _ e2) rfl (s1 _ _ e4) h3.2 λH3 s3=>?_
  cases hk2:rk s.sl f with
  |error er=>exact fin_err.mpr (q2 H3 er (by unfold doR;simp only[hk,hk2]) (s1.trans s3))
  |ok n =>
   have R3:=R1.same s3
   have ld:=jm s.gi
   refine fin_ok.mpr (qR rfl R3.ix F.cl F.n5 rfl ⟨_,rfl,_,_,rfl,DPut.t (k:=zC (sh,i)) R3.hg (s3 _ _ hq) (bU (by lia:_<=900) (by lia)),?_⟩)
   rw[show yA (dOf s.gi) (zC (sh,i)) (V.int n)=dOf (s.gi++[((sh,i),n)]) from (qM s.gi ((sh,i),n)).symm]
   exact q1 _ _ (by unfold doR;simp only[hk,hk2]) ((Kp.of_same (s1.trans s3)).trans (wP (.inr (.inr (.inl rfl))))) (R3.putG _)
 |lt sl' e =>
  unfold RwAt at h1
  unfold qO at h3
  obtain⟨r,te,rfl,_,_,e2,e3⟩:=h1
  refine kQ rfl e2 rfl (λz=>absurd z (by lia)) λ_=>kQ rfl e2 rfl (λz=>absurd z (by lia)) λ_=>kQ rfl e2 rfl (λ_=>?_) λz=>absurd rfl z
  refine Zu R so rfl rfl e2 rfl e3 h3 λH1 s1=>?_
  cases hk:rk s.sl e with
  |error er=>exact fin_err.mpr (q2 H1 er (by unfold doR;simp only[hk]) s1)
  |ok n =>
   have R2:=R.same s1
   exact fin_ok.mpr (qR rfl R2.ix F.cl F.n4 rfl (W9 rfl (s1 _ _ e2) rfl ⟨_,_,rfl,DPut.k (k:=.inr sl') R2.hs (bU (by lia:_<=900) (by lia)),q1 _ _ (by unfold doR;simp only[hk]) ((Kp.of_same s1).trans (wP (.inr (.inl rfl)))) (R2.putS _)⟩))
 |say e =>
  unfold RwAt at h1
  unfold qO at h3
  obtain⟨r,te,rfl,_,_,e2,e3⟩:=h1
  refine kQ rfl e2 rfl (λz=>absurd z (by lia)) λ_=>kQ rfl e2 rfl (λz=>absurd z (by lia)) λ_=>kQ rfl e2 rfl (λz=>absurd z (by lia)) λ_=>?_
  unfold ZW z5 tBM
  refine qR rfl R.ix F.cl F.n7 rfl ⟨.inl ⟨rfl,_,SqL.of R.ha⟩,?_⟩
  refine Zu R so rfl rfl e2 rfl e3 h3 λH1 s1=>?_
  cases hk:rk s.sl e with
  |error er=>exact fin_err.mpr (q2 H1 er (by unfold doR;simp only[hk]) s1)
  |ok n =>
   have R1:=R.same s1
   refine fin_ok.mpr ⟨_,_,_,rfl,rfl,R1.ha,bU (by rw[bd];lia:_<=900) (by lia),?_⟩
   rw[show cQ V.int s.sa++[V.int n]=cQ V.int (s.sa++[n]) by simp]
   exact q1 _ _ (by unfold doR;simp only[hk]) ((Kp.of_same s1).trans (wP (.inr (.inr (.inr (.inr rfl)))))) (R1.putA _)
 |off e=>exact h2.elim
 |iff e b d=>exact h2.elim
theorem VA{vs:List V}(F:RnF K t)(h:jL t vs H Q E) :
  ZX K t E (qqN Q) (L2.start ["self","due","worth"] vs) H:=by
 obtain⟨x,v,c,w,m,a,C,s,rfl,R,h1,h2,h3,h4,q1,q2⟩:=h
 have so:=h3.so
 have nx:∀ {v' H1 s1},RnAt t H1 x a C s1->(∀k:Nat,k=s1.n+1->Q (.int (k:Nat)) H1)->zJ (tOp (rI0 λi j=>.int (i+j)) (zO K (zb 0) "at") (tC (.int 1))) (qqN Q) (L2.start ["self","due","worth"] [.ref x,v',.int w]) H1:=λR1 q=>by
  unfold zJ tOp
  exact qR rfl R1.ix F.cl F.n2 rfl ⟨_,_,rfl,rfl,q _ rfl⟩
 cases c with
 |go en =>
  obtain⟨p,rfl,e2⟩:=h1
  refine kQ rfl e2 rfl (λ_=>?_) λz=>absurd rfl z
  exact W9 rfl e2 rfl (q1 H s en rfl (.of_same λ_ _ z=>z) R)
 |skip e to =>
  obtain⟨p,te,rfl,e2,e3⟩:=h1
  refine kQ rfl e2 rfl (λz=>absurd z (by lia)) λ_=>kQ rfl e2 rfl (λ_=>?_) λz=>absurd rfl z
  refine Zu R so rfl rfl e2 rfl e3 h2 λH1 s1=>?_
  cases hk:rk s.sl e with
  |error er=>exact fin_err.mpr (q2 H1 er (by unfold vG;simp only[hk]) s1)
  |ok n =>
   have R2:=R.same s1
   refine fin_ok.mpr ⟨rfl,_,rfl,zhE (λhn=>?_) λhn=>?_⟩
   ·exact W9 rfl (s1 _ _ e2) rfl (q1 H1 s to (by unfold vG;simp only[hk,am hn]) (.of_same s1) R2)
   ·exact nx R2 λk hk'=>q1 H1 s k (by unfold vG;simp only[hk,aj hn,hk']) (.of_same s1) R2
 |row r =>
  obtain⟨h1,hni⟩:=h1
  rcases zfL r hni with ⟨e,rfl⟩|hdo
  ·unfold RwAt at h1
   unfold Kz qO at h2
   obtain⟨r,te,rfl,_,_,e2,e3⟩:=h1
   refine kQ rfl e2 rfl (λz=>absurd z (by lia)) λ_=>kQ rfl e2 rfl (λz=>absurd z (by lia)) λ_=>kQ rfl e2 rfl (λ_=>?_) λz=>absurd rfl z
   refine Zu R so rfl rfl e2 rfl e3 h2 λH1 s1=>?_
   cases hk:rk s.sl e with
   |error er=>exact fin_err.mpr (q2 H1 er (by unfold vG;simp only[hk]) s1)
   |ok n =>
    have R2:=R.same s1
    refine fin_ok.mpr ⟨rfl,_,rfl,zhD (λhn=>?_) λhn=>?_⟩
    ·have R3:=R2.putI { s with why:=aa (bc "told") } rfl rfl rfl rfl
     refine⟨_,rfl,_,_,_,_,rfl,R2.ix,F.cl,F.n3,(by show (7:Nat)<1000;decide),?_⟩
     exact nx R3 λk hk'=>q1 _ { s with why:=aa (bc "told") } k (by unfold vG;simp only[hk,aj hn,hk']) ((Kp.of_same s1).trans (wP (.inl rfl))) R3
    ·exact nx R2 λk hk'=>q1 H1 s k (by unfold vG;simp only[hk,am hn,hk']) (.of_same s1) R2
  ·obtain⟨p,zs,hd,rfl,e2,e3,n1,n2,n3⟩:=zfM h1 hdo
   have el:=zal (w:=w) (s:=s) hdo
   refine kQ rfl e2 e3 (λz=>absurd z n1) λ_=>kQ rfl e2 e3 (λz=>absurd z n2) λ_=>kQ rfl e2 e3 (λz=>absurd z n3) λ_=>?_
   refine⟨_,rfl,x,_,_,rfl,R.ix,rfl,_,rfl,_,rfl,x,_,r,w,m,a,C,s,rfl,R,h1,hdo,h2,h3,h4,λH1 s' e K1 R1=>?_,λH1 er e s1=>q2 H1 er (by rw[el,e]) s1⟩
   have en:=zhH hdo e
   exact nx R1 λk hk'=>q1 H1 s' k (by rw[el,e,hk',en]) K1 R1
end
section
variable {x:ac}{a:RAd}{C:List Cs}{s:RSt}{E:XK}
theorem KY{vs:List V}{_E:XK}{P:Str->Option ae}(T:Txt K P t)(h:Zb t vs H Q _E) :
  X3 K t (qqN Q) (L2.start ["self","place"] vs) H:=by
 obtain⟨x,a,C,s,rfl,R,h2,h3,q1,q2⟩:=h
 have F:=rnF T
 refine⟨_,rfl,x,_,_,rfl,R.ix,rfl,x,a,C,s,rfl,R,λH1 s1=>⟨_,rfl,?_⟩⟩
 show if _ then _ else _
 have R1:=R.same s1
 by_cases ho:yD C s=af
 ·rw[am ho]
  show if _ then _ else _
  rw[am rfl]
  exact q1 H1 (by unfold qw;rw[am ho]) s1
 rw[aj ho]
 obtain⟨xs,hx,pr⟩:=R1.hc
 have lx:=bL pr
 have lt:=Y0 ho
 have hc:C[s.n]?=aa C[s.n]:=bb lt
 have hv:xs[s.n]?=aa xs[s.n]:=bb (by lia)
 have cv:=yn pr hv hc
 have ok:=h2 _ (eD lt)
 have es:qw C s=kh C[s.n] s:=by unfold qw;rw[aj ho,hc];rfl
 rw[es] at q1 q2
 obtain⟨p,zs,hd,ev,hp,h0,ht,hnt⟩:=zg2 cv
 unfold zB tOp
 refine qR rfl R1.ix F.cl F.n1 rfl (qR rfl R1.ix F.cl F.n2 rfl ⟨_,xs,_,_,rfl,rfl,SqL.of hx,yf hv,p,zs,0,_,ev,rfl,SqT.of hp,h0,rfl,_,rfl,?_⟩)
 show if _ then _ else _
 by_cases hh:hd=bc "take"
 case neg =>
  rw[am (by rw[Bk (λz=>hh (V.str.inj z))];rfl)]
  exact q1 H1 (hnt hh s) s1
 rw[aj (by rw[hh];decide)]
 obtain⟨sh,e,sl,te,ec,a1,a2,ht⟩:=ht hh
 rw[ec] at q1 q2 ok
 unfold Kz qO at ok
 refine⟨_,rfl,x,_,_,rfl,R1.ix,rfl,?_⟩
 unfold zc tOp
 refine qR rfl R1.ix F.cl F.n1 rfl (qR rfl R1.ix F.cl F.n2 rfl ⟨_,xs,_,_,rfl,rfl,SqL.of hx,yf hv,?_⟩)
 refine⟨x,p,zs,sh,te,e,a,C,s,by rw[ev];rfl,R1,h3,hp,a1,a2,ht,ok,λi q H2 hk s2 hq=>?_,λer H2 hk s2=>?_⟩
 case refine_2 =>
  have q':=q1 H2 (by unfold kh;simp only[hk]) (s1.trans s2)
  cases er with
  |nought=>exact⟨t.q08,rfl,T.m_Nought_Great_Nought,q'⟩
  |great=>exact⟨t.q09,rfl,T.m_Great_Great_Nought,q'⟩
  |stuck=>trivial
 have R2:=R1.same s2
 have g1:DGet H2 a.gi (.ref q) ((zI s.gi (sh,i)).map V.int):=.inr ⟨dOf s.gi,zC (sh,i),q,.inl R2.hg,rfl,hq,(xY _ _).symm⟩
 have g2:DGet H2 a.no (.ref q) ((zI s.no (sh,i)).map V.int):=.inr ⟨dOf s.no,zC (sh,i),q,.inl R2.hn,rfl,hq,(xY _ _).symm⟩
 refine⟨_,rfl,?_⟩
 refine qR rfl R2.ix F.cl F.n5 rfl ⟨_,_,rfl,g1,_,rfl,?_⟩
 show if _ then _ else _
 cases hg:zI s.gi (sh,i) with
 |some j =>
  rw[am (by rfl)]
  show if _ then _ else _
  rw[am rfl]
  exact q1 H2 (by unfold kh;simp only[hk,hg];rfl) (s1.trans s2)
 |none =>
  rw[aj (by lia)]
  refine⟨_,rfl,?_⟩
  refine qR rfl R2.ix F.cl F.n6 rfl ⟨_,_,rfl,g2,_,rfl,?_⟩
  show if _ then _ else _
  cases hn:zI s.no (sh,i) with
  |some j =>
   rw[am (by rfl)]
   exact q1 H2 (by unfold kh;simp only[hk,hg,hn];rfl) (s1.trans s2)
  |none =>
   rw[aj (by lia)]
   refine⟨_,rfl,?_⟩
   exact q2 (sh,i) q H2 (by unfold kh;simp only[hk,hg,hn];rfl) (s1.trans s2) hq
end
theorem VB{vs:List V}{_E:XK}(h:yF vs H Q _E) :
  ZV K t (qqN Q) (L2.start ["ranks","rank","low","high","amid"] vs) H:=by
 obtain⟨a,rs,rank,rfl,h1,h2,q⟩:=h
 refine⟨_,rfl,.ref a,rs.length,rfl,.inl ⟨_,SqL.of h1,(bd ..).symm⟩,mbW a rank rs H,⟨_,0,rs.length,ai,rfl,Same.refl H,bP _,bi _,rfl,by simp,by simp⟩,?_⟩
 rintro m σ H' ⟨lo,hi,o,rfl,s,h4,h5,rfl,h6,h7⟩
 refine⟨_,rfl,_,rfl,_,_,rfl,rfl,_,rfl,?_⟩
 by_cases hl:lo<hi
 ·refine yY (Bj (by lia)) ⟨λσ' H'=>∃m',m'<hi-lo/\mbW a rank rs H m' σ' H',λ_ _ z=>z,_,rfl,_,rfl,_,_,rfl,rfl,_,_,rfl,rfl,dB,?_⟩
  obtain⟨md,emd⟩:∃md:Nat,((lo:Int)+hi)/2=md:=⟨(lo+hi)/2,by lia⟩
  dsimp only
  rw[emd]
  have l1:lo<=md:=by lia
  have l2:md<hi:=by lia
  obtain⟨x,hx⟩:∃x,rs[md]?=aa x:=⟨_,bb (by lia)⟩
  refine⟨_,rfl,_,rfl,a,_,md,_,rfl,rfl,SqL.of (s _ _ h1),yf (j:=md) (by rw[bp,hx];rfl),_,rfl,_,_,rfl,rfl,_,rfl,?_⟩
  by_cases hr:x<rank
  ·exact yY (Bj hr) ⟨_,rfl,_,_,rfl,rfl,_,(by lia:hi-(md+1)<hi-lo),md+1,hi,_,rfl,s,by lia,h5,rfl,λr hr2=>Int.lt_of_le_of_lt (zbZ h2 hx r hr2) hr,h7⟩
  ·exact ya (Bk hr) ⟨_,rfl,_,(by lia:md-lo<hi-lo),lo,md,_,rfl,s,by lia,by lia,rfl,h6,λr hr2=>Int.le_trans (by lia) (zfU h2 hx r hr2)⟩
 ·refine ya (Bk (by lia)) ⟨_,rfl,?_⟩
  obtain rfl:lo=hi:=by lia
  exact q lo H' s h5 h6 h7
theorem KZ{vs:List V}{_E:XK}{P:Str->Option ae}(T:Txt K P t)(h:jr t vs H Q _E) :
  X5 K t (qqN Q) (L2.start ["self","worth"] vs) H:=by
 obtain⟨x,w,m,a,C,s,rfl,R,h2,h3,h4,q⟩:=h
 have F:=rnF T
 refine⟨_,rfl,x,_,_,rfl,R.ix,rfl,x,a,C,s,rfl,R,λH1 s1=>⟨_,rfl,?_⟩⟩
 have R1:=R.same s1
 by_cases ho:yD C s=af
 ·exact yY ho (q H1 (.of_same s1) (by unfold xn;rw[am ho];exact R1))
 refine ya (Bool.not_eq_true _ ▸ ho) ?_
 obtain⟨xs,hx,pr⟩:=R1.hc
 have lx:=bL pr
 have lt:=Y0 ho
 have hc:C[s.n]?=aa C[s.n]:=bb lt
 have hv:xs[s.n]?=aa xs[s.n]:=bb (by lia)
 have cv:=yn pr hv hc
 have es:∀w,xn C w s=y9 C[s.n] w s:=λw=>by unfold xn;rw[aj ho,hc]
 rw[es] at q
 refine⟨_,rfl,x,_,_,rfl,R1.ix,rfl,ym R1.ix F.cl F.n1 rfl rfl (ym R1.ix F.cl F.n2 rfl rfl ⟨a.co,xs,_,_,rfl,rfl,SqL.of hx,yf hv,_,rfl,x,_,C[s.n],w,m,a,C,s,rfl,R1,cv,h2 _ (eD lt),h3,h4,λH2 s' k e K2 R2=>⟨_,rfl,x,_,_,_,rfl,R2.ix,F.cl,F.n2,(by show (7:Nat)<1000;decide),?_⟩,λH2 er e s2=>?_⟩)⟩
 ·have z:=R2.putI { s' with n:=k } rfl rfl rfl rfl
  exact q _ ((Kp.of_same s1).trans (K2.trans (wP (.inl rfl)))) (by unfold y9;rw[e];exact z)
 ·have R3:=R1.same s2
  have z:=R3.putI { s with why:=aa (QT er) } rfl rfl rfl rfl
  have q':=q _ ((Kp.of_same s1).trans ((Kp.of_same s2).trans (wP (.inl rfl)))) (by unfold y9;rw[e];exact z)
  cases er with
  |nought=>exact⟨t.q08,rfl,.inr ⟨T.q2s,T.q2t,_,rfl,x,_,_,_,rfl,R3.ix,F.cl,F.n3,(by show (7:Nat)<1000;decide),q'⟩⟩
  |great=>exact⟨t.q09,rfl,.inl ⟨T.q2v,_,rfl,x,_,_,_,rfl,R3.ix,F.cl,F.n3,(by show (7:Nat)<1000;decide),q'⟩⟩
  |stuck=>trivial
theorem zcZ{m p:ac}{rank low:Int}{F:ac->Prop}{g:List Row}{lays:List (Int×List Row)}{q0:Pl}(MF:MkF K t)(h1:MrAt t H m F g lays low)(h2:low<=rank)(h3:H p=aa (.tup [.str q0.1,.int q0.2]))(q:∀H',Same H H'->Q (.int (yE g lays q0 rank)) H') :
  jR K t (qqN Q) (L2.start ["self","place","rank","ranks","below"] [.ref m,.ref p,.int rank]) H:=by
 obtain⟨dx,gr,wo,rk,wk,kk,M⟩:=h1.ex
 refine⟨_,rfl,m,_,_,rfl,M.im,ki (by lia),_,rfl,m,_,_,_,_,rfl,M.im,zhK,h2,λH1 s1=>?_⟩
 have M1:=M.keep h1.me λb o _ e=>s1 _ _ e
 refine(ym M1.im MF.cl MF.r rfl zfT ⟨rk,rfl,.inr ⟨_,.inl M1.rr.at_⟩,_,rfl,by lia,λl hl=>?_⟩)
 generalize c_:upd H1 l _=H2
 obtain⟨s2,q2⟩:=xk c_ hl
 have S2:=s1.trans s2
 have M2:=M1.keep h1.me λb o _ e=>s2 _ _ e
 have hp2:H2 p=aa (.tup ((zC q0).map kV)):=S2 _ _ h3
 refine⟨_,.t M2.rr.at_ hp2,?_⟩
 have gd:∀ {H3:Hp} {σ:St},σ[0]?=aa (aa (.ref m))->σ[1]?=aa (aa (.ref p))->MrIn t H3 m F g lays low dx gr wo rk wk kk->H3 p=aa (.tup ((zC q0).map kV))->Same H H3->(∀r,ZG lays q0 r->¬ r<rank)->vf (zO K (zb 0) "ground") (zb 1) (tC (.int 0)) σ H3 Q:=λ{H3 σ} e0 e1 M3 hp3 S3 hno=>by
  refine(ym M3.im MF.cl MF.g e0 zh0 ⟨gr,rfl,.inr ⟨_,.inl M3.hg⟩,_,e1,_,.t M3.hg hp3,?_⟩)
  have ev:yE g lays q0 rank=(zI g q0).getD 0:=by
   unfold yE
   rcases kA q0 rank lays (-1,(zI g q0).getD 0) with ⟨e1,_⟩|⟨y,hy,w,e1,e2,_⟩
   ·rw[e1]
   ·exact absurd e2 (hno y.1 ⟨y.2,hy,(vE (h1.ok y hy).2.nd).mpr (by rw[e1];exact λz=>nomatch z)⟩)
  have e2:(z4 (dOf g) (zC q0)).getD (V.int 0)=V.int ((zI g q0).getD 0):=by
   rw[xY]
   cases zI g q0 <;> rfl
  rw[e2,<-ev]
  exact q H3 S3
 rcases M2.rr.get q0 with ⟨a,rs,hk,hv,fa,ha,hs,hne,hi⟩|⟨hv,hk,hno⟩
 ·rw[hv]
  refine⟨_,rfl,_,rfl,a,rs,_,rfl,ha,hs,λk H3 s3 hk3 hlt hge=>⟨_,rfl,rfl,_,rfl,?_⟩⟩
  have S3:=S2.trans s3
  have M3:=M2.keep h1.me λb o _ e=>s3 _ _ e
  by_cases h0:k=0
  ·subst h0
   exact yY rfl (gd rfl rfl M3 (s3 _ _ hp2) S3 λr hr hlr=>by
    have:=hge r (by rw[gC];exact(hi r).mpr hr)
    lia)
  ·refine ya (Bk λz=>h0 (by injection z with z;lia)) ?_
   obtain⟨x,hx⟩:∃x,rs[k-1]?=aa x:=⟨_,bb (by lia)⟩
   have ek:(k:Int)-1=((k-1:Nat):Int):=by lia
   obtain⟨gs,hgs,hpg⟩:=(hi x).mp (bW hx)
   obtain⟨d,v1,fd,nd,hd⟩:=KI M3.wp h1.nd hgs
   have okg:=(h1.ok _ hgs).2
   obtain⟨w,hw⟩:∃w,zI gs q0=aa w:=by
    cases e:zI gs q0 with
    |none=>exact absurd e ((vE okg.nd).mp hpg)
    |some w=>exact⟨w,rfl⟩
   have vd:z4 (dOf gs) (zC q0)=aa (.int w):=by rw[xY,hw];rfl
   refine(ym M3.im MF.cl MF.w rfl zfS ⟨_,rfl,_,rfl,_,_,rfl,rfl,a,_,((k-1:Nat):Int),_,rfl,congrArg V.int ek,SqL.of (s3 _ _ ha),yf (j:=k-1) (by rw[bp,hx];rfl),wo,.ref d,rfl,(show DGet H3 wo (kV (.inl x)) (aa (.ref d)) by rw[<-v1];exact .k M3.hw),_,rfl,d,V.int w,rfl,by rw[<-vd];exact .t hd (s3 _ _ hp2),?_⟩)
   have xr:x<rank:=hlt x (List.mem_iff_getElem?.mpr ⟨k-1,by rw[fO,am (by lia)];exact hx⟩)
   have x0:0<=x:=(h1.ok _ hgs).1
   have ev:yE g lays q0 rank=w:=by
    unfold yE
    rcases kA q0 rank lays (-1,(zI g q0).getD 0) with ⟨e1,e2⟩|⟨y,hy,w',e1,e2,e3,e4,e5⟩
    ·have:=e2 _ hgs (by show (-1:Int)<x;lia) xr
     rw[this] at hw
     cases hw
    ·rw[e4]
     have yx:x<=y.1:=e5 _ hgs xr (by rw[hw];exact λz=>nomatch z)
     have yr:y.1∈rs:=(hi y.1).mpr ⟨y.2,hy,(vE (h1.ok y hy).2.nd).mpr (by rw[e1];exact λz=>nomatch z)⟩
     have xy:y.1<=x:=by
      have:y.1∈rs.take k\/y.1∈rs.drop k:=bx.mp (by rw[eW];exact yr)
      rcases this with z|z
      ·have ek2:k=k-1+1:=by lia
       rw[ek2] at z
       exact zbZ hs hx _ z
      ·have:=hge _ z
       lia
     have ey:y.1=x:=by lia
     have e6:y=(x,gs):=by
      have n1:=h1.nd
      obtain⟨i,hi1⟩:=cP hy
      obtain⟨j,hj1⟩:=cP hgs
      have a1:(lays.map (·.1))[i]?=aa x:=by rw[bp,hi1,<-ey];rfl
      have a2:(lays.map (·.1))[j]?=aa x:=by rw[bp,hj1];rfl
      have ij:=(gg (bf.mp a1).1 n1).mp (a1.trans a2.symm)
      rw[ij,hj1] at hi1
      exact(bQ hi1).symm
     rw[e6] at e1
     rw[hw] at e1
     exact(bQ e1).symm
   rw[<-ev]
   exact q H3 S3
 ·rw[hv]
  refine⟨_,rfl,_,rfl,l,[],_,rfl,q2,fo,λk H3 s3 hk3 _ _=>⟨_,rfl,rfl,_,rfl,?_⟩⟩
  obtain rfl:k=0:=Nat.le_zero.mp hk3
  exact yY rfl (gd rfl rfl (M2.keep h1.me λb o _ e=>s3 _ _ e) (s3 _ _ hp2) (S2.trans s3) λr hr=>absurd hr (hno r))
theorem K0{vs:List V}{_E:XK}(h:wY vs H Q _E) :
  X6 K t (qqN Q) (L2.start ["ranks_at","place","rank","ranks"] vs) H:=by
 obtain⟨rk,pl,rank,G,P,kk,q0,rfl,hr,gk,gn,hp,hnP,kl,hrl,q⟩:=h
 refine⟨_,rfl,rk,rfl,.inr ⟨_,.inl hr.at_⟩,_,rfl,by lia,λz hz=>?_⟩
 generalize c_:upd H z _=H2
 obtain⟨s2,q2⟩:=xk c_ hz
 have hr2:=hr.keep (F':=G) gk (λb o _ e=>s2 _ _ e) (λ_ z=>z)
 have ke2:KeepR G rk H H2:=KeepR.refl.same s2
 have dm2:Dm H H2:=Dm.of_same s2
 have gz:G z:=gn z hz
 refine⟨kk,zC q0,pl,hr2.at_,rfl,s2 _ _ hp,by rw[bS];lia,λv hv=>?_,λhv=>?_⟩
 ·rcases hr2.get q0 with ⟨a,rs,hk,hv2,fa,ha,hs,hne,hi⟩|⟨hv2,_,_⟩
  ·rw[hv2] at hv;cases hv
   have rl:=hrl rs hs λr hr=>(hi r).mp hr
   refine⟨_,rfl,.inl ⟨rfl,_,SqL.of ha⟩,_,rfl,_,rfl,a,rs,rank,rfl,ha,hs,λk H3 s3 hk3 hlt hge=>⟨_,rfl,a,_,k,_,rfl,rfl,s3 _ _ ha,by rw[bd];exact hk3,by rw[bd];lia,?_⟩⟩
   rw[<-iR,<-mE,<-bo (f:=V.int),<-bM]
   have hr3:=hr2.keep (F':=G) gk (λb o _ e=>s3 _ _ e) (λ_ z=>z)
   exact q _ kk ((ke2.same s3).lst (s3 _ _ ha) fa) ((dm2.trans (Dm.of_same s3)).trans (Dm.upd λ_ z=>nomatch z)) (hr3.in1 hk (s3 _ _ ha) hs hi hlt hge hnP λp r=>pM)
  ·rw[hv2] at hv;cases hv
 ·have zr:z≠rk:=zG q2 hr2.at_ (by lia)
  rw[vQ _ hv]
  have qz:upd H2 rk (HO.dT (kk++[(zC q0,V.ref z)])) z=aa (.lst (([]:List Int).map V.int)):=by rw[zi zr];exact q2
  have hf:∀kv∈kk,kv.2≠.ref z:=λkv hk e=>by
   obtain⟨p',a',rs',rfl,_,ha',_⟩:=hr.ls kv hk
   cases e
   rw[hz] at ha'
   cases ha'
  rcases hr2.get q0 with ⟨a,rs,hk,hv2,_⟩|⟨_,hkn,hn⟩
  ·rw[hv2] at hv;cases hv
  refine⟨_,rfl,.inl ⟨rfl,_,SqL.of qz⟩,_,rfl,_,rfl,z,[],rank,rfl,qz,fo,λk H3 s3 hk3 hlt hge=>?_⟩
  have k0:k=0:=Nat.le_zero.mp hk3
  subst k0
  have d3:Dm H (upd H2 rk (HO.dT (kk++[(zC q0,V.ref z)]))):=dm2.trans (Dm.upd λ_ z=>nomatch z)
  refine⟨_,rfl,z,[],0,_,rfl,rfl,s3 _ _ qz,bi _,by lia,q _ (kk++[(zC q0,V.ref z)]) (((ke2.dct _).same s3).lst (s3 _ _ qz) gz) ((d3.trans (Dm.of_same s3)).trans (Dm.upd λ_ z=>nomatch z)) ?_⟩
  refine(hr2.in2 (a:=z) (rank:=rank) hkn hn gz hf zr λp r=>pM).keep gk (λb o fb eb=>?_) (λ_ z=>z)
  show upd H3 z (HO.lst [V.int rank]) b=aa o
  by_cases hb:b=z
  ·subst hb;rw[zh] at eb ⊢;exact eb
  ·rw[zi hb] at eb ⊢;exact s3 _ _ eb
theorem VC{m p:ac}{rank:Int}{F:ac->Prop}{g:List Row}{lays:List (Int×List Row)}{q0:Pl}(MF:MkF K t)(h1:MkAt t H m F g lays)(h2:0<=rank)(h3:H p=aa (.tup [.str q0.1,.int q0.2]))(q:∀H',Same H H'->Q (.int (yE g lays q0 rank)) H') :
  jR K t (qqN Q) (L2.start ["self","place","rank","ranks","below"] [.ref m,.ref p,.int rank]) H:=zcZ MF h1 h2 h3 q
end
abbrev Ba(P:aq)(w:au)(K:bt)(mg:Str->Option ae)(base:av):=FnOk P w K mg base (CX1 P w)
section
variable {P:aq}{w:au}{K:bt}{mg:Str->Option ae}{base:av}{t:Adr}(T:Txt K mg t)
include T
theorem xj:Ba P w K mg base 1 t.a0 t.d0 ["word"] (yi):=by
 refine T.g0.f.okA YQ λvs H Q E h=>⟨?_,λ_ _ _ _ hr=>⟨wf K t,(zd (zM (zo Xj (pv 0) (zZ (kP (x:="take") (kP (x:="give") (kP (x:="let") (kP (x:="say") (kP (x:="off") (kP (x:="if") (kP (x:="else") (kP (x:="end") (kP (x:="as") zf)))))))))) (by with_unfolding_all rfl)) (zg (zu (zl wE (pv 0) zE)))
   zD)
  (zd (zM (zo Xj (pv 0) (zZ (za zE (za zE (za zE (za zE (za zE (za zE (za zE zf)))))))) (by with_unfolding_all rfl)) (zg (zu (zl wE (pv 0) zE)))
    zD)
  (zg (zu (pv 0))))),Ys h⟩⟩
 obtain⟨w,rfl,_⟩:=h;rfl
theorem jU:Ba P w K mg base 1 t.a1 t.d1 ["cell","many"] (xa):=by
 refine T.g1.f.okA q0h λvs H Q E h=>⟨?_,λ_ _ _ _ hr=>⟨ZQ K t,(zd (zq q0h.nd (yq zf))
  (zd (zq q0h.nd (zl zX (zl zR (pv 0) ze) ze))
  (zd (zq q0h.nd (zl zX (zl zR (zl zV (pv 0) ze) ze) ze))
  (zd (xB cF rfl (xR rfl T.q0g (za (pv 1) zf)) (yh q0h.nd) (zd (zq q0h.nd (zl zR (zl zX (zl zX (zl wS (pv 3) (pv 3)) (zl wS ze (pv 4))) (pv 5)) ze))
  (zd (zq q0h.nd (zl zR (zl zX (zl zX (zl wS (pv 4) (pv 3)) (zl wS ze (pv 3))) ze) ze))
  (zg (zP (wA bN cu cw yM (pv 2) (za (zl zX (zl wS (pv 3) ze) (pv 4)) zf)))))))
  (zg (zu (pv 2))))))),Vp h⟩⟩
 obtain⟨c,m,rfl,_⟩:=h;rfl
theorem Xa:Ba P w K mg base 2 t.a2 t.d2 ["cell"] (vH):=by
 refine T.g2.f.okA q0l λvs H Q E h=>⟨?_,λ_ _ _ _ hr=>⟨qe K t,(zd (Xh (i:=1) q0l.nd rfl (oh rfl) zE)
  (zd (zq q0l.nd (wA mR PySem.F.slot_str_join PySem.F.type_str_join zfp zE (za (Kc rfl (osc:=zj jp) (N:=["cell","letters","word","one","at","letter"]) (xs:=["number"]) (ix:=[1]) (by lia) (xg (pcG (jU T) T.g1 hr zw (za (pv 0) (za (zl zX ze (zl zR (pv 0) ze)) zf)))) (λ_ _ _ _=>(vA (i:=0) (show gc (["number","letters"]:List Str) from (by lia)) rfl (gU rfl) (.inr rfl))) (λ_ _ _ _=>ji) (λ_ _ _ _=>(zt zaR (pv 1) (zl zR (pv 0) ze)))) zf)))
  (zd (zq q0l.nd (pcG (xj T) T.g0 hr zw (za (pv 2) zf)))
  (zd (zq q0l.nd (zl zR (zl zV (pv 0) ze) (zN z6 rfl T.q04 yI (za (pv 3) zf))))
  (zd (zq q0l.nd (zt zaR (pv 1) (zl zR (zl zX (zl zX (wA mR PySem.F.slot_str_find PySem.F.type_str_find zfo (pv 1) (za (zt zaR (pv 3) (pv 4)) zf)) ze) (zl zR (zl zV (pv 0) ze) ze)) ze)))
  (zd (zM (PW.pt (WI (zo yb (zl zR (zl zV (pv 0) ze) ze) ze (zA _)) (YD (zo wT (zN z6 rfl T.q04 yI (za (pv 3) zf)) ze (zA _))))) (zg (zu (yq (za (pv 3) (za (pcG (xj T) T.g0 hr zw (za (zl wE (pv 3) (pv 5)) zf)) zf)))))
    zD)
  (zd (zM (PW.pt (WI (zo yb (zl zR (zl zV (pv 0) ze) ze) ze (zA _)) (YD (zo wT (zN z6 rfl T.q04 yI (za (pv 3) zf)) ze (zA _))))) (zg (zu (yq (za (pcG (xj T) T.g0 hr zw (za (zl wE (pv 5) (pv 3)) zf)) (za (pv 3) zf)))))
    zD)
  (zg (zu (yq (za (pv 3) (za (pcG (xj T) T.g0 hr zw (za (zl wE (zl wE (xm zdq (pv 3) kH (yZ (pv 4))) (pv 5)) (xm zdq (pv 3) (yZ (zl zX (pv 4) ze)) kH)) zf)) zf)))))))))))),V0 h⟩⟩
 obtain⟨c,rfl,_⟩:=h;rfl
theorem wz:Ba P w K mg base 1 t.a3 t.d3 ["number"] (yX):=by
 refine T.g3.f.okA Vc λvs H Q E h=>⟨?_,λ_ _ _ _ hr=>⟨v6 K t,(zd (zM (zo yb (zl zR (pv 0) ze) ze (zA _)) (zg (zu (zl vP (zl zR (zl wS (pv 0) (zl Z5 ze ze)) (zl zX (zl wS ze (zl Z5 ze ze)) ze)) (zl Z5 ze ze))))
   zD)
  (zg (zu (zl vP (zl zR (zl zV (pv 0) ze) ze) ze)))),Ws h⟩⟩
 obtain⟨n,rfl,_⟩:=h;rfl
theorem V6:Ba P w K mg base 2 t.a4 t.d4 ["cell","shelves"] (jM):=by
 refine T.g4.f.okA q0o λvs H Q E h=>⟨?_,λ_ _ _ _ hr=>⟨ZR K t,(zd (zq q0o.nd (pcG (jU T) T.g1 hr zw (za (pv 0) (za ze zf))))
  (zd (Xh (i:=3) q0o.nd rfl (oh rfl) j5)
  (zd (xB cF rfl (xR rfl T.q0g (za (zl zR (pv 0) ze) zf)) (yh q0o.nd) (zd (zq q0o.nd (pcG (wz T) T.g3 hr zw (za (zt zF (pv 2) (zl zX (pv 4) ze)) zf)))
  (zg (zM (zo qG (pv 5) ze (zA _)) (zg (wR (yy hr) (pv 3) (zZ (za (zt zF (pv 1) (zl zR (zt zF (pv 2) (pv 4)) ze)) (za (zl zR (zl zV (zt zF (pv 2) (pv 4)) ze) ze) zf))) (pv 5) rfl))
    zD))))
  (zg (zu (Kc rfl (osc:=zj vF) (N:=["cell","shelves","xs","found","k","worth"]) (xs:=["place"]) (ix:=[3]) (by lia) (xg (zN (Kj rfl) rfl T.q16 Xq (za (pv 3) zf))) (λ_ _ _ _=>(vA (i:=0) (show gc (["place","found"]:List Str) from (by lia)) rfl (gU rfl) (.inr rfl))) (λ_ _ _ _=>ji) (λ_ _ _ _=>(zZ (za (pv 0) (za (vC (yy hr) (pv 1) (pv 0) (λ_ _=>rfl)) zf)))))))))),Vq h⟩⟩
 obtain⟨c,a,ws,rfl,_⟩:=h;rfl
theorem V7:Ba P w K mg base 1 t.a5 t.d5 ["self","table"] (jN t):=by
 refine T.q1m.ok0 VI (λvs H Q E h=>?_) (λcdv A outer s H vs Q E hr h=>?_)
 ·obtain⟨x,h,dx,rows,rfl,_⟩:=h;rfl
 exact⟨jQ K t,(zd (yj (f:="ground") (pv 0) (yT (qu rfl (hu3 hr)) rfl T.q1j zbI (za (pv 1) zf)) rfl)
  (zd (yj (f:="folded") (pv 0) ze rfl)
  (zd (yj (f:="worths") (pv 0) qH rfl)
  (zg (yj (f:="ranks") (pv 0) j5 rfl))))),Vn (mkF T) h⟩
theorem K3:Ba P w K mg base 1 t.a6 t.d6 ["self","makes"] (qd t):=by
 refine T.q1o.ok0 Kw (λvs H Q E h=>?_) (λcdv A outer s H vs Q E hr h=>?_)
 ·obtain⟨x,m,dx,rfl,_⟩:=h;rfl
 exact⟨qf K t,(zd (yj (f:="makes") (pv 0) (pv 1) rfl)
  (zd (yj (f:="laid") (pv 0) qH rfl)
  (zd (yj (f:="readers") (pv 0) j5 rfl)
  (zg (yj (f:="doubted") (pv 0) qH rfl))))),V4 (dkF T) h⟩
theorem qp:Ba P w K mg base 3 t.a7 t.d7 ["self","table","hands","way","first"] (xA t):=by
 refine T.q1q.ok0 Kx (λvs H Q E h=>?_) (λcdv A outer s H vs Q E hr h=>?_)
 ·obtain⟨x,l,w,dx,dw,n,f,wo,g,rfl,_⟩:=h;rfl
 exact⟨qg K t,(zd (yj (f:="hands") (pv 0) (pv 2) rfl)
  (zd (yj (f:="way") (pv 0) (pv 3) rfl)
  (zd (yj (f:="first") (pv 0) (pv 4) rfl)
  (zd (yj (f:="codes") (pv 0) (yq zf) rfl)
  (zd (yj (f:="waiting") (pv 0) (yq zf) rfl)
  (zd (yj (f:="held") (pv 0) qH rfl)
  (zd (yj (f:="makes") (pv 0) (Zx T.mk_Makes (FnOk.mono (V7 T) (by lia)) hr rfl T.g_Makes T.q1n .nil zw (za (pv 1) zf)) rfl)
  (zd (yj (f:="jobs") (pv 0) (Zx T.mk_Jobs (FnOk.mono (K3 T) (by lia)) hr rfl T.g_Jobs T.q1p .nil zw (za (zy (pv 0) rfl) zf)) rfl)
  (zg (yj (f:="ended") (pv 0) (yq zf) rfl)))))))))),V5 (dkF T) h⟩
theorem yw:Ba P w K mg base 1 t.a8 t.d8 ["script","k"] (z9 K):=by
 refine T.g8.f.okA Wf λvs H Q E h=>⟨?_,λ_ _ _ _ hr=>⟨vm K t,(zd (zM (zo wT (pv 1) (zN z6 rfl T.q04 yI (za (pv 0) zf)) (zA _)) (zg (zu (zt zF (pv 0) (pv 1))))
   zD)
  (zg (zu ze))),XH h⟩⟩
 obtain⟨a,ns,k,rfl,_⟩:=h;rfl
theorem VD(n:Nat)(IH:Ba P w K mg base (2+2*n) t.a10 t.d10 ["rows","first"] (xo n)):Ba P w K mg base (2+2*n+1) t.a9 t.d9 ["row","at"] (q9 n):=by
 refine T.g9.f.okA q0t (k:=2+2*n) λvs H Q E h=>?_
 obtain⟨v,e,a,b,k,rfl,h1,h2,h3,h4,q⟩:=h
 exact⟨rfl,λ_ _ _ _ hr=>⟨Zf K t n,(zd (zq q0t.nd (Wz (FnOk.mono IH (by lia)) hr rfl T.g10.m T.g10.f.kp T.g10.b .nil zw (za (zt zS (pv 0) ze) (za (zl zX (pv 1) ze) zf))))
  (zd (zq q0t.nd (zl zX (zl zX (pv 1) ze) (zN z6 rfl T.q04 yI (za (pv 2) zf))))
  (zd (zM (zo (QB (zdA hr)) (zt zS (pv 0) ze) (yq zf) (zA _)) (zg (zu (zl kI (yq (za (zZ (za zE (za (zt zS (pv 0) ze) (za (pv 3) zf)))) zf)) (pv 2))))
    zD)
  (zd (zq q0t.nd (Wz (FnOk.mono IH (by lia)) hr rfl T.g10.m T.g10.f.kp T.g10.b .nil zw (za (zt zS (pv 0) ze) (za (zl zX (pv 3) ze) zf))))
  (zg (zu (zl kI (zl kI (zl kI (yq (za (zZ (za zE (za (zt zS (pv 0) ze) (za (zl zX (pv 3) ze) zf)))) zf)) (pv 2)) (yq (za (zZ (za zE (za (zl zX (zl zX (pv 3) ze) (zN z6 rfl T.q04 yI (za (pv 4) zf))) zf))) zf))) (pv 4)))))))),Wq h1 h2 h3 h4 q⟩⟩
theorem zaB:∀n,FnOk P w K mg base (CX1 P w) (2+2*n) t.a10 t.d10 ["rows","first"] (xo n):=by
 intro n
 induction n with
 |zero=>exact⟨λvs H Q E h=>(YZ h).elim,λA outer s H args us vs Q E hr he hb hv h=>(YZ h).elim⟩
 |succ n IH =>
 refine T.g10.f.okA q0y (k:=2+2*n+1) λvs H Q E h=>?_
 obtain⟨v,r,k,rfl,h1,h2,h3,q⟩:=h
 exact⟨rfl,λ_ _ _ _ hr=>⟨X2 K t n,(zd (zq q0y.nd (yq zf))
  (zd (xB cF rfl (xg (pv 0)) (yh q0y.nd) (zg (zM (zo yb (zt zS (pv 3) ze) zE (zA _)) (zg (zP (wA bN PySem.F.slot_list_extend PySem.F.type_list_extend zcs (pv 2) (za (Wz (FnOk.mono (VD T n IH) (by lia)) hr rfl T.g9.m T.g9.f.kp T.g9.b .nil zw (za (pv 3) (za (zl zX (pv 1) (zN z6 rfl T.q04 yI (za (pv 2) zf))) zf))) zf))))
    (zg (zP (wA bN cu cw yM (pv 2) (za (pv 3) zf)))))))
  (zg (zu (pv 2))))),KD h1 h2 h3 q⟩⟩
theorem zbr:Ba P w K mg base 15 t.a11 t.d11 ["rows"] (Ym):=by
 refine T.g11.f.okA zbd λvs H Q E h=>⟨?_,λ_ _ _ _ hr=>⟨Yp K t,(zg (zu (pcG (zaB T 6) T.g10 hr zw (za (pv 0) (za ze zf))))),zak h⟩⟩
 obtain⟨v,r,rfl,_⟩:=h;rfl
theorem vq:Ba P w K mg base 1 t.a12 t.d12 ["self"] (xH t):=by
 refine T.g12.f.okA Wg λvs H Q E h=>?_
 obtain⟨d,dx,a,n,f,en,rfl,h1,h2,q⟩:=h
 exact⟨rfl,λ_ _ _ _ hr=>⟨qy K t,(zg (zu (zl zX (zy (pv 0) rfl) (zN z6 rfl T.q04 yI (za (zy (pv 0) rfl) zf))))),XM (dkF T) h1 h2 q⟩⟩
theorem jE:Ba P w K mg base 1 t.a13 t.d13 ["self"] (wd t):=by
 refine T.g13.f.okA YR λvs H Q E h=>?_
 obtain⟨d,dx,a,n,f,cs,rfl,h1,h2,q⟩:=h
 exact⟨rfl,λ_ _ _ _ hr=>⟨jx K t,(zg (zu (zl zX (zy (pv 0) rfl) (zN z6 rfl T.q04 yI (za (zy (pv 0) rfl) zf))))),Yt (dkF T) h1 h2 q⟩⟩
theorem jF:Ba P w K mg base 1 t.a14 t.d14 ["self"] (xp t):=by
 refine T.g14.f.okA Q6 λvs H Q E h=>⟨?_,λ_ _ _ _ hr=>⟨Zg K t,(zg (zu (zhn (Wx Ww (zy (pv 0) rfl) xl (zA _)) (zaI (Wx zf9 (zy (pv 0) rfl) (zN z6 rfl T.q04 yI (za (zy (pv 0) rfl) zf)) (zA _)))))),KH (rnF T) h⟩⟩
 obtain⟨x,a,C,s,rfl,_⟩:=h;rfl
theorem zbs:Ba P w K mg base 1 t.a15 t.d15 ["word","first","second"] (kZ t):=by
 refine T.g15.f.okB zbe λvs H Q E h=>⟨?_,λ_ _ _ _ hr=>⟨Yq K t E,(zd (zM (zo yb (pv 2) ze (zA _)) (zg (Qy rfl T.q2r zbJ rfl T.g_Nought (za (zbK (pv 0)) zf)))
   zD)
  (zg (zu (vO (zo yb (pv 0) zE (zA _)) (zl zdz (pv 1) (pv 2)) (zl ze9 (pv 1) (pv 2)))))),zah h⟩⟩
 obtain⟨w,a,b,rfl,_⟩:=h;rfl
theorem zbt:Ba P w K mg base 2 t.a16 t.d16 ["word","first","second"] (k7 t):=by
 refine T.g16.f.okB zbf λvs H Q E h=>⟨?_,λ_ _ _ _ hr=>⟨Yr K t E,(zd (zM (zo yb (pv 0) zE (zA _)) (zg (zu (zl zX (pv 1) (pv 2))))
   zD)
  (zd (zM (zo yb (pv 0) zE (zA _)) (zg (zu (zl vP (pv 1) (pv 2))))
    zD)
  (zd (zM (zo yb (pv 0) zE (zA _)) (zg (zu (zl wS (pv 1) (pv 2))))
    zD)
  (zd (zM (zo yb (pv 0) zE (zA _)) (zg (zu (vO (zo wT (pv 1) (pv 2) (zA _)) ze ze)))
    zD)
  (zd (zM (zo yb (pv 0) zE (zA _)) (zg (zu (vO (zo yb (pv 1) (pv 2) (zA _)) ze ze)))
    zD)
  (zg (zu (pcG (zbs T) T.g15 hr vU (za (pv 0) (za (pv 1) (za (pv 2) zf))))))))))),zai h⟩⟩
 obtain⟨w,a,b,rfl,_⟩:=h;rfl
theorem zaC:Ba P w K mg base 1 t.a17 t.d17 ["thing"] (qZ):=by
 refine T.g17.f.okA Q7 λvs H Q E h=>?_
 obtain⟨i,rfl,q⟩:=h
 exact⟨rfl,λ_ _ _ _ hr=>⟨Zh K t,(zd (zM (PW.pt (vN (Z3 (vL (zN vT rfl T.q0j yR (za (pv 0) (za (kE rfl T.b_int zdp rfl) zf))))) (vM (vL (zN vT rfl T.q0j yR (za (pv 0) (za (kE rfl T.q1i zbH rfl) zf))))))) (zg (zu (YC (b:=ak))))
   zD)
  (zg (zu (zdb zda zda (zf8 zc8 (zl Z5 ze ze)) (pv 0) (zl Z5 ze ze))))),KB (kf K).i_b q⟩⟩
theorem zc0:Ba P w K mg base 3 t.a18 t.d18 ["word","first","second"] (ZC t):=by
 refine T.g18.f.okB q17 λvs H Q E h=>⟨?_,λ_ _ _ _ hr=>⟨XE K t E,(zd (zq q17.nd (pcG (zbt T) T.g16 hr vU (za (pv 0) (za (pv 1) (za (pv 2) zf)))))
  (zd (zM (Z3 (vL (pcG (zaC T) T.g17 hr vU (za (pv 3) zf)))) (zg (Qy rfl T.q2u zbJ rfl T.g_Great (za (zbK (pv 0)) zf)))
    zD)
  (zg (zu (pv 3))))),zbh h⟩⟩
 obtain⟨w,a,b,rfl,_⟩:=h;rfl
theorem zaD:Ba P w K mg base 4 t.a19 t.d19 ["term","slots"] (q8 t):=by
 refine T.g19.f.okB q0p λvs H Q E h=>?_
 obtain⟨kvs,tm,sl,ps,r,rfl,h1,h2,h3,h4,h5,h6,q⟩:=h
 exact⟨rfl,λ_ _ _ _ hr=>⟨Zi K t E,(zd (zq q0p.nd (yq zf))
  (zd (xB zhT rfl (zgB (pv 0)) (yh q0p.nd) (zg (zM (zo Xj (pv 3) (ze6 rfl T.g_JOINING rfl) (by with_unfolding_all rfl)) (zd (zq q0p.nd (zaS bN iD iE zaU (pv 2)))
  (zd (zq q0p.nd (zaS bN iD iE zaU (pv 2)))
  (zg (zP (wA bN cu cw yM (pv 2) (za (pcG (zc0 T) T.g18 hr vU (za (pv 3) (za (pv 5) (za (pv 4) zf)))) zf))))))
   (zg (zP (wA bN cu cw yM (pv 2) (za (vO (vL (zN vT rfl T.q0j yR (za (pv 3) (za (kE rfl T.q1k zdo rfl) zf)))) (j6 (yy hr) (pv 1) (pv 3) ze ⟨rfl,rfl,rfl,rfl⟩) (pv 3)) zf)))))))
  (zg (zu (zaS bN iD iE zaU (pv 2)))))),KC (kf K).i_s T.q1z h1 h2 h3 h4 h5 h6 q⟩⟩
theorem yO:Ba P w K mg base 5 t.a20 t.d20 ["self","term"] (z8 t):=by
 refine T.g20.f.okB Wh λvs H Q E h=>?_
 obtain⟨x,tm,e,a,C,s,rfl,h1,h2,h3,h4,q⟩:=h
 exact⟨rfl,λ_ _ _ _ hr=>⟨vn K t E,(zg (zu (pcG (zaD T) T.g19 hr vU (za (pv 1) (za (zy (pv 0) rfl) zf))))),XJ (rnF T) h1 h2 h3 h4 q⟩⟩
theorem vt:Ba P w K mg base 6 t.a21 t.d21 ["self","due"] (yN t):=by
 refine T.g21.f.okB Wi λvs H Q E h=>⟨?_,λ_ _ _ _ hr=>⟨vo K t E,(zg (zu (zZ (za (zt zS (pv 1) ze) (za (pmG (pv 0) T.q06 (yO T) T.g20 hr vU (za (zt zS (pv 1) ze) zf)) zf))))),XL (rnF T) h⟩⟩
 obtain⟨x,p,xs,sh,te,e,a,C,s,rfl,_⟩:=h;rfl
theorem zaE:Ba P w K mg base 7 t.a22 t.d22 ["self"] (Zb t):=by
 refine T.g22.f.okA q18 λvs H Q E h=>⟨?_,λ_ _ _ _ hr=>⟨X3 K t,(zd (zM (PW.pt (vN (vL (YO (pv 0) T.q06 (jF T) T.g14 hr zw)) (vM (zo qG (zt zS (zt zF (zy (pv 0) rfl) (zy (pv 0) rfl)) ze) zE (zA _))))) (zg (zu xl))
   zD)
  (zd (zfE (And.intro rfl rfl) rfl (zfk (i:=1) q18.nd rfl (gU rfl) (QP (pv 0) T.q06 T.g21.me (FnOk.mono (vt T) (by lia)) hr T.g21.b (za (zt zF (zy (pv 0) rfl) (zy (pv 0) rfl)) zf))) rfl T.g_Great rfl T.g_Nought (λ_=>(zg (zu xl))))
  (zd (zM (PW.pt (vN (zo (WB (yy hr)) (pv 1) (zy (pv 0) rfl) (by with_unfolding_all rfl)) (vM (zo (WB (yy hr)) (pv 1) (zy (pv 0) rfl) (by with_unfolding_all rfl))))) (zg (zu xl))
    zD)
  (zg (zu (pv 1)))))),KY T h⟩⟩
 obtain⟨x,a,C,s,rfl,_⟩:=h;rfl
theorem jf:Ba P w K mg base 1 t.a23 t.d23 ["self","rank"] (yL t):=by
 refine T.g23.f.okA Yj λvs H Q E h=>⟨?_,λ_ _ _ _ hr=>⟨xL K t,(zg (zM (zo wT (pv 1) (zy (pv 0) rfl) (zA _)) (zg Qg)
   zD)),ZH (mkF T) h⟩⟩
 obtain⟨m,dx,fs,low,rank,rfl,_⟩:=h;rfl
theorem xb:Ba P w K mg base 1 t.a24 t.d24 ["ranks","rank"] (yF):=by
 refine T.g24.f.okA q0m λvs H Q E h=>⟨?_,λ_ _ _ _ hr=>⟨ZV K t,(zd (zq q0m.nd ze)
  (zd (zq q0m.nd (zN z6 rfl T.q04 yI (za (pv 0) zf)))
  (zd (Qh cF (zo wT (pv 2) (pv 3) (zA _)) (zd (zq q0m.nd (zl zV (zl zX (pv 2) (pv 3)) ze))
  (zg (zM (zo wT (zt zF (pv 0) (pv 4)) (pv 1) (zA _)) (zg (zq q0m.nd (zl zX (pv 4) ze)))
    (zg (zq q0m.nd (pv 4)))))))
  (zg (zu (pv 2)))))),VB h⟩⟩
 obtain⟨a,rs,rank,rfl,_⟩:=h;rfl
theorem Z2:Ba P w K mg base 2 t.a25 t.d25 ["self","place","rank"] (jO t):=by
 refine T.g25.f.okA q0z λvs H Q E h=>?_
 obtain⟨m,p,rank,F,g,lays,q0,rfl,h1,h2,h3,q⟩:=h
 exact⟨rfl,λ_ _ _ _ hr=>⟨jR K t,(zd (zP (pmG (pv 0) T.q0b (jf T) T.g23 hr zw (za (pv 2) zf)))
  (zd (zq q0z.nd (j6 (yy hr) (zy (pv 0) rfl) (pv 1) (yq zf) ⟨rfl,rfl,rfl,rfl⟩))
  (zd (zq q0z.nd (pcG (xb T) T.g24 hr zw (za (pv 3) (za (pv 2) zf))))
  (zd (zM (zo yb (pv 4) ze (zA _)) (zg (zu (j6 (yy hr) (zy (pv 0) rfl) (pv 1) ze ⟨rfl,rfl,rfl,rfl⟩)))
    zD)
  (zg (zu (vC (yy hr) (vC (yy hr) (zy (pv 0) rfl) (zt zF (pv 3) (zl vP (pv 4) ze)) (λ_ _=>rfl)) (pv 1) (λ_ _=>rfl)))))))),VC (mkF T) h1 h2 h3 q⟩⟩
theorem K4:Ba P w K mg base 1 t.a26 t.d26 ["self","place","worth"] (k8 t):=by
 refine T.g26.f.okA Ky λvs H Q E h=>⟨?_,λ_ _ _ _ hr=>⟨qh K t,(zd (zM (zo (WB (yy hr)) (pv 1) (zy (pv 0) rfl) (by with_unfolding_all rfl)) (zg (zu (vC (yy hr) (zy (pv 0) rfl) (pv 1) (λ_ _=>rfl))))
   zD)
  (zd (zM (zo (W2 (yy hr)) (pv 1) (zy (pv 0) rfl) (by with_unfolding_all rfl)) (zg (wR (yy hr) (zy (pv 0) rfl) (pv 1) (pv 2) rfl))
    zD)
  (zg (zu (vC (yy hr) (zy (pv 0) rfl) (pv 1) (λ_ _=>rfl)))))),VU (rnF T) h⟩⟩
 obtain⟨x,q,p,w,a,C,s,rfl,_⟩:=h;rfl
theorem zaF:Ba P w K mg base 7 t.a27 t.d27 ["self","due","worth"] (Za t):=by
 refine T.g27.f.okB q19 λvs H Q E h=>⟨?_,λ_ _ _ _ hr=>⟨X4 K t E,(zg (zM (zo yb (zt zS (pv 1) ze) zE (zA _)) (zg (wR (yy hr) (zy (pv 0) rfl) (zt zS (pv 1) ze) (pmG (pv 0) T.q06 (K4 T) T.g26 hr vU (za (pmG (pv 0) T.q06 (vt T) T.g21 hr vU (za (pv 1) zf)) (za (pv 2) zf))) rfl))
   (zg (zM (zo yb (zt zS (pv 1) ze) zE (zA _)) (zd (zq q19.nd (pmG (pv 0) T.q06 (vt T) T.g21 hr vU (za (pv 1) zf)))
  (zg (wR (yy hr) (zy (pv 0) rfl) (pv 3) (pmG (pv 0) T.q06 (yO T) T.g20 hr vU (za (zt zS (pv 1) ze) zf)) rfl)))
   (zg (zM (zo yb (zt zS (pv 1) ze) zE (zA _)) (zg (wR (yy hr) (zy (pv 0) rfl) (zt zS (pv 1) ze) (pmG (pv 0) T.q06 (yO T) T.g20 hr vU (za (zt zS (pv 1) ze) zf)) rfl))
   (zg (zP (wA bN cu cw yM (zy (pv 0) rfl) (za (pmG (pv 0) T.q06 (yO T) T.g20 hr vU (za (zt zS (pv 1) ze) zf)) zf)))))))))),KW (rnF T) h⟩⟩
 obtain⟨x,v,r,w,m,a,C,s,rfl,_⟩:=h;rfl
theorem V8:Ba P w K mg base 8 t.a28 t.d28 ["self","due","worth"] (jL t):=by
 refine T.g28.f.okB VJ λvs H Q E h=>⟨?_,λ_ _ _ _ hr=>⟨ZX K t E,(zd (zM (zo yb (zt zS (pv 1) ze) zE (zA _)) (zg (zu (zt zS (pv 1) ze)))
   zD)
  (zd (zM (zo yb (zt zS (pv 1) ze) zE (zA _)) (zg (zu (vO (zo yb (pmG (pv 0) T.q06 (yO T) T.g20 hr vU (za (zt zS (pv 1) ze) zf)) ze (zA _)) (zt zS (pv 1) ze) (zl zX (zy (pv 0) rfl) ze))))
    zD)
  (zd (zM (zo yb (zt zS (pv 1) ze) zE (zA _)) (zg (zM (zo qG (pmG (pv 0) T.q06 (yO T) T.g20 hr vU (za (zt zS (pv 1) ze) zf)) ze (zA _)) (zg (yj (f:="why") (pv 0) zE rfl))
    zD))
    (zg (zP (pmG (pv 0) T.q06 (zaF T) T.g27 hr vU (za (pv 1) (za (pv 2) zf))))))
  (zg (zu (zl zX (zy (pv 0) rfl) ze)))))),VA (rnF T) h⟩⟩
 obtain⟨x,v,c,w,m,a,C,s,rfl,_⟩:=h;rfl
theorem X8:Ba P w K mg base 9 t.a29 t.d29 ["self","worth"] (jr t):=by
 refine T.q1r.ok0 Q8 (λvs H Q E h=>?_) (λcdv A outer s H vs Q E hr h=>?_)
 ·obtain⟨x,w,m,a,C,s,rfl,_⟩:=h;rfl
 exact⟨X5 K t,(zd (zM (vL (YO (pv 0) T.q06 (jF T) T.g14 hr zw)) (zg ze7)
   zD)
  (zg (zdT (And.intro rfl rfl) rfl (zfD (f:="at") (pv 0) (QP (pv 0) T.q06 T.g28.me (FnOk.mono (V8 T) (by lia)) hr T.g28.b (za (zt zF (zy (pv 0) rfl) (zy (pv 0) rfl)) (za (pv 1) zf))) rfl) rfl T.g_Great rfl T.g_Nought (λ_=>(zg (yj (f:="why") (pv 0) zE rfl))) (λ_=>(zg (yj (f:="why") (pv 0) zE rfl)))))),KZ T h⟩
theorem Zv:Ba P w K mg base 3 t.a30 t.d30 ["self","rank"] (wZ t):=by
 refine T.g30.f.okA q0u λvs H Q E h=>?_
 obtain⟨d,a,lb,L,la,g,lays,PP,cs,CC,rank,r,no,gi,rfl,h1,h2,h3,h4,h5,h6,q1,q2⟩:=h
 exact⟨rfl,λ_ _ _ _ hr=>⟨va K t,(zd (xB cF rfl (xg (zt zS (vC (yy hr) (zy (pv 0) rfl) (pv 1) (λ_ _=>rfl)) ze)) (zaJ rfl (jV (yh q0u.nd) (jV (yh q0u.nd) JW))) (zd (zq q0u.nd (pmG (zy (pv 0) rfl) T.q0b (Z2 T) T.g25 hr zw (za (pv 2) (za (pv 1) zf))))
  (zg (zM (zo qG (pv 4) (pv 3) (zA _)) (zg (zu (zZ (za (pv 2) (za (pv 3) (za (pv 4) zf))))))
    zD))))
  (zg (zu xl))),qE (dkF T) h1 h2 h3 h4 h5 h6 q1 q2⟩⟩
theorem qq:Ba P w K mg base 4 t.a31 t.d31 ["self"] (y7 t):=by
 refine T.g31.f.okA q0v λvs H Q E h=>⟨?_,λ_ _ _ _ hr=>⟨wj K t,(zd (zq q0v.nd (zN (Ku rfl) rfl T.q16 Xq (za (zy (pv 0) rfl) zf)))
  (zd (xB cF rfl (xg (pv 1)) (yh q0v.nd) (zd (zq q0v.nd (pmG (pv 0) T.q0k (Zv T) T.g30 hr zw (za (pv 2) zf)))
  (zd (zM (zo Ww (pv 3) xl (zA _)) (zg (zu (zl zbA (zZ (za (pv 2) zf)) (pv 3))))
    zD)
  (zg (zP (WR (zy (pv 0) rfl) (pv 2) ⟨rfl,rfl,rfl,rfl⟩))))))
  (zg (zu xl)))),kB (dkF T) h⟩⟩
 obtain⟨d,a,lb,n,f,wo,cs,ws,kv,la,db,en,g,lays,ld,CC,rfl,_⟩:=h;rfl
theorem Xb:Ba P w K mg base 1 t.a32 t.d32 ["ranks_at","place","rank"] (xx):=by
 refine T.g32.f.okA q1a λvs H Q E h=>⟨?_,λ_ _ _ _ hr=>⟨qi K t,(zd (zq q1a.nd (vC (yy hr) (pv 0) (pv 1) (λ_ _=>rfl)))
  (zd (zP (wA bN lW lX JA (pv 3) (za (pv 2) zf)))
  (zg (zM (zo (QB (zdA hr)) (pv 3) (yq zf) (zA _)) (zg (zP (zeg (yy hr) (pv 0) (pv 1) ⟨rfl,rfl,rfl,rfl⟩)))
    zD)))),VW h⟩⟩
 obtain⟨rk,pl,rank,G,P,kk,q0,rfl,_⟩:=h;rfl
theorem kD:Ba P w K mg base 2 t.a33 t.d33 ["self","rank"] (xz t):=by
 refine T.g33.f.okA q0w λvs H Q E h=>⟨?_,λ_ _ _ _ hr=>⟨ko K t,(zd (zq q0w.nd (WR (zy (pv 0) rfl) (pv 1) ⟨rfl,rfl,rfl,rfl⟩))
  (zd (zP (Qs (zy (pv 0) rfl) (pv 1) xl ⟨rfl,rfl,rfl,rfl⟩))
  (zd (xB cF rfl (xg (zt zS (pv 2) ze)) (zaJ rfl (jV (yh q0w.nd) (jV (yh q0w.nd) JW))) (zg (zP (pcG (Xb T) T.g32 hr zw (za (zy (pv 0) rfl) (za (pv 3) (za (pv 1) zf)))))))
  (zg (zu (pv 2)))))),Y6 (dkF T) h⟩⟩
 obtain⟨d,a,lb,n,f,wo,cs,ws,kv,la,db,en,g,lays,ld,CC,rank,s,gi,rfl,_⟩:=h;rfl
theorem Xc:Ba P w K mg base 1 t.a34 t.d34 ["self","ranks"] (ju t):=by
 refine T.g34.f.okA YS λvs H Q E h=>?_
 obtain⟨x,l,ws,rfl,h1,h2,q⟩:=h
 exact⟨rfl,λ_ _ _ _ hr=>⟨jz K t,(zg (zu (zt zF (pv 1) (zf8 zc8 ze)))),Yu  h1 h2 q⟩⟩
theorem Xd:Ba P w K mg base 1 t.a35 t.d35 ["self","ranks"] (jv t):=by
 refine T.g35.f.okA q1b λvs H Q E h=>?_
 obtain⟨x,l,dw,ws,k,rfl,h1,h2,h3,q⟩:=h
 exact⟨rfl,λ_ _ _ _ hr=>⟨jA K t,(zd (zq q1b.nd (zl zR (zy (pv 0) rfl) (zN z6 rfl T.q04 yI (za (pv 1) zf))))
  (zd (zcn (f:="times") (pv 0) ze J1)
  (zg (zu (zt zF (pv 1) (pv 2)))))),Yv (dkF T) h1 h2 h3 q⟩⟩
theorem V9:Ba P w K mg base 1 t.a36 t.d36 ["self","ranks"] (ZO t):=by
 refine T.g36.f.okA VL λvs H Q E h=>?_
 obtain⟨x,l,ws,rfl,h1,h2,q⟩:=h
 exact⟨rfl,λ_ _ _ _ hr=>⟨ZY K t,(zg (zu (zt zF (pv 1) ze))),Vv  h1 h2 q⟩⟩
theorem zaG:Ba P w K mg base 1 t.a37 t.d37 ["self","code"] (X1 t):=by
 refine T.q1t.ok0 Q9 (λvs H Q E h=>?_) (λcdv A outer s H vs Q E hr h=>?_)
 ·obtain⟨x,l,dx,xs,C,rfl,_⟩:=h;rfl
 obtain⟨x,l,dx,xs,C,rfl,h1,h2,h3,q⟩:=h
 exact⟨Zj K t,(zd (yj (f:="code") (pv 0) (yT xu rfl T.q0f jj (za (pv 1) zf)) rfl)
  (zd (yj (f:="at") (pv 0) ze rfl)
  (zd (yj (f:="why") (pv 0) xl rfl)
  (zd (yj (f:="slots") (pv 0) qH rfl)
  (zd (yj (f:="gifts") (pv 0) j5 rfl)
  (zd (yj (f:="notes") (pv 0) j5 rfl)
  (zg (yj (f:="sayings") (pv 0) (yq zf) rfl)))))))),V3 (rnF T) h1 h2 h3 q⟩
theorem XS:Ba P w K mg base 3 t.a38 t.d38 ["self","hand"] (wO t):=by
 refine T.g38.f.okA q1c λvs H Q E h=>⟨?_,λ_ _ _ _ hr=>⟨kq K t,(zd (zq q1c.nd (zem (zy (pv 0) rfl) (Kt (zel T.q29 T.g34.me (FnOk.mono (Xc T) (by lia)) hr T.g34.b) (Kt (zel T.q1l T.g35.me (FnOk.mono (Xd T) (by lia)) hr T.g35.b) (Kt (zel T.q2q T.g36.me (FnOk.mono (V9 T) (by lia)) hr T.g36.b) zgX))) zw (za (yT xu rfl T.q0f jj (za (zy (pv 0) rfl) zf)) zf)))
  (zd (zP (wA bN lW lX JA (zy (pv 0) rfl) (za (pv 2) zf)))
  (zd (wR (yy hr) (zy (pv 0) rfl) (pv 1) (zZ (za (pv 2) (za (Zx T.mk_Run (FnOk.mono (zaG T) (by lia)) hr rfl T.g_Run T.q1u .nil zw (za (zt zF (zy (pv 0) rfl) (zl vP (pv 2) (zy (pv 0) rfl))) zf)) zf))) rfl)
  (zg (zu (zZ (za zE (za (pv 1) (za (pv 2) zf))))))))),Y8 (dkF T) h⟩⟩
 obtain⟨d,a,lb,n,f,h,g,CC,S,rfl,_⟩:=h;rfl
theorem Yx:Ba P w K mg base 5 t.a39 t.d39 ["self","hand"] (xK t):=by
 refine T.g39.f.okA q10 λvs H Q E h=>⟨?_,λ_ _ _ _ hr=>⟨v9 K t,(zd (zq q10.nd (YO (pv 0) T.q0a (vq T) T.g12 hr zw))
  (zd (zq q10.nd (YO (zy (pv 0) rfl) T.q0k (qq T) T.g31 hr zw))
  (zd (zM (PW.pt (WI (zo (WB (yy hr)) (pv 2) (zy (zy (pv 0) rfl) rfl) (by with_unfolding_all rfl)) (YD (PW.pt (vN (zo zaN (pv 3) xl (zA _)) (vM (zo qG (zt zS (pv 3) ze) (pv 2) (zA _)))))))) (zd (zP (wA bN cu cw yM (zy (pv 0) rfl) (za (pmG (zy (pv 0) rfl) T.q0k (kD T) T.g33 hr zw (za (pv 2) zf)) zf)))
  (zg (zu (zZ (za zE (za (pv 1) (za (pv 2) zf)))))))
   zD)
  (zd (zM (zo Ww (pv 3) xl (zA _)) (zd (zP (pmG (zy (pv 0) rfl) T.q0k (kD T) T.g33 hr zw (za (zt zS (pv 3) ze) zf)))
  (zd (zP (wA bN lY lZ Jz (zy (pv 0) rfl) (za (pcG (xb T) T.g24 hr zw (za (zy (pv 0) rfl) (za (zt zS (pv 3) ze) zf))) (za (zt zS (pv 3) ze) zf))))
  (zg (zu (zl zbA (zZ (za zE (za (pv 1) zf))) (pv 3))))))
   zD)
  (zd (zM (zo (zeb (zdA hr)) (zy (pv 0) rfl) (yq zf) (zA _)) (zg (zu (pmG (pv 0) T.q0a (XS T) T.g38 hr zw (za (pv 1) zf))))
    zD)
  (zg (zu (zZ (za zE (za (pv 1) zf)))))))))),ZK (dkF T) h⟩⟩
 obtain⟨d,a,lb,n,f,h,g,CC,S,rfl,_⟩:=h;rfl
theorem xQ:Ba P w K mg base 1 t.a40 t.d40 ["self","rank"] (yo t):=by
 refine T.g40.f.okA Yk λvs H Q E h=>⟨?_,λ_ _ _ _ hr=>⟨xM K t,(zg (zu (yT (W8 rfl) rfl T.q0f jj (za (j6 (yy hr) (zy (pv 0) rfl) (pv 1) j5 ⟨rfl,rfl,rfl,rfl⟩) zf)))),ZI (mkF T) h⟩⟩
 obtain⟨m,rank,F,g,lays,low,rfl,_⟩:=h;rfl
theorem Yy:Ba P w K mg base 2 t.a41 t.d41 ["self","rank"] (y6 t):=by
 refine T.g41.f.okA q11 λvs H Q E h=>⟨?_,λ_ _ _ _ hr=>⟨xN K t,(zd (zq q11.nd (pmG (pv 0) T.q0b (xQ T) T.g40 hr zw (za (pv 1) zf)))
  (zd (zP (Qs (zy (pv 0) rfl) (pv 1) xl ⟨rfl,rfl,rfl,rfl⟩))
  (zg (xB cF rfl (xg (pv 2)) (yh q11.nd) (zg (zP (pcG (Xb T) T.g32 hr zw (za (zy (pv 0) rfl) (za (pv 3) (za (pv 1) zf)))))))))),ZJ (mkF T) h⟩⟩
 obtain⟨m,rank,F,g,lays,low,rfl,_⟩:=h;rfl
theorem X9:Ba P w K mg base 2 t.a42 t.d42 ["ranks_at","place","rank"] (wY):=by
 refine T.g42.f.okA q1d λvs H Q E h=>⟨?_,λ_ _ _ _ hr=>⟨X6 K t,(zd (zq q1d.nd (zeh (yy hr) (pv 0) (pv 1) (yq zf) ⟨rfl,rfl,rfl,rfl⟩))
  (zg (zP (wA bN lY lZ Jz (pv 3) (za (pcG (xb T) T.g24 hr zw (za (pv 3) (za (pv 2) zf))) (za (pv 2) zf)))))),K0 h⟩⟩
 obtain⟨rk,pl,rank,G,P,kk,q0,rfl,_⟩:=h;rfl
theorem K7:Ba P w K mg base 3 t.a43 t.d43 ["self","rank","gifts"] (YU t):=by
 refine T.g43.f.okA q12 λvs H Q E h=>?_
 obtain⟨m,rank,gv,F,g,lays,gs,rfl,h1,h2,h3,h4,h5,h6,q⟩:=h
 exact⟨rfl,λ_ _ _ _ hr=>⟨vJ K t,(zd (zP (pmG (pv 0) T.q0b (jf T) T.g23 hr zw (za (pv 1) zf)))
  (zd (zP (pmG (pv 0) T.q0b (Yy T) T.g41 hr zw (za (pv 1) zf)))
  (zd (zq q12.nd (yT (qu rfl (hu3 hr)) rfl T.q1j zbI (za (pv 2) zf)))
  (zd (zgQ (xB cF rfl (zdP (pv 3)) (yh q12.nd) (zg (zP (pcG (X9 T) T.g42 hr zw (za (zy (pv 0) rfl) (za (pv 4) (za (pv 1) zf))))))))
  (zg (wR (yy hr) (zy (pv 0) rfl) (pv 1) (pv 3) rfl)))))),VX (mkF T) h1 h2 h3 h4 h5 h6 q⟩⟩
theorem ZL:Ba P w K mg base 2 t.a44 t.d44 ["self","place","rank"] (xD t):=by
 refine T.g44.f.okA q13 λvs H Q E h=>⟨?_,λ_ _ _ _ hr=>⟨vz K t,(zd (zq q13.nd (j6 (yy hr) (zy (pv 0) rfl) (pv 1) (yq zf) ⟨rfl,rfl,rfl,rfl⟩))
  (zd (zq q13.nd (pcG (xb T) T.g24 hr zw (za (pv 3) (za (zl zX (pv 2) ze) zf))))
  (zg (zu (vO (zo yb (pv 4) (zN z6 rfl T.q04 yI (za (pv 3) zf)) (zA _)) xl (zt zF (pv 3) (pv 4))))))),Zt (mkF T) h⟩⟩
 obtain⟨m,p,rank,F,g,lays,q0,rfl,_⟩:=h;rfl
theorem Ja:Ba P w K mg base 3 t.a45 t.d45 ["self","place","rank"] (jP t):=by
 refine T.g45.f.okA q0q λvs H Q E h=>⟨?_,λ_ _ _ _ hr=>⟨ZZ K t,(zd (zq q0q.nd (j6 (yy hr) (zy (pv 0) rfl) (pv 1) (yq zf) ⟨rfl,rfl,rfl,rfl⟩))
  (zd (zq q0q.nd (pmG (zy (pv 0) rfl) T.q0b (ZL T) T.g44 hr zw (za (pv 1) (za (pv 2) zf))))
  (zd (zq q0q.nd (vO (zo zaN (pv 4) xl (zA _)) (zN z6 rfl T.q04 yI (za (pv 3) zf)) (pcG (xb T) T.g24 hr zw (za (pv 3) (za (zl zX (pv 4) ze) zf)))))
  (zg (xB cF rfl (xg (xm vB (pv 3) (yZ (pcG (xb T) T.g24 hr zw (za (pv 3) (za (zl zX (pv 2) ze) zf)))) (yZ (pv 5)))) (yh q0q.nd) (zg (wR (yy hr) (zy (pv 0) rfl) (pv 6) (YC (b:=af)) rfl))))))),Vu (dkF T) h⟩⟩
 obtain⟨d,a,lb,n,f,wo,cs,ws,kv,la,db,en,g,lays,ld,CC,p,rank,q0,rfl,_⟩:=h;rfl
theorem XT:Ba P w K mg base 4 t.a46 t.d46 ["self","rank","paper"] (wN t):=by
 refine T.g46.f.okA q0r λvs H Q E h=>⟨?_,λ_ _ _ _ hr=>⟨kt K t,(zd (zq q0r.nd (pmG (zy (pv 0) rfl) T.q0b (xQ T) T.g40 hr zw (za (pv 1) zf)))
  (zd (zP (pmG (zy (pv 0) rfl) T.q0b (K7 T) T.g43 hr zw (za (pv 1) (za (zt zS (pv 2) ze) zf))))
  (zd (xB cF rfl (xg (zl kI (pv 3) (pmG (zy (pv 0) rfl) T.q0b (xQ T) T.g40 hr zw (za (pv 1) zf)))) (yh q0r.nd) (zg (zP (pmG (pv 0) T.q0k (Ja T) T.g45 hr zw (za (pv 4) (za (pv 1) zf))))))
  (zd (wR (yy hr) (zy (pv 0) rfl) (pv 1) (pv 2) rfl)
  (zd (wR (yy hr) (zy (pv 0) rfl) (pv 1) (YC (b:=af)) rfl)
  (zg (xB cF rfl (xg (zt zS (pv 2) ze)) (zaJ rfl (jV (yh q0r.nd) (jV (yh q0r.nd) JW))) (zg (zP (pcG (X9 T) T.g42 hr zw (za (zy (pv 0) rfl) (za (pv 4) (za (pv 1) zf))))))))))))),Y7 (dkF T) h⟩⟩
 obtain⟨d,a,lb,n,f,wo,cs,ws,kv,la,db,en,g,lays,ld,CC,r,rank,s,gi,rfl,_⟩:=h;rfl
theorem K8:Ba P w K mg base 2 t.a47 t.d47 ["self"] (k9 t):=by
 refine T.g47.f.okA q1e λvs H Q E h=>⟨?_,λ_ _ _ _ hr=>⟨qj K t,(zd (zM (Z3 (vL (YO (pv 0) T.q06 (jF T) T.g14 hr zw))) (zg (zu xl))
   zD)
  (zd (zq q1e.nd (yT (Wd rfl) rfl T.q0f jj (za (QQ (zy (pv 0) rfl)) zf)))
  (zd (zM (zo Ww (zy (pv 0) rfl) xl (zA _)) (zg (zu (zZ (za (zZ (za zE (za (zy (pv 0) rfl) zf))) (za (pv 1) (za (yq zf) zf))))))
    zD)
  (zg (zu (zZ (za (zZ (za zE (za (yT VG rfl T.b_tuple Qw (za (zy (pv 0) rfl) zf)) zf))) (za (pv 1) (za (zN (YN rfl (hu3 hr)) rfl T.q16 Xq (za (QQ (zy (pv 0) rfl)) zf)) zf))))))))),VV (rnF T) h⟩⟩
 obtain⟨x,a,C,s,rfl,_⟩:=h;rfl
theorem Xe:Ba P w K mg base 10 t.a48 t.d48 ["self","hand"] (we t):=by
 refine T.g48.f.okA q0s λvs H Q E h=>⟨?_,λ_ _ _ _ hr=>⟨YW K t,(zd (zM (PW.pt (vN (zo wT (pv 1) ze (zA _)) (vM (zo zf9 (pv 1) (zy (pv 0) rfl) (zA _))))) (zg Qg)
   zD)
  (zd (zM (zo (W2 (yy hr)) (pv 1) (zy (pv 0) rfl) (by with_unfolding_all rfl)) (zg (zu (pmG (pv 0) T.q0a (Yx T) T.g39 hr zw (za (pv 1) zf))))
    zD)
  (zd (zq q0s.nd (zt zS (vC (yy hr) (zy (pv 0) rfl) (pv 1) (λ_ _=>rfl)) ze))
  (zd (zq q0s.nd (zt zS (vC (yy hr) (zy (pv 0) rfl) (pv 1) (λ_ _=>rfl)) ze))
  (zd (zM (vL (YO (pv 3) T.q06 (jF T) T.g14 hr zw)) (zd (zP (WR (zy (pv 0) rfl) (pv 1) ⟨rfl,rfl,rfl,rfl⟩))
  (zd (zP (pmG (zy (pv 0) rfl) T.q0k (XT T) T.g46 hr zw (za (pv 2) (za (YO (pv 3) T.q06 (K8 T) T.g47 hr zw) zf))))
  (zg (zu (zZ (za zE (za (pv 1) (za (pv 2) zf))))))))
   zD)
  (zd (zq q0s.nd (YO (pv 3) T.q06 (zaE T) T.g22 hr zw))
  (zd (zM (zo zaN (pv 4) xl (zA _)) (zd (zP (zcJ (pv 3) T.q06 T.me_Run_step (FnOk.mono (X8 T) (by lia)) hr T.bd_Run_step zw))
  (zg (zu (zZ (za zE (za (pv 1) (za (pv 2) zf)))))))
   zD)
  (zd (zq q0s.nd (pmG (zy (pv 0) rfl) T.q0b (Z2 T) T.g25 hr zw (za (pv 4) (za (pv 2) zf))))
  (zd (zP (zbz (pv 3) T.q06 T.me_Run_step (FnOk.mono (X8 T) (by lia)) hr T.q1s .nil zw (za (pv 5) zf)))
  (zg (zu (zZ (za zE (za (pv 1) (za (pv 2) (za (pv 4) (za (pv 5) zf))))))))))))))))),V2 (dkF T) h⟩⟩
 obtain⟨d,a,lb,n,f,h,g,CC,S,rfl,_⟩:=h;rfl
theorem Zw:Ba P w K mg base 11 t.a49 t.d49 ["self"] (xq t):=by
 refine T.g49.f.okA q1f λvs H Q E h=>⟨?_,λ_ _ _ _ hr=>⟨Zp K t,(zd (zq q1f.nd (yq zf))
  (zd (Qh cF (zo wT (YO (pv 0) T.q0a (vq T) T.g12 hr zw) (YO (pv 0) T.q0a (jE T) T.g13 hr zw) (zA _)) (zg (zP (wA bN cu cw yM (pv 1) (za (pmG (pv 0) T.q0a (Xe T) T.g48 hr zw (za (zl zR (zN z6 rfl T.q04 yI (za (pv 1) zf)) (zy (pv 0) rfl)) zf)) zf)))))
  (zg (zu (pv 1))))),Wt (dkF T) h⟩⟩
 obtain⟨d,a,lb,n,f,g,CC,S,J,rfl,_⟩:=h;rfl
theorem Wa:Ba P w K mg base 2 t.a50 t.d50 ["self","code"] (jt t):=by
 refine T.g50.f.okA q1g λvs H Q E h=>⟨?_,λ_ _ _ _ hr=>⟨X7 K t,(zd (zq q1g.nd (YO (pv 0) T.q0a (jE T) T.g13 hr zw))
  (zd (zP (wA bN cu cw yM (zy (pv 0) rfl) (za (yT xu rfl T.q0f jj (za (pv 1) zf)) zf)))
  (zd (zP (wA bN cu cw yM (zy (pv 0) rfl) (za (pv 2) zf)))
  (zg (zu (pv 2)))))),KQ (dkF T) h⟩⟩
 obtain⟨d,v,a,lb,n,f,g,CC,C,S,rfl,_⟩:=h;rfl
theorem Jb:Ba P w K mg base 1 t.a51 t.d51 ["found"] (ZP):=by
 refine T.g51.f.okA VM λvs H Q E h=>?_
 obtain⟨i,rfl,q⟩:=h
 exact⟨rfl,λ_ _ _ _ hr=>⟨Z0 K t,(zg (zu (zc3 (zN vT rfl T.q0j yR (za (pv 0) (za (kE rfl T.b_int zdp rfl) zf))) (zaI (zgx (zN vT rfl T.q0j yR (za (pv 0) (za (kE rfl T.q1i zbH rfl) zf)))))))),Vz  q⟩⟩
theorem Wu:Ba P w K mg base 2 t.a52 t.d52 ["rows","first","many"] (vj):=by
 refine T.g52.f.okA q0c λvs H Q E h=>⟨?_,λ_ _ _ _ hr=>⟨vp K t,(zd (vS (j:=3) q0c.nd rfl rfl (gU rfl) (osc:=zj yK) (N:=["rows","first","many","takes","lays","agains","settled","row","rank"]) (xs:=["k"]) (ix:=[]) (by lia) (xR rfl T.q0g (za (pv 2) zf)) (λ_ _ _ _=>(vA (i:=0) (show gc (["k"]:List Str) from (by lia)) rfl (gU rfl) (.inr rfl))) (λ_ _ _ _=>ji) (λ_ _ _ _=>ze))
  (zd (vS (j:=4) q0c.nd rfl rfl (gU rfl) (osc:=zj yK) (N:=["rows","first","many","takes","lays","agains","settled","row","rank"]) (xs:=["k"]) (ix:=[]) (by lia) (xR rfl T.q0g (za (pv 2) zf)) (λ_ _ _ _=>(vA (i:=0) (show gc (["k"]:List Str) from (by lia)) rfl (gU rfl) (.inr rfl))) (λ_ _ _ _=>ji) (λ_ _ _ _=>ze))
  (zd (vS (j:=5) q0c.nd rfl rfl (gU rfl) (osc:=zj yK) (N:=["rows","first","many","takes","lays","agains","settled","row","rank"]) (xs:=["k"]) (ix:=[]) (by lia) (xR rfl T.q0g (za (pv 2) zf)) (λ_ _ _ _=>(vA (i:=0) (show gc (["k"]:List Str) from (by lia)) rfl (gU rfl) (.inr rfl))) (λ_ _ _ _=>ji) (λ_ _ _ _=>ze))
  (zd (zq q0c.nd (yq zf))
  (zd (xB cF rfl (xg (pv 0)) (yh q0c.nd) (zd (zM (PW.pt (vN (Z3 (vL (zN vT rfl T.q0j yR (za (pv 7) (za (kE rfl T.b_tuple Qw rfl) zf))))) (vN (zo wT (zN z6 rfl T.q04 yI (za (pv 7) zf)) ze (zA _)) (vM (Z3 (vL (zN vT rfl T.q0j yR (za (zt zS (pv 7) ze) (za (kE rfl T.q1k zdo rfl) zf))))))))) (zg (zu (YC (b:=ak))))
    zD)
  (zd (zM (PW.pt (vN (zo yb (zt zS (pv 7) ze) zE (zA _)) (vN (zo yb (zt zS (pv 7) ze) zE (zA _)) (vM (zo yb (zt zS (pv 7) ze) zE (zA _)))))) (zg Qf)
    zD)
  (zd (zM (PW.pt (vN (zo wT (zN z6 rfl T.q04 yI (za (pv 7) zf)) ze (zA _)) (vN (Z3 (vL (pcG (Jb T) T.g51 hr zw (za (zt zS (pv 7) ze) zf)))) (vM (Z3 (zdc zda wT ze (zl vP (zt zS (pv 7) ze) (pv 1)) (pv 2))))))) (zg (zu (YC (b:=ak))))
    zD)
  (zd (zq q0c.nd (zl vP (zt zS (pv 7) ze) (pv 1)))
  (zg (zM (zo yb (zt zS (pv 7) ze) zE (zA _)) (zd (zM (PW.pt (vN (zo zhq (zt zF (pv 3) (pv 8)) (zN (zcG rfl) rfl T.q1y zgJ (za (xm vB (pv 4) kH (yZ (pv 8))) zf)) (zA _)) (vM (zo qG (zt zF (pv 3) (pv 8)) (zt zF (pv 5) (pv 8)) (zA _))))) (zg (zu (YC (b:=ak))))
    zD)
  (zg (Kv (pv 3) (pv 8) ze J1 (λ_ _ _=>rfl))))
   (zg (zM (zo yb (zt zS (pv 7) ze) zE (zA _)) (zd (Kv (pv 4) (pv 8) ze J1 (λ_ _ _=>rfl))
  (zg (zM (zo qG (zt zF (pv 4) (pv 8)) (zt zF (pv 3) (pv 8)) (zA _)) (zg (zu (YC (b:=ak))))
    zD)))
    (zg (zM (zo yb (zt zS (pv 7) ze) zE (zA _)) (zd (Kv (pv 5) (pv 8) ze J1 (λ_ _ _=>rfl))
  (zg (zM (PW.pt (vN (zo qG (zt zF (pv 5) (pv 8)) (zt zF (pv 4) (pv 8)) (zA _)) (vN (zo qG (zN z6 rfl T.q04 yI (za (pv 7) zf)) ze (zA _)) (vM (zo yb (zt zS (pv 7) ze) (zt zS (pv 7) ze) (zA _)))))) (zg (zu (YC (b:=ak))))
    zD)))
    (zg (zP (wA bN cu cw yM (pv 6) (za (pv 8) zf)))))))))))))))
  (zd (xB cF rfl (xR rfl T.q0g (za (pv 2) zf)) (yh q0c.nd) (zg (zM (PW.pt (vN (zo qG (zt zF (pv 4) (pv 8)) (zl zX (zt zF (pv 5) (pv 8)) ze) (zA _)) (vM (zo qG (zt zF (pv 3) (pv 8)) (zt zF (pv 4) (pv 8)) (zA _))))) (zg (zu (YC (b:=ak))))
    zD)))
  (zg (zu (Wx (zdC (zdA hr)) (pv 6) (Kc rfl (osc:=zj yK) (N:=["rows","first","many","takes","lays","agains","settled","row","rank"]) (xs:=["rank"]) (ix:=[]) (by lia) (xR rfl T.q0g (za (pv 2) zf)) (λ_ _ _ _=>(vA (i:=0) (show gc (["rank"]:List Str) from (by lia)) rfl (gU rfl) (.inr rfl))) (λ_ _ _ _=>ji) (λ_ _ _ _=>(pv 0))) (zA _)))))))))),XR h⟩⟩
 obtain⟨l,f,many,xs,es,c,rfl,_⟩:=h;rfl
theorem K9:Ba P w K mg base 2 t.a53 t.d53 ["number","slots"] (qb):=by
 refine T.g53.f.okA q1h λvs H Q E h=>⟨?_,λ_ _ _ _ hr=>⟨qk K t,(zd (zq q1h.nd (zl zR (pv 0) ze))
  (zd (zM (zo wT (pv 2) ze (zA _)) (zg (zu (zZ (za (zl zR (zl zV (pv 0) ze) ze) zf))))
    zD)
  (zd (zM (zo yb (pv 2) ze (zA _)) (zg (zu (zZ (za (zt zF (pv 1) (zl zR (zl zV (pv 0) ze) ze)) zf))))
    zD)
  (zd (zM (PW.pt (WI (zo yb (pv 2) ze (zA _)) (YD (zo yb (zl zR (zl zV (pv 0) ze) ze) ze (zA _))))) (zg (zu (zZ (za ze (za (zt zF (pv 1) (zl zR (zl zV (pv 0) ze) ze)) (za zE zf))))))
    zD)
  (zd (zM (zo yb (pv 2) ze (zA _)) (zg (zu (zZ (za (zt zF (pv 1) (zl zR (zl zV (pv 0) ze) ze)) (za ze (za zE zf))))))
    zD)
  (zg (zu (zZ (za (pcG (wz T) T.g3 hr zw (za (zl zV (pv 0) ze) zf)) zf))))))))),VY h⟩⟩
 obtain⟨n,a,ws,rfl,_⟩:=h;rfl
theorem Xf:Ba P w K mg base 2 t.a54 t.d54 ["number","slots"] (vI):=by
 refine T.g54.f.okA q14 λvs H Q E h=>⟨?_,λ_ _ _ _ hr=>⟨ql K t,(zd (zq q14.nd (yq (za zE (za zE (za zE (za zE (za zE (za zE (za zE zf)))))))))
  (zd (zq q14.nd (zl zR (pv 0) ze))
  (zd (zM (zo yb (pv 3) ze (zA _)) (zg (zu (zZ (za (pcG (wz T) T.g3 hr zw (za (zl zV (pv 0) ze) zf)) zf))))
    zD)
  (zd (zM (zo yb (pv 3) ze (zA _)) (zg (zu (zZ (za (zt zF (pv 1) (zl zR (zl zV (pv 0) ze) ze)) zf))))
    zD)
  (zd (zM (zo yb (zl zR (zl zV (pv 0) ze) ze) ze (zA _)) (zg (zu (zZ (za (zt zF (pv 1) (zl zR (zl zV (pv 0) ze) ze)) (za (pcG (wz T) T.g3 hr zw (za (zl zV (pv 0) ze) zf)) (za (zt zF (pv 2) (zl vP (pv 3) ze)) zf))))))
    zD)
  (zg (zu (zZ (za (zt zF (pv 1) (zl zR (zl zV (pv 0) ze) ze)) (za (zt zF (pv 1) (zl zR (zl zV (pv 0) ze) ze)) (za (zt zF (pv 2) (zl vP (pv 3) ze)) zf))))))))))),VZ h⟩⟩
 obtain⟨n,a,ws,rfl,_⟩:=h;rfl
theorem zaH:Ba P w K mg base 3 t.a55 t.d55 ["xs","shelves","slots"] (Zd):=by
 refine T.g55.f.okA q0n λvs H Q E h=>⟨?_,λ_ _ _ _ hr=>⟨Zq K t,(zd (zq q0n.nd (zl zR (zt zF (pv 0) ze) ze))
  (zd (zq q0n.nd (zt zF (pv 1) (zl zR (zl zV (zt zF (pv 0) ze) ze) ze)))
  (zd (zq q0n.nd (zt zF (pv 2) (zl zR (zl zV (zt zF (pv 0) ze) ze) ze)))
  (zd (zq q0n.nd (pcG (K9 T) T.g53 hr zw (za (zt zF (pv 0) ze) (za (pv 2) zf))))
  (zd (zq q0n.nd (pcG (Xf T) T.g54 hr zw (za (zt zF (pv 0) ze) (za (pv 2) zf))))
  (zd (zM (zo wT (pv 3) ze (zA _)) (zg (zu (zZ (za zE (za (pv 4) (za (pv 6) (za (pv 5) zf)))))))
    zD)
  (zd (zM (zo wT (pv 3) ze (zA _)) (zg (zu (zZ (za zE (za (pv 4) (za (pv 6) (za (pv 7) zf)))))))
    zD)
  (zd (zM (zo yb (pv 3) ze (zA _)) (zg (zu (zZ (za zE (za (pv 5) (za (pv 7) zf))))))
    zD)
  (zd (zM (zo yb (pv 3) ze (zA _)) (zg (zu (zZ (za zE (za (pv 7) zf)))))
    zD)
  (zg (zu (zZ (za zE (za (zZ (za (pv 5) (za (zl zX (zl zR (zt zF (pv 0) ze) ze) ze) (za zE zf)))) zf)))))))))))))),KP h⟩⟩
 obtain⟨p,a,b,ds,us,ws,rfl,_⟩:=h;rfl
theorem Qa:Ba P w K mg base 4 t.a56 t.d56 ["cell","shelves","slots"] (qc):=by
 refine T.g56.f.okA q0i λvs H Q E h=>⟨?_,λ_ _ _ _ hr=>⟨YY K t,(zd (Xh (i:=3) q0i.nd rfl (oh rfl) (pcG (jU T) T.g1 hr zw (za (pv 0) (za ze zf))))
  (zd (vS (j:=4) q0i.nd rfl rfl (gU rfl) (osc:=zj jq) (N:=["cell","shelves","slots","xs","rows","at","to","row"]) (xs:=["k"]) (ix:=[3,1,2]) (by lia) (xR rfl T.q0g (za (zl zR (pv 0) ze) zf)) (λ_ _ _ _=>(vA (i:=0) (show gc (["k","xs","shelves","slots"]:List Str) from (by lia)) rfl (gU rfl) (.inr rfl))) (λ_ _ _ _=>ji) (λ_ _ _ _=>(pcG (zaH T) T.g55 hr zw (za (xm vB (pv 1) (yZ (zl wS ze (pv 0))) (yZ (zl zX (zl wS ze (pv 0)) ze))) (za (pv 2) (za (pv 3) zf))))))
  (zd (zM (zo yb (zl zR (zl zV (pv 0) ze) ze) ze (zA _)) (zd (zq q0i.nd (zl zR (zt zF (pv 3) ze) (zl zX (zN z6 rfl T.q04 yI (za (pv 4) zf)) ze)))
  (zd (zq q0i.nd (zl zX (pv 5) (zl zR (zt zF (pv 3) ze) (zl vP (zl zX (zN z6 rfl T.q04 yI (za (pv 4) zf)) ze) (pv 5)))))
  (zd (zq q0i.nd (zZ (za zE (za (pcG (Xf T) T.g54 hr zw (za (zt zF (pv 3) ze) (za (pv 2) zf))) (za (xm vB (pv 4) (yZ (pv 5)) (yZ (pv 6))) (za (xm vB (pv 4) kH (yZ (zl zR (zt zF (pv 3) ze) ze))) zf))))))
  (zg (zq q0i.nd (zl kI (zl kI (xm vB (pv 4) kH (yZ (pv 5))) (yq (za (pv 7) zf))) (xm vB (pv 4) (yZ (pv 6)) kH)))))))
   zD)
  (zg (zu (pv 4)))))),V1 h⟩⟩
 obtain⟨c,a,b,us,ws,rfl,_⟩:=h;rfl
theorem Wv:Ba P w K mg base 1 t.a57 t.d57 ["self"] (qx t):=by
 refine T.q1v.ok0 Wj (λvs H Q E h=>?_) (λcdv A outer s H vs Q E hr h=>?_)
 ·obtain⟨x,dx,rfl,_⟩:=h;rfl
 obtain⟨x,dx,rfl,h1,q⟩:=h
 exact⟨qB K t,(zg (yj (f:="times") (pv 0) ze rfl)),XN (dkF T) h1 q⟩
theorem ok_law:Ba P w K mg base 16 t.a58 t.d58 ["script"] (sp_law K):=by
 refine T.q1x.ok0 q07 (λvs H Q E h=>?_) (λcdv A outer s H vs Q E hr h=>?_)
 ·obtain⟨a,ns,rfl,_⟩:=h;rfl
 exact⟨zer K t,(zd (Xh (i:=1) q07.nd rfl (oh rfl) (pcG (Xa T) T.g2 hr zw (za (pcG (yw T) T.g8 hr zw (za (pv 0) (za ze zf))) zf)))
  (zd (Xh (i:=2) q07.nd rfl (oh rfl) (pcG (Xa T) T.g2 hr zw (za (pcG (yw T) T.g8 hr zw (za (pv 0) (za ze zf))) zf)))
  (zd (zq q07.nd (pcG (V6 T) T.g4 hr zw (za (zl zV (pcG (yw T) T.g8 hr zw (za (pv 0) (za ze zf))) ze) (za (pv 1) zf))))
  (zd (vS (j:=4) q07.nd rfl rfl (gU rfl) (osc:=zj Vb) (N:=["script","shelves","slots","table","codes","hands","kind","first","desk","early","added","rows","cell","code"]) (xs:=["cell"]) (ix:=[1,2]) (by lia) (xg (xm vB (pv 0) (yZ ze) (yZ ze))) (λ_ _ _ _=>(vA (i:=0) (show gc (["cell","shelves","slots"]:List Str) from (by lia)) rfl (gU rfl) (.inr rfl))) (λ_ _ _ _=>ji) (λ_ _ _ _=>(pcG (zbr T) T.g11 hr zw (za (pcG (Qa T) T.g56 hr zw (za (pv 0) (za (pv 1) (za (pv 2) zf)))) zf))))
  (zd (zq q07.nd (zl zX ze (zl zR (pcG (yw T) T.g8 hr zw (za (pv 0) (za ze zf))) ze)))
  (zd (zq q07.nd (zl zR (zl zV (pcG (yw T) T.g8 hr zw (za (pv 0) (za ze zf))) ze) ze))
  (zd (zq q07.nd (zl zR (zl zfC (zl zV (pcG (yw T) T.g8 hr zw (za (pv 0) (za ze zf))) ze) (zl Z5 ze ze)) (zl vP (zl Z5 ze ze) ze)))
  (zd (zq q07.nd (Zx T.mk_Desk (FnOk.mono (qp T) (by lia)) hr rfl T.g_Desk T.q15 .nil zw (za (yT xu rfl T.q0f jj (za (pv 3) zf)) (za (pv 5) (za (Q5 T.mo_Way rfl T.g_Way) (za (pv 7) zf))))))
  (zd (zM (zo yb (pv 6) ze (zA _)) (zg (zq q07.nd (Zx T.mk_Desk (FnOk.mono (qp T) (by lia)) hr rfl T.g_Desk T.q15 .nil zw (za (yT xu rfl T.q0f jj (za (pv 3) zf)) (za (pv 5) (za (Q5 T.mo_Highest rfl T.g_Highest) (za (pv 7) zf)))))))
    zD)
  (zd (zM (zo yb (pv 6) ze (zA _)) (zg (zq q07.nd (Zx T.mk_Desk (FnOk.mono (qp T) (by lia)) hr rfl T.g_Desk T.q15 .nil zw (za (yT xu rfl T.q0f jj (za (pv 3) zf)) (za (pv 5) (za (zdg T.mk_Turning (FnOk.mono (Wv T) (by lia)) hr rfl T.g_Turning T.q1w .nil zw) (za (pv 7) zf)))))))
    zD)
  (zd (zq q07.nd (zl zR (zl zV (pcG (yw T) T.g8 hr zw (za (pv 0) (za ze zf))) ze) (zl zX (zN z6 rfl T.q04 yI (za (pv 4) zf)) ze)))
  (zd (zq q07.nd ze)
  (zd (zq q07.nd (yq zf))
  (zd (xB cF rfl (xg (pv 0)) (yh q07.nd) (zd (zM (PW.pt (WI (zo wT (zl zR (pv 12) ze) ze (zA _)) (YD (zo wT (pv 10) (pv 9) (zA _))))) (zd (zP (pmG (pv 8) T.q0a (Wa T) T.g50 hr zw (za (zt zF (pv 4) (pv 10)) zf)))
  (zg (zgy (i:=10) q07.nd rfl (gU rfl) ze zgz)))
   zD)
  (zg (zP (wA bN cu cw yM (pv 11) (za (pmG (pv 8) T.q0a (Xe T) T.g48 hr zw (za (zl zR (zl zV (pv 12) ze) (pv 5)) zf)) zf))))))
  (zd (zq q07.nd (zl kI (pv 11) (YO (pv 8) T.q0a (Zw T) T.g49 hr zw)))
  (zd (xB cF rfl (xg (xm vB (pv 4) (yZ (pv 10)) kH)) (yh q07.nd) (zg (zP (pmG (pv 8) T.q0a (Wa T) T.g50 hr zw (za (pv 13) zf)))))
  (zd (zq q07.nd (zl kI (pv 11) (YO (pv 8) T.q0a (Zw T) T.g49 hr zw)))
  (zg (zu (zc3 (Wx yb (YO (pv 8) T.q0a (vq T) T.g12 hr zw) (zl zX (pv 7) (zN z6 rfl T.q04 yI (za (pv 4) zf))) (zA _)) (zaI (pcG (Wu T) T.g52 hr zw (za (pv 11) (za (pv 7) (za (zN z6 rfl T.q04 yI (za (pv 4) zf)) zf))))))))))))))))))))))))),zf4 (dkF T) h⟩
end
end K45
open PySem PySem.W PyProof.Rows
namespace PySem.W.Fast
def tw8524326382564966667:=Nat
def tw13029442831686006422:=Nat
def tw17658104620667334617:=Nat
def tw17019227205958886411:=Nat
def tw4030045041325706912:=Nat
def tw17341602890839035525:=Nat
def tw11220258400505156347:=Nat
def tw13162582350196154075:=Nat
def tw3426793493330670395:=Nat
def tw6418159837726572865:=Nat
def tw7710971823203752376:=Nat
def tw16088284437702144335:=Nat
def tw12535199990101139082:=Nat
def tw1153456701551397954:=Nat
def tw7287980571291833137:=Nat
def tw7588232380286480043:=Nat
def tw13086656231273491614:=Nat
def tw3668662406609677173:=Nat
def tw2204823555863020817:=Nat
def tw14612403675540664819:=Nat
def tw11696524534961320123:=Nat
def tw15634957613792169458:=Nat
def tw14372307158389884904:=Nat
def tw11366931466956388541:=Nat
def tw9289574772252491317:=Nat
def tw5035831556059763962:=Nat
def tw5321203400317024943:=Nat
def tw10550167784644228834:=Nat
def tw4690321393150861196:=Nat
def tw12799269289871649557:=Nat
def tw17831277783699383940:=Nat
def tw13989653845211913883:=Nat
def tw17138857768507913375:=Nat
def tw6655420710991152869:=Nat
def tw5427654805610171348:=Nat
def tw5605211093187568118:=Nat
def tw1374315319586011185:=Nat
def tw12710830149448467773:=Nat
def tw7767284991425779252:=Nat
def tw17266544050594049732:=Nat
def tw13916567305549565538:=Nat
def tw14263247513087292366:=Nat
def tw14827106132010591583:=Nat
def tw6324474849866661910:=Nat
def tw902113008915266880:=Nat
def tw12733293422785715455:=Nat
def tw11974226587419984465:=Nat
def tw5609968890309991943:=Nat
def tw5532342322820921692:=Nat
def tw12988086064151400088:=Nat
def tw16805070737990193781:=Nat
def tw1200730124885396907:=Nat
def tw5105511902317995272:=Nat
def tw4555149092173788139:=Nat
def tw3179359301025130144:=Nat
def tw4503197677886910166:=Nat
def tw13294300227796860059:=Nat
def tw7479279495695754060:=Nat
def tw16164856126173472509:=Nat
def tw8597879696760141649:=Nat
def tw3571354611343734393:=Nat
def tw15413833931105548297:=Nat
def tw14341602021230734041:=Nat
def tw7037265030709624971:=Nat
def tw4613330590595286368:=Nat
def tw1293795341682070272:=Nat
def tw6924514005250231726:=Nat
def tw7788627074782183347:=Nat
def tw3499596999495218474:=Nat
def tw5080659722629290543:=Nat
def tw17915482486278278152:=Nat
def tw15056970271603409752:=Nat
def tw6074900219988112865:=Nat
def tw13841639810731431465:=Nat
def tw5564308452729815608:=Nat
def tw4549436072893125540:=Nat
def tw17029228733834870198:=Nat
def tw16362956446741311041:=Nat
def tw10293921164545047374:=Nat
def tw13554604855394612621:=Nat
def tw11030398809342306359:=Nat
def tw4001056791529551383:=Nat
def tw2629351656513075421:=Nat
def tw7580994543986928301:=Nat
def tw8677564882893315639:=Nat
def tw1448272493094705453:=Nat
def tw107782972925501617:=Nat
def tw17868606708651537196:=Nat
def tw3948423220078501414:=Nat
def tw16908720769378472596:=Nat
def tw13799408667096274348:=Nat
def tw12551135273387999389:=Nat
def tw8827775692039825858:=Nat
def tw8311868289105572809:=Nat
def tw9718239110497400930:=Nat
def tw13671322951433036388:=Nat
def tw10749912827667340631:=Nat
def tw17368080216408409060:=Nat
def tw14201306751553024290:=Nat
def tw13026766003876323673:=Nat
def tw6927096155329947345:=Nat
def tw11340543920604001690:=Nat
def tw12719148981181299374:=Nat
def tw10818537334584626989:=Nat
def tw7166037362167746417:=Nat
def tw10614066603622258519:=Nat
def tw1776047832085322672:=Nat
def tw14149628780554946253:=Nat
def tw15830208051433042265:=Nat
def tw18130860724102368791:=Nat
def tw1495385450539700058:=Nat
def tw15143922525546880306:=Nat
def tw3106828097046273032:=Nat
def tw14130600934411956895:=Nat
def tw8463831724032064770:=Nat
def tw12796993409260725432:=Nat
def tw4350932856896132334:=Nat
def tw14810551572381414756:=Nat
def tw12238097422734174213:=Nat
def tw13527008364889132966:=Nat
def tw8985736573027378000:=Nat
def tw9749800839395145115:=Nat
def tw13661981105158875552:=Nat
def tw11967735467884382507:=Nat
def tw13086068681582235958:=Nat
def tw5076318199753707862:=Nat
def tw16135188363903181677:=Nat
def tw15565377110294999134:=Nat
def tw12033522499008356720:=Nat
def tw4554637615801159553:=Nat
def tw6327368139957912946:=Nat
def tw11043504716462491504:=Nat
def tw6218697084845226403:=Nat
def tw5882270909104951187:=Nat
def tw16431589963228901343:=Nat
def tw1564815296838262434:=Nat
def tw16632265215101747179:=Nat
def tw17278209186216836500:=Nat
def tw2270105526355745764:=Nat
def tw13335808058605190356:=Nat
def tw5743454624239499646:=Nat
def tw12577661179514316311:=Nat
def tw13566807705713631019:=Nat
def tw13517998357525929515:=Nat
def tw4028214128507833092:=Nat
def tw6100895254938355039:=Nat
def tw16699609148014371335:=Nat
def tw12317018371855404639:=Nat
def tw7912397613169856141:=Nat
def tw6115554789683537506:=Nat
def tw14101062821560810282:=Nat
def tw2783553229979486077:=Nat
def tw8798873041023949853:=Nat
def tw9729363204195663453:=Nat
def tw17852722219467924003:=Nat
def tw10625572379532775742:=Nat
def tw17128344114621929312:=Nat
def tw17332968603611234227:=Nat
def tw11001712044288465957:=Nat
def tw5968221538361331196:=Nat
def tw982152001505077598:=Nat
def tw14804608211961188705:=Nat
def tw7588591639893342808:=Nat
def tw13443944076775824235:=Nat
def tw15195330037178782637:=Nat
def tw15473420676951244695:=Nat
def tw7907872983174450357:=Nat
def tw13858162239340023611:=Nat
def tw3900764144719986620:=Nat
def tw16849599493288496966:=Nat
def tw9914298873397027862:=Nat
def tw2749225145094214502:=Nat
def tw2312853785280330828:=Nat
def tw1309049110903183080:=Nat
def tw10386834342163612958:=Nat
def tw3941490381541037718:=Nat
def tw12505136319346711850:=Nat
def tw12173966040352915452:=Nat
def tw4305195044319362744:=Nat
def tw6860457064562421667:=Nat
def tw17457527312993886120:=Nat
def tw16847423895403072215:=Nat
def tw2550159201147409206:=Nat
def tw9996213135590449151:=Nat
def tw2256631261654873819:=Nat
def tw2291466132118997741:=Nat
def tw3766823568082308898:=Nat
def tw2824106409050919286:=Nat
def tw18384323531340607367:=Nat
def tw4609232249569067915:=Nat
def tw13129665747860016639:=Nat
def tw120188328857099206:=Nat
def tw7883832951438122074:=Nat
def tw1067354353981642253:=Nat
def tw3480740778463698982:=Nat
def tw193763086417301370:=Nat
def tw4485827967626496378:=Nat
def tw8125134035536615181:=Nat
def tw15370350135881041267:=Nat
def tw16492106760925358021:=Nat
def tw3118511606134053315:=Nat
def tw10246038546886922795:=Nat
def tw8773011891680739035:=Nat
def tw11945159311793130030:=Nat
def tw12767174388621231797:=Nat
def tw13526416187139477465:=Nat
def tw5803948960642965611:=Nat
def tw3839982421148473604:=Nat
def tw15526835816613165573:=Nat
def tw11516252981038751074:=Nat
def tw4279899419797328484:=Nat
def tw14934447916088469224:=Nat
def tw17029417001184436802:=Nat
def tw8221570254806528482:=Nat
def tw18266812944481620248:=Nat
def tw943392622823671979:=Nat
def tw13191198311562423051:=Nat
def tw17148254187150033057:=Nat
def tw437890812125149496:=Nat
def tw8511082418540242870:=Nat
def tw1575419335056379092:=Nat
def tw16586680875817547619:=Nat
def tw4748346097609388296:=Nat
def tw12264263912931208435:=Nat
def tw7837626661340661301:=Nat
def tw254488552784627197:=Nat
def tw4720376389697831958:=Nat
def tw7112938506162184780:=Nat
def tw5023744803065024507:=Nat
def tw8098564110178192564:=Nat
def tw18151717731930371512:=Nat
def tw2111534680268870806:=Nat
def tw16786475104113625078:=Nat
def tw18143007320095162742:=Nat
def tw10589594154144195480:=Nat
def tw6392052698668193545:=Nat
def tw13833241924584150428:=Nat
def tw9255618027458905345:=Nat
def tw15788972417979477711:=Nat
def tw745507515756926225:=Nat
def tw13250153730164091005:=Nat
def tw11228810959685771122:=Nat
def tw3629961494253304727:=Nat
def tw8744407006205532205:=Nat
def tw2607435583282889016:=Nat
def tw3013214629423828803:=Nat
def tw16442436187375696220:=Nat
def tw8634455378288121472:=Nat
def tw4002490956591432247:=Nat
def tw16374502941758899700:=Nat
def tw9433277541519485726:=Nat
def tw202559911659951890:=Nat
def tw8006702430196425556:=Nat
def tw6362110990909078822:=Nat
def tw11714240660974868296:=Nat
def tw17506717862733509987:=Nat
def tw9105192233211486692:=Nat
def tw10961529490326460389:=Nat
def tw11657191451665229298:=Nat
def tw9517431563830716555:=Nat
def tw11204269089902608017:=Nat
def tw5098335160827849883:=Nat
def tw864831819861604441:=Nat
def tw2442494325638037609:=Nat
def tw15620934157644476550:=Nat
def tw5081721882155923957:=Nat
def tw6308342126996693148:=Nat
def tw6080297131413992853:=Nat
def tw4537312503982961825:=Nat
def tw6155183907368265627:=Nat
def tw9863531533920646684:=Nat
def tw16775154718412206771:=Nat
def tw7235730040239773098:=Nat
def tw12538836427055955748:=Nat
def tw17836019087201231645:=Nat
def tw4674436860586339287:=Nat
def tw2865535921887276039:=Nat
def tw4564637957959918257:=Nat
def tw3301261105946021877:=Nat
def tw14443341115992401471:=Nat
def tw1389629542335893430:=Nat
def tw18302030655586884547:=Nat
def tw17073783109414509395:=Nat
def tw7665220085058621971:=Nat
def tw2571208433912204452:=Nat
def tw6402772123879527656:=Nat
def tw14476927410725390953:=Nat
def tw4277078223361310616:=Nat
def tw13413757151263588880:=Nat
def tw7422851124140626139:=Nat
def tw670458146186679367:=Nat
def tw7825546052799362950:=Nat
def tw3990452698238330059:=Nat
def tw14767056677749376876:=Nat
def tw2517783101589251654:=Nat
def tw3777325279088823811:=Nat
def tw4896202689809145930:=Nat
def tw4778334960660434272:=Nat
def tw213721442000916471:=Nat
def tw14330368981645494738:=Nat
def tw18152139196524838309:=Nat
def tw3251644130115959301:=Nat
def tw9950953070657793334:=Nat
def tw1468440198032196646:=Nat
def tw10312593221512014430:=Nat
def tw17291718515255623388:=Nat
def tw3854821199829503444:=Nat
def tw14665476158775486953:=Nat
def tw5646424243763491974:=Nat
def tw14006106373779098294:=Nat
def tw16596503200812852713:=Nat
def tw10236419294095002736:=Nat
def tw14340833742305153154:=Nat
def tw15348108744255181107:=Nat
def tw11220023596317436707:=Nat
def tw16006989537826552687:=Nat
def tw13114566643308723298:=Nat
def tw2566300576890351773:=Nat
def tw11125527845556291081:=Nat
def tw12249093695529303609:=Nat
def tw8057453709183695343:=Nat
def tw13307468662197027200:=Nat
def tw2302531953789534557:=Nat
def tw16073205472228661763:=Nat
def tw5346481094898890802:=Nat
def tw2915099297578424275:=Nat
def tw11202263910621191265:=Nat
def tw12608139347439754008:=Nat
def tw3955940212207385125:=Nat
def tw12276637544310618837:=Nat
def tw11674413663876610197:=Nat
def tw13892366679068492715:=Nat
def tw13510589785603232179:=Nat
def tw3287185269688642606:=Nat
def tw14255863727160467568:=Nat
def tw5624474155744348467:=Nat
def tw7102299302849336373:=Nat
def tw7785805203497710114:=Nat
def tw6304932435077936370:=Nat
def tw7979928401317913046:=Nat
def tw17924151852986824311:=Nat
def tw17567949537935239986:=Nat
def tw18414482236402996191:=Nat
def tw6726488399526365150:=Nat
def tw11635096550938197010:=Nat
def tw14852071076214995091:=Nat
def tw2614076760894471622:=Nat
def tw14255319897217823:=Nat
def tw6162872056211642419:=Nat
def tw9526550582588529287:=Nat
def tw8183907691506037170:=Nat
def tw11525718650698875796:=Nat
def tw11397709223049222165:=Nat
def tw12405906855823120561:=Nat
def tw6775894264537662506:=Nat
def tw15770429719382213788:=Nat
def tw10705886953302865039:=Nat
def tw8539563406178608803:=Nat
def tw8680123427211175114:=Nat
def tw16627894406377527523:=Nat
def tw13851850435925694198:=Nat
def tw5626263274356518181:=Nat
def tw14580092698594259348:=Nat
def tw210056249743546748:=Nat
def tw2726252772973840842:=Nat
def tw1857445724713815822:=Nat
def tw11440287410342698975:=Nat
def tw12991143020201712974:=Nat
def tw10015495297131061675:=Nat
def tw9805533463428716804:=Nat
def tw8242433546459261612:=Nat
def tw3793484785223503075:=Nat
def tw229477249180061020:=Nat
def tw2404526640686666224:=Nat
def tw17070862114746157611:=Nat
def tw4957403789026371186:=Nat
def tw14685014830267439402:=Nat
def tw15829787974583180917:=Nat
def tw87164363850271911:=Nat
def tw17994271799035587740:=Nat
def tw17702788389814222173:=Nat
def tw15850294762492569726:=Nat
def tw1803582894261750106:=Nat
def tw6081135722524597898:=Nat
def tw16395965266939680029:=Nat
def tw8511102390638479932:=Nat
def tw9019838851206418327:=Nat
def tw8370084828927109270:=Nat
def tw3086221046144937868:=Nat
def tw75948616083191755:=Nat
def tw8552323704182794388:=Nat
def tw12430488311255858056:=Nat
def tw15537551543369747008:=Nat
def tw17984859747008445056:=Nat
def tw9864613635921219612:=Nat
def tw10536777510423941919:=Nat
def tw8671354944845909921:=Nat
def tw14980698020452113543:=Nat
def tw11589813776701131226:=Nat
def tw5940575107563191978:=Nat
def tw4753447487431616051:=Nat
def tw214898046972185803:=Nat
def tw14770207173657575683:=Nat
def tw10133125195550979521:=Nat
def tw9476059724047531202:=Nat
def tw1802158283175945537:=Nat
def tw4406727611579521501:=Nat
def tw14999381844255140640:=Nat
def tw5286129033858162517:=Nat
def tw18087833470556875962:=Nat
def tw16836102066861864259:=Nat
def tw12286100434743542554:=Nat
def tw2185631881036057501:=Nat
def tw5258242349374591578:=Nat
def tw8813801194922164062:=Nat
def tw17409846898348574414:=Nat
def tw5457112874214537257:=Nat
def tw4482734017458768080:=Nat
def tw4717309022480208212:=Nat
def tw2993689359592750981:=Nat
def tw2414356169826653386:=Nat
def tw3385610012652557350:=Nat
def tw15164724643509009408:=Nat
def tw8510926148447761031:=Nat
def tw12933667231411087044:=Nat
def tw2913228763970462795:=Nat
def tw15064895320611117884:=Nat
def tw11734625566880463011:=Nat
def tw1827961668644337620:=Nat
def tw13601770837529121015:=Nat
def tw1471820104686724374:=Nat
def tw13569710965044476243:=Nat
def tw4407121573708877959:=Nat
def tw17864203114044770771:=Nat
def tw1419967588269623005:=Nat
def tw1387902490457431916:=Nat
def tw2973320797887498708:=Nat
def tw15011426840921971680:=Nat
def tw11473602896094155235:=Nat
def tw16457910108551474406:=Nat
def tw10848199194945227467:=Nat
def tw7729644791673381340:=Nat
def tw13111456699127612827:=Nat
def tw6739870097511034834:=Nat
def tw11284447878686099026:=Nat
def tw6829465326915943886:=Nat
def tw17695442245807566054:=Nat
def tw12959488631159271384:=Nat
def tw2584557508570980782:=Nat
def tw12010948958760367456:=Nat
def tw4263104474389116543:=Nat
def tw14864166231243088275:=Nat
def tw11538313384918388851:=Nat
def tw933043400847731273:=Nat
def tw9446534991961402739:=Nat
def tw11262286329507630910:=Nat
def tw14210469287910959183:=Nat
def tw17375459070874262285:=Nat
def tw726553780664365112:=Nat
def tw14145445570055241282:=Nat
def tw10873454412152824751:=Nat
def tw5455570279399477936:=Nat
def tw14076618946771663925:=Nat
def tw15706882282821164025:=Nat
def tw3242293762693983656:=Nat
def tw4985171736495484610:=Nat
def tw6672822228081366753:=Nat
def tw8754104381975025557:=Nat
def tw15755736611191025649:=Nat
def tw14471012780845341194:=Nat
def tw2699151615157258446:=Nat
def tw15190484498329659140:=Nat
def tw5522275699332988713:=Nat
def tw11513297638373403885:=Nat
def tw11965959787709034624:=Nat
def tw11229198845105173833:=Nat
def tw4623085995096783618:=Nat
def tw2693596335903832162:=Nat
def tw10789683572988214606:=Nat
def tw9323350476046673693:=Nat
def tw5874352892814130967:=Nat
def tw8300218970167705899:=Nat
def tw16376881671164629596:=Nat
def tw11363126894531989548:=Nat
def tw15739259569652336014:=Nat
def tw12243654921477053941:=Nat
def tw5299322849620213081:=Nat
def tw6023145582924378238:=Nat
def tw18057912006905468164:=Nat
def tw3516939760883069463:=Nat
def tw17944532779003733259:=Nat
def tw12051814328646455057:=Nat
def tw576585643691939199:=Nat
def tw12015773085678367346:=Nat
def tw5140212530030877287:=Nat
def tw3195631306940519966:=Nat
def tw5313338052693718474:=Nat
def tw3955885093052307380:=Nat
def tw12330746763470408036:=Nat
def tw14428858573494089029:=Nat
def tw16291351007647653863:=Nat
def tw17122971365462619305:=Nat
def tw10437702729066620553:=Nat
def tw10895484805864770312:=Nat
def tw13103231929530339978:=Nat
def tw4823144947947954965:=Nat
def tw12387311984581315514:=Nat
def tw31889627696616656:=Nat
def tw5684149074892474419:=Nat
def tw363464923949048855:=Nat
def tw748728976420389715:=Nat
def tw14156068477528907421:=Nat
def tw15439355207865308665:=Nat
def tw6923606066725790905:=Nat
def tw16462304141348485935:=Nat
def tw17681210003041794247:=Nat
def tw10214107674267041455:=Nat
def tw7584567173294217158:=Nat
def tw10135531033926437830:=Nat
def tw12561294443287664634:=Nat
def tw11734374631733624862:=Nat
def tw11901096821240390753:=Nat
def tw12398811574337733459:=Nat
def tw3140739907811574582:=Nat
def tw13955525999664146809:=Nat
def tw7228012194102636675:=Nat
def tw7941234831994888566:=Nat
def tw2577949600166069539:=Nat
def tw446695660666067615:=Nat
def tw8872198746928101348:=Nat
def tw13160478282589737163:=Nat
def tw13661114510833173207:=Nat
def tw9009292452649417328:=Nat
def tw18370825393984964684:=Nat
def tw12095773630790942063:=Nat
def tw1885359564864627090:=Nat
def tw182620769258308931:=Nat
def tw8420669572876576534:=Nat
def tw835974348508406846:=Nat
def tw2420639628025582015:=Nat
def tw261653482465932074:=Nat
def tw6539376590148076572:=Nat
def tw6146485821659665257:=Nat
def tw5570372396824128401:=Nat
def tw15314304595521486400:=Nat
def tw8984954267005409318:=Nat
def tw16284890683376400410:=Nat
def tw14769553342016960223:=Nat
def tw13568501685049615246:=Nat
def tw14363679836672643560:=Nat
def tw7886778644971476427:=Nat
def tw9765864753140572352:=Nat
def tw2414332892935153556:=Nat
def tw13743679046606016288:=Nat
def tw7966032485413775958:=Nat
def tw2827827344683654617:=Nat
def tw7900385229873773609:=Nat
def tw11955526089850407575:=Nat
def tw884649125922056102:=Nat
def tw7132987213850407496:=Nat
def tw10327513319922641190:=Nat
def tw7769789323473522630:=Nat
def tw2016206728231006749:=Nat
def tw18387172023895189007:=Nat
def tw13803022360816965798:=Nat
def tw16282636419901516336:=Nat
def tw13184970750784538717:=Nat
def tw5005546517354114660:=Nat
def tw6264442299484989179:=Nat
def tw11945394259713170814:=Nat
def tw3461972505105992608:=Nat
def tw16562711369110948419:=Nat
def tw2882553402669571309:=Nat
def tw17042303267089556295:=Nat
def tw14060662613227430795:=Nat
def tw4607078409941538861:=Nat
def tw3622645998108088239:=Nat
def tw16028506292631134426:=Nat
def tw2478351020711390143:=Nat
def tw16843805286704618946:=Nat
def tw7234993553385707299:=Nat
def tw5125360255941002616:=Nat
def tw18381097344099512689:=Nat
def tw4859537290697593678:=Nat
def tw7419315292732526639:=Nat
def tw17280703026644938152:=Nat
def tw1774709875583830621:=Nat
def tw16515356949384236536:=Nat
def tw9607498515143326901:=Nat
def tw10759183518962142411:=Nat
def tw12690507291194153432:=Nat
def tw18396032425772528981:=Nat
def tw77129962380223519:=Nat
def tw13351177560968596788:=Nat
def tw374939082037313278:=Nat
def tw6059291978933913830:=Nat
def tw5438659772775357431:=Nat
def tw16295529643154400209:=Nat
def tw15865820024239556104:=Nat
def tw5665890380073901569:=Nat
def tw14895116615497906660:=Nat
def tw6586428567980782312:=Nat
def tw3421990163305687502:=Nat
def tw2350343361836057623:=Nat
def tw6349636891760637610:=Nat
end PySem.W.Fast
set_option maxRecDepth 100000 in
set_option maxHeartbeats 0 in
theorem PySem.Challenge.cw_forerun_k45_takes_and_layings_holds : PySem.Challenge.rw_forerun_k45_takes_and_layings.Holds := by
 w_on; o_law; k_head; (case hw => w_witness2)
 k_fill
 refine L2.walk_ofXB (l := PySem.Challenge.rw_forerun_k45_takes_and_layings) (n := 63) (k := 16) (x := "script") (sp := K45.sp_law) rfl (by decide) rfl ⟨rfl,by decide,by decide⟩ (fun w h Y => PySem.W.kIn_of Y) ?F ?S
 case F =>
  intro w mg fa h KX G hmg
  have T : ∃ t,K45.Txt (L2.KOf KX) mg t := by
   dsimp only [L2.KOf]
   refine' K45.txt_mk KX G ?h0 ?h1 ?h2 ?h3 ?h4 ?qa5 ?qi5 ?ql5 ?qc5 ?qk5 ?qa6 ?qi6 ?ql6 ?qc6 ?qk6 ?qa7 ?qi7 ?ql7 ?qc7 ?qk7 ?qd7 ?h8 ?h9 ?h10 ?h11 ?h12 ?h13 ?h14 ?h15 ?h16 ?h17 ?h18 ?h19 ?h20 ?h21 ?h22 ?h23 ?h24 ?h25 ?h26 ?h27 ?h28 ?qa29 ?qi29 ?ql29 ?qc29 ?qk29 ?qd29 ?h30 ?h31 ?h32 ?h33 ?h34 ?h35 ?h36 ?qa37 ?qi37 ?ql37 ?qc37 ?qk37 ?h38 ?h39 ?h40 ?h41 ?h42 ?h43 ?h44 ?h45 ?h46 ?h47 ?h48 ?h49 ?h50 ?h51 ?h52 ?h53 ?h54 ?h55 ?h56 ?qa57 ?qi57 ?ql57 ?qc57 ?qk57 ?qa58 ?ql58 ?qc58 ?qk58 ?qz0 ?qz1 ?qz2 ?qz3 ?qz4 ?qz5 ?qz6 ?qz7 ?qz8 ?qz9 ?qz10 ?qg0 ?qh0 ?qv0 ?qv1 ?qv2 ?qv3 ?qv4 ?qv5 ?qv6 ?qv7 ?qv8 ?pg0 ?pd0 ?po0 ?pe0 ?pm0_ ?pk0 ?pn0_0 ?pn0_1 ?pn0_2 ?pn0_3 ?pn0_4 ?pn0_5 ?pn0_6 ?pn0_7 ?pn0_8 ?pi2 ?pg2 ?pd2 ?po2 ?pe2 ?pm2_ ?pk2 ?pg3 ?pd3 ?po3 ?pe3 ?pm3_ ?pk3 ?pn3_0 ?pn3_1 ?pn3_2 ?pn3_3 ?pg4 ?pd4 ?po4 ?pe4 ?pm4_ ?pk4 ?pn4_0 ?pn4_1 ?pn4_2 ?pn4_3 ?pg6 ?pd6 ?po6 ?pe6 ?pm6_ ?pk6 ?pn6_0 ?pn6_1 ?pn6_2 ?pn6_3 ?pn6_4 ?pn6_5 ?pn6_6 ?pg7 ?pd7 ?po7 ?pe7 ?pm7_ ?pk7 ?pn7_0 ?pi8 ?pg8 ?pd8 ?po8 ?pe8 ?pm8_ ?pk8 ?rx0 ?ry0 ?re0_0 ?re0_1 ?rm0_0 ?rx1 ?ry1 ?re1_0 ?re1_1 ?rm1_0
   (case qv0 | qv1 | qv2 | qv3 | qv4 | qv5 | qv6 | qv7 | qv8 => k_is)
   (case h0 | h1 | h2 | h3 | h4 => exact ⟨_,by k_is,_,_,_,_,_,_,_,_,_,by k_is,by k_is,by k_is⟩)
   (case qa5 | qi5 | ql5 | qc5 | qk5 | qa6 | qi6 | ql6 | qc6 | qk6 | qa7 | qi7 | ql7 | qc7 | qk7 | qd7 => k_is)
   (case h8 | h9 | h10 | h11 => exact ⟨_,by k_is,_,_,_,_,_,_,_,_,_,by k_is,by k_is,by k_is⟩)
   (case h12 | h13 | h14 => exact ⟨_,by k_is,by k_is,_,_,_,_,_,_,_,_,_,by k_is,by k_is,by k_is⟩)
   (case h15 | h16 | h17 | h18 | h19 => exact ⟨_,by k_is,_,_,_,_,_,_,_,_,_,by k_is,by k_is,by k_is⟩)
   (case h20 | h21 | h22 | h23 => exact ⟨_,by k_is,by k_is,_,_,_,_,_,_,_,_,_,by k_is,by k_is,by k_is⟩)
   (case h24 => exact ⟨_,by k_is,_,_,_,_,_,_,_,_,_,by k_is,by k_is,by k_is⟩)
   (case h25 | h26 | h27 | h28 => exact ⟨_,by k_is,by k_is,_,_,_,_,_,_,_,_,_,by k_is,by k_is,by k_is⟩)
   (case qa29 | qi29 | ql29 | qc29 | qk29 | qd29 => k_is)
   (case h30 | h31 => exact ⟨_,by k_is,by k_is,_,_,_,_,_,_,_,_,_,by k_is,by k_is,by k_is⟩)
   (case h32 => exact ⟨_,by k_is,_,_,_,_,_,_,_,_,_,by k_is,by k_is,by k_is⟩)
   (case h33 | h34 | h35 | h36 => exact ⟨_,by k_is,by k_is,_,_,_,_,_,_,_,_,_,by k_is,by k_is,by k_is⟩)
   (case qa37 | qi37 | ql37 | qc37 | qk37 => k_is)
   (case h38 | h39 | h40 | h41 => exact ⟨_,by k_is,by k_is,_,_,_,_,_,_,_,_,_,by k_is,by k_is,by k_is⟩)
   (case h42 => exact ⟨_,by k_is,_,_,_,_,_,_,_,_,_,by k_is,by k_is,by k_is⟩)
   (case h43 | h44 | h45 | h46 | h47 | h48 | h49 | h50 => exact ⟨_,by k_is,by k_is,_,_,_,_,_,_,_,_,_,by k_is,by k_is,by k_is⟩)
   (case h51 | h52 | h53 | h54 | h55 | h56 => exact ⟨_,by k_is,_,_,_,_,_,_,_,_,_,by k_is,by k_is,by k_is⟩)
   (case qa57 | qi57 | ql57 | qc57 | qk57 | qa58 | ql58 | qc58 | qk58 | qz0 | qz1 | qz2 | qz3 | qz4 | qz5 | qz6 | qz7 | qz8 | qz9 | qz10 | qg0 | qh0 | pg0 | pd0 | po0 | pe0 | pm0_ | pk0 | pn0_0 | pn0_1 | pn0_2 | pn0_3 | pn0_4 | pn0_5 | pn0_6 | pn0_7 | pn0_8 | pi2 | pg2 | pd2 | po2 | pe2 | pm2_ | pk2 | pg3 | pd3 | po3 | pe3 | pm3_ | pk3 | pn3_0 | pn3_1 | pn3_2 | pn3_3 | pg4 | pd4 | po4 | pe4 | pm4_ | pk4 | pn4_0 | pn4_1 | pn4_2 | pn4_3 | pg6 | pd6 | po6 | pe6 | pm6_ | pk6 | pn6_0 | pn6_1 | pn6_2 | pn6_3 | pn6_4 | pn6_5 | pn6_6 | pg7 | pd7 | po7 | pe7 | pm7_ | pk7 | pn7_0 | pi8 | pg8 | pd8 | po8 | pe8 | pm8_ | pk8 => k_is)
   (case rx0 => k_exc)
   (case ry0 => exact ⟨_,by k_is,by k_is,by k_is,by k_is,by k_is,by k_is,by k_is,by k_is⟩)
   (case re0_0 | re0_1 | rm0_0 => kernel_rfl)
   (case rx1 => k_exc)
   (case ry1 => exact ⟨_,by k_is,by k_is,by k_is,by k_is,by k_is,by k_is,by k_is,by k_is⟩)
   (case re1_0 | re1_1 | rm1_0 => kernel_rfl)
  obtain ⟨t,T⟩ := T
  have e0 := hmg.symm.trans T.m_law
  cases e0
  exact ⟨_,T.w_law,fun base _ _ => K45.ok_law T⟩
 case S => exact fun K H a ns hl hb _ hS => ⟨a,ns,rfl,hS,hl,hb,fun _ => rfl⟩
