import PyProof.Rows.All
import Wide.All
import OpenK.AllK
import Wide.FinOn
import Lean
import PyProof.EqAt
import PyProof.EqKinds
import PyProof.TupleCall
import PySem.Challenge.RW_forerun_k29_whole_led_by_its_notes
import KE.IntBitsLaws
import KE.KDictList
import KE.KDictOf
import KE.KEqDict
import KE.KIntText
import KE.KItemsList
import KE.KRevIter
import KE.KSortAsk
import KE.KSortTup
import KE.KSorted
import KE.KTryMore
import KE.LcSums
import PyProof.AttrMissHeap
import PyProof.Conv_int_bool
import PyProof.DictItems
import PyProof.DictKinds
import PyProof.DictWalks
import PyProof.EnumFor
import PyProof.EnumMake
import PyProof.EqKinds
import PyProof.ListIndexNeg
import PyProof.MeetsStr
import PyProof.NeKinds
import PyProof.NsDelKeeps
import PyProof.P3Eq
import PyProof.Rows.EqDataRows
import PyProof.Rows.Range3
import PyProof.StrCalls2
import PyProof.StrLaws
import PyProof.StrLawsTight
import PyProof.StrOps
import PyProof.StrOps2
import PyProof.TupleIter
import PyProof.TupleKey
import PyProof.TupleOfSeq
import PyProof.ZipIter
import Wide.ObjOpen
import Wide.RegSB
set_option Elab.async false
set_option linter.all false
set_option maxRecDepth 100000
namespace L2
open PySem PySem.Spec PyProof.Rows
abbrev Key:=Sum Int Str
def XO:Key→Value→Bool
 | .inl k,v=>Value.isInt k v
 | .inr x,v=>Value.isStrOf x v
def zdL (w:World):Key→Int
 | .inl k=>hashInt k
 | .inr x=>hashStr w x
theorem yS:∀ {k:Key} {v:Value},XO k v=true→(∃ i t,k=Sum.inl i∧v=Value.int i t)∨(∃ x t,k=Sum.inr x∧v=Value.str x t)
 | .inl i,v,h=>by
  obtain ⟨t,e⟩:=Value.isInt_shape (k:=i) (v:=v) h
  exact .inl ⟨i,t,rfl,e⟩
 | .inr x,v,h=>by
  obtain ⟨t,e⟩:=Value.isStrOf_shape (x:=x) (v:=v) h
  exact .inr ⟨x,t,rfl,e⟩
theorem K4 (i:Int) (t:Tok):XO (.inl i) (.int i t)=true:=by simp [XO,Value.isInt]
theorem K7 (x:Str) (t:Tok):XO (.inr x) (.str x t)=true:=by simp [XO,Value.isStrOf]
theorem zcn (a b:Int):decide ((Sum.inl a:Key)=Sum.inl b)=(a == b):=by
 by_cases e:a=b
 ·subst e;simp
 ·have h:¬ (Sum.inl a:Key)=Sum.inl b:=fun q=>e (Sum.inl.inj q)
  rw [decide_eq_false h]
  exact (beq_eq_false_iff_ne.mpr e).symm
theorem zco (a b:Str):decide ((Sum.inr a:Key)=Sum.inr b)=decide (a=b):=by
 by_cases e:a=b
 ·subst e;simp
 ·have h:¬ (Sum.inr a:Key)=Sum.inr b:=fun q=>e (Sum.inr.inj q)
  rw [decide_eq_false h,decide_eq_false e]
theorem zcp (a:Int) (b:Str):decide ((Sum.inl a:Key)=Sum.inr b)=false:=decide_eq_false (fun q=>nomatch q)
theorem zcq (a:Str) (b:Int):decide ((Sum.inr a:Key)=Sum.inl b)=false:=decide_eq_false (fun q=>nomatch q)
def yT (prog:Program) (w:World):PySem.KeyKind prog w Key where
 is:=XO
 hash:=zdL w
 inj:=fun v a b ha hb=>by
  rcases yS ha with ⟨i,t,rfl,rfl⟩ | ⟨x,t,rfl,rfl⟩
  ·rcases yS hb with ⟨j,u,rfl,e⟩ | ⟨y,u,rfl,e⟩
   ·injection e with e1 _;rw [e1]
   ·exact nomatch e
  ·rcases yS hb with ⟨j,u,rfl,e⟩ | ⟨y,u,rfl,e⟩
   ·exact nomatch e
   ·injection e with e1 _;rw [e1]
 byValue:=fun k v h=>by
  rcases yS h with ⟨i,t,rfl,rfl⟩ | ⟨x,t,rfl,rfl⟩ <;> rfl
 pyHash:=fun hv h=>by
  rcases yS hv with ⟨i,t,rfl,rfl⟩ | ⟨x,t,rfl,rfl⟩
  ·exact wpAny_pyHash_int h
  ·exact wpAny_pyHash_str h
 eqBool:=fun hu hv h=>by
  rcases yS hu with ⟨i,t,rfl,rfl⟩ | ⟨x,t,rfl,rfl⟩
  ·rcases yS hv with ⟨j,u,rfl,rfl⟩ | ⟨y,u,rfl,rfl⟩
   ·rw [zcn] at h;exact wpAny_eqBool_int h
   ·rw [zcp] at h;exact SeqAt.EqAt.int_str i t y u _ _ _ _ h
  ·rcases yS hv with ⟨j,u,rfl,rfl⟩ | ⟨y,u,rfl,rfl⟩
   ·rw [zcq] at h;exact SeqAt.EqAt.str_int x t j u _ _ _ _ h
   ·rw [zco] at h;exact wpAny_eqBool_str h
 «strs»:=fun k x t v h=>by
  rcases yS h with ⟨i,u,rfl,e⟩ | ⟨y,u,rfl,e⟩
  ·exact nomatch e
  ·injection e with e1 _
   subst e1
   cases v <;> rfl
theorem Vg (prog:Program) (w:World) (i:Int) (t:Tok):(yT prog w).is (.inl i) (.int i t)=true:=K4 i t
theorem Vh (prog:Program) (w:World) (x:Str) (t:Tok):(yT prog w).is (.inr x) (.str x t)=true:=K7 x t
end L2
namespace L2
open PySem PySem.Spec PyProof.Rows
inductive V where
 | non | bl (b:Bool) | int (i:Int) | str (x:Str) | byt (b:Array UInt8) | flt (b:UInt64) | ref (a:Addr) | ty (n:String)
 deriving DecidableEq
def RelV:V→Value→Prop
 | .non,u=>u=Value.none
 | .bl b,u=>u=Value.bool b
 | .int i,u=>∃ t,u=Value.int i t
 | .str x,u=>∃ t,u=Value.str x t
 | .byt b,u=>∃ t,u=Value.bytes b t
 | .flt b,u=>∃ t,u=Value.float b t
 | .ref a,u=>u=Value.ref a
 | .ty n,u=>u=Value.type n
abbrev Vals:List V→List Value→Prop:=Paired RelV
theorem Vals.length {xs:List V} {us:List Value} (r:Vals xs us):xs.length=us.length:=Paired.length r
theorem Vals.get:∀ {xs:List V} {us:List Value} {i:Nat} {x:V},Vals xs us→xs[i]?=some x→∃ u,us[i]?=some u∧RelV x u
 | _,_,_,_,.nil,e=>by simp at e
 | _,_,0,_,.cons r _,e=>by simp at e;subst e;exact ⟨_,rfl,r⟩
 | _,_,i + 1,x,.cons _ t,e=>by
  obtain ⟨u,h1,h2⟩:=Vals.get (i:=i) (x:=x) t (by simpa using e)
  exact ⟨u,by simpa using h1,h2⟩
theorem Vals.append:∀ {xs ys:List V} {us ws:List Value},Vals xs us→Vals ys ws→Vals (xs ++ ys) (us ++ ws)
 | _,_,_,_,.nil,s=>s
 | _,_,_,_,.cons r t,s=>.cons r (Vals.append t s)
theorem Vals.take:∀ {xs:List V} {us:List Value} (n:Nat),Vals xs us→Vals (xs.take n) (us.take n)
 | _,_,0,_=>.nil
 | _,_,_ + 1,.nil=>.nil
 | _,_,n + 1,.cons r t=>.cons r (Vals.take n t)
theorem Vals.drop:∀ {xs:List V} {us:List Value} (n:Nat),Vals xs us→Vals (xs.drop n) (us.drop n)
 | _,_,0,r=>r
 | _,_,_ + 1,.nil=>.nil
 | _,_,n + 1,.cons _ t=>Vals.drop n t
def RelO:Option V→Option Value→Prop
 | some v,some u=>RelV v u
 | none,none=>True
 | _,_=>False
def KV {κ:Type}:List (κ × V)→List (κ × Value)→Prop:=Paired fun (p:κ × V) (q:κ × Value)=>p.1=q.1∧RelV p.2 q.2
def kV:Key→V
 | .inl i=>.int i
 | .inr x=>.str x
inductive HO where
  | lst (xs:List V)
  | tup (xs:List V)
  | dK (kvs:List (Key × V)) | dT (kvs:List (List Key × V))
  | set (S:Int→Bool) (n:Nat)
  | ins (C dx:Addr) (fs:List (Str × V))
  | own (x:Addr)
  | xd (fs:List (Str × V))
  | met (f x:Addr)
  | rng (lo hi:Int)
  | frz (o:Obj) (u:HO)
  | tbl (ps:Array Value)
  | ext (φ:Heap→Prop)
abbrev Hp:=Addr→Option HO
def upd (H:Hp) (a:Addr) (o:HO):Hp:=fun b=>if b=a then some o else H b
theorem zd {H:Hp} {a:Addr} {o:HO}:upd H a o a=some o:=by unfold upd;rw [if_pos rfl]
theorem zk {H:Hp} {a b:Addr} {o:HO} (h:b≠a):upd H a o b=H b:=by unfold upd;rw [if_neg h]
theorem Yi {H:Hp} {a:Addr} {o u:HO}:upd (upd H a o) a u=upd H a u:=by
 funext b;unfold upd;split <;> rfl
theorem yq {H:Hp} {a b:Addr} {o u:HO} (h:H a=some o) (h':H b=some u) (d:o≠u):a≠b:=by
 intro e;subst e;rw [h] at h';exact d (Option.some.inj h')
theorem zJ {H:Hp} {a b:Addr} {o:HO} (h:H a=some o) (h':H b=none):a≠b:=by
 intro e;subst e;rw [h] at h';cases h'
section
variable (P:Program) (w:World)
def ObjOk (H:Hp) (h:Heap) (a:Addr):HO→Prop
 | .lst xs=>xs.length≤sizeLine∧∃ (its:List Value) (n:Nat),Vals xs its∧h.get? a=some { cls:=.type "list",data:=.seq its.toArray n }
 | .tup xs=>xs.length≤sizeLine∧∃ its:List Value,Vals xs its∧IsTup h a its.toArray
 | .dK kvs=>kvs.length≤sizeLine∧(a == sysModules)=false∧∃ vs,KV kvs vs∧h.DictOf (yT P w) a vs
 | .dT kvs=>kvs.length≤sizeLine∧(a == sysModules)=false∧∃ xs:List (List Key × Addr × Value),
   Paired (fun (p:List Key × V) (q:List Key × Addr × Value)=>p.1=q.1∧H q.2.1=some (.tup (p.1.map kV))∧RelV p.2 q.2.2) kvs xs ∧
   ∃ o es ep,h.get? a=some o∧o.ExactDict∧o.data=.dict es ep∧es.toList=xs.map (entryOfKey (tupleKind (yT P w)))∧(xs.map (·.1)).Nodup
 | .set S n=>h.SetOf (intKind P w) a S n
 | .ins C dx fs=>H dx=some (.own a)∧fs.length≤1000∧dx≠a∧h.get? a=some (W.instObj C dx) ∧
   ∃ mA,h.Ns1 dx mA∧(∀ f,RelO (fs.lookup f) (mA f))∧PySem.Within mA (fs.map (·.1))
 | .own _=>∃ o,h.get? a=some o
 | .xd fs=>∃ mA,h.Ns1 a mA∧∀ f,RelO (fs.lookup f) (mA f)
 | .rng lo hi=>∃ t u v,h.get? a=some { cls:=.type "range",data:=.fields #[.int lo t,.int hi u,.int 1 v] }
 | .frz o u=>h.get? a=some o∧ObjOk H h a u
 | .tbl ps=>h.get? a=some { cls:=.none,data:=.fields ps }
 | .met f x=>h.get? a=some (W.methodObj (.ref f) (.ref x))
 | .ext φ=>φ h∧(∃ o,h.get? a=some o)∧∀ h1 h2:Heap,φ h1→(∀ o,h1.get? a=some o→h2.get? a=some o)→φ h2
def HOk (H:Hp) (h:Heap):Prop:=∀ a o,H a=some o→ObjOk P w H h a o
end
section
variable {P:Program} {w:World} {H H':Hp} {h h':Heap} {a:Addr} {o:HO}
theorem ObjOk.lt (x:ObjOk P w H h a o):a < h.objs.size:=by
 cases o with
 | lst xs=>obtain ⟨_,_,_,_,e⟩:=x;exact Heap.lt_size e
 | tup xs=>obtain ⟨_,_,_,p⟩:=x;exact p.lt
 | dK kvs=>obtain ⟨_,_,_,_,o,_,_,e,_⟩:=x;exact Heap.lt_size e
 | dT kvs=>obtain ⟨_,_,_,_,o,_,_,e,_⟩:=x;exact Heap.lt_size e
 | set S n=>obtain ⟨o,_,_,_,e,_⟩:=x;exact Heap.lt_size e
 | ins C dx fs=>obtain ⟨_,_,_,e,_⟩:=x;exact Heap.lt_size e
 | own y=>obtain ⟨_,e⟩:=x;exact Heap.lt_size e
 | xd fs=>obtain ⟨_,⟨_,_,_,e,_⟩,_⟩:=x;exact Heap.lt_size e
 | rng lo hi=>obtain ⟨_,_,_,e⟩:=x;exact Heap.lt_size e
 | frz ob u=>obtain ⟨e,_⟩:=x;exact Heap.lt_size e
 | tbl ps=>exact Heap.lt_size (show h.get? a=some _ from x)
 | met f y=>exact Heap.lt_size (show h.get? a=some _ from x)
 | ext φ=>obtain ⟨_,⟨_,e⟩,_⟩:=x;exact Heap.lt_size e
theorem Paired.mapP {α β:Type} {F G:α→β→Prop}:∀ {l₁:List α} {l₂:List β},Paired F l₁ l₂→(∀ a b,F a b→G a b)→Paired G l₁ l₂
 | _,_,.nil,_=>.nil
 | _,_,.cons r t,f=>.cons (f _ _ r) (Paired.mapP t f)
theorem ObjOk.stay (x:ObjOk P w H h a o) (k:∀ b u,(b=a∨H b=some (.own a))→h.get? b=some u→h'.get? b=some u)
  (ho:∀ b,H b=some (.own a)→H' b=some (.own a)) (ht:∀ b xs,H b=some (.tup xs)→H' b=some (.tup xs)):ObjOk P w H' h' a o:=by
 induction o with
 | lst xs=>obtain ⟨z,its,n,r,e⟩:=x;exact ⟨z,its,n,r,k _ _ (.inl rfl) e⟩
 | tup xs=>obtain ⟨z,its,r,ob,e,c⟩:=x;exact ⟨z,its,r,ob,k _ _ (.inl rfl) e,c⟩
 | dK kvs=>obtain ⟨z,y,vs,r,ob,es,ep,e,c⟩:=x;exact ⟨z,y,vs,r,ob,es,ep,k _ _ (.inl rfl) e,c⟩
 | dT kvs =>
  obtain ⟨z,y,xs,r,ob,es,ep,e,c⟩:=x
  exact ⟨z,y,xs,Paired.mapP r fun p q z=>⟨z.1,ht _ _ z.2.1,z.2.2⟩,ob,es,ep,k _ _ (.inl rfl) e,c⟩
 | set S n=>obtain ⟨ob,es,ep,t,e,c⟩:=x;exact ⟨ob,es,ep,t,k _ _ (.inl rfl) e,c⟩
 | ins C dx fs =>
  obtain ⟨d,z,ne,e,mA,⟨od,es,ep,e2,c⟩,r⟩:=x
  exact ⟨ho _ d,z,ne,k _ _ (.inl rfl) e,mA,⟨od,es,ep,k _ _ (.inr d) e2,c⟩,r⟩
 | own y=>obtain ⟨ob,e⟩:=x;exact ⟨ob,k _ _ (.inl rfl) e⟩
 | xd fs=>obtain ⟨mA,⟨od,es,ep,e,c⟩,r⟩:=x;exact ⟨mA,⟨od,es,ep,k _ _ (.inl rfl) e,c⟩,r⟩
 | rng lo hi=>obtain ⟨t,u,v,e⟩:=x;exact ⟨t,u,v,k _ _ (.inl rfl) e⟩
 | frz ob u ih=>obtain ⟨e,q⟩:=x;exact ⟨k _ _ (.inl rfl) e,ih q⟩
 | tbl ps =>
  have e:h.get? a=some { cls:=.none,data:=.fields ps }:=x
  show h'.get? a=some { cls:=.none,data:=.fields ps }
  exact k a _ (.inl rfl) e
 | met f y =>
  have e:h.get? a=some (W.methodObj (.ref f) (.ref y)):=x
  show h'.get? a=some (W.methodObj (.ref f) (.ref y))
  exact k a _ (.inl rfl) e
 | ext φ=>obtain ⟨p,⟨o,e⟩,st⟩:=x;exact ⟨st _ _ p fun o q=>k _ _ (.inl rfl) q,⟨o,k _ _ (.inl rfl) e⟩,st⟩
theorem HOk.lt (x:HOk P w H h) (e:H a=some o):a < h.objs.size:=(x a o e).lt
theorem HOk.fresh (x:HOk P w H h) (e:h.objs.size≤a):H a=none:=by
 cases q:H a with
 | none=>rfl
 | some u=>exact absurd (Nat.lt_of_lt_of_le (x.lt q) e) (Nat.lt_irrefl _)
theorem HOk.kept (x:HOk P w H h) (k:∀ b u,h.get? b=some u→h'.get? b=some u):HOk P w H h':=fun a o e =>
 (x a o e).stay (fun b u _ q=>k b u q) (fun _ q=>q) fun _ _ q=>q
theorem HOk.laid (x:HOk P w H h) (k:∀ b u,h.get? b=some u→h'.get? b=some u) (hp:h.objs.size≤a) (new:ObjOk P w (upd H a o) h' a o):HOk P w (upd H a o) h':=fun b u e=>by
 have hn:=x.fresh hp
 by_cases hb:b=a
 ·subst hb;rw [zd] at e;cases e;exact new
 ·rw [zk hb] at e
  exact (x b u e).stay (fun c v _ q=>k c v q) (fun c q=>by rw [zk (zJ q hn)];exact q) fun c xs q=>by rw [zk (zJ q hn)];exact q
end
def Rd (H:Hp) (a:Addr) (u:HO):Prop:=H a=some u∨∃ o,H a=some (.frz o u)
theorem Rd.ok {P:Program} {w:World} {H:Hp} {h:Heap} {a:Addr} {u:HO} (r:Rd H a u) (x:HOk P w H h):ObjOk P w H h a u:=by
 rcases r with r | ⟨o,r⟩
 ·exact x a u r
 ·obtain ⟨_,q⟩:=x a _ r
  exact q
def Mut:Option HO→Prop
 | some (.lst _)=>True
 | some (.dK _)=>True
 | some (.dT _)=>True
 | some (.set _ _)=>True
 | some (.ins _ _ _)=>True
 | some (.ext _)=>True
 | _=>False
section
variable {P:Program} {w:World} {H:Hp} {h h':Heap} {x e:Addr} {o':HO}
theorem HOk.write (ok:HOk P w H h) (mu:Mut (H x)) (he:e=x∨H e=some (.own x)) (k:∀ b u,b≠e→h.get? b=some u→h'.get? b=some u) (heo:∃ u,h'.get? e=some u)
  (new:ObjOk P w (upd H x o') h' x o'):HOk P w (upd H x o') h':=fun b u q=>by
 have nown:∀ c y,H c=some (.own y)→c≠x:=fun c y r z=>by subst z;rw [r] at mu;exact mu
 have ntup:∀ c xs,H c=some (.tup xs)→c≠x:=fun c xs r z=>by subst z;rw [r] at mu;exact mu
 by_cases hb:b=x
 ·subst hb;rw [zd] at q;cases q;exact new
 ·rw [zk hb] at q
  by_cases hbe:b=e
  ·have q':H b=some (.own x):=by
    rcases he with z | z
    ·exact absurd (hbe.trans z) hb
    ·rw [hbe];exact z
   rw [q] at q';cases q'
   obtain ⟨v,hv⟩:=heo
   exact ⟨v,by rw [hbe];exact hv⟩
  ·refine (ok b u q).stay (fun c v hc r=>k c v ?_ r) (fun c r=>by rw [zk (nown c b r)];exact r) fun c xs r=>by rw [zk (ntup c xs r)];exact r
   rcases hc with rfl | hc
   ·exact hbe
   ·rintro rfl
    rcases he with z | z
    ·exact nown c b hc z
    ·rw [hc] at z;cases z;exact hb rfl
end
structure Un (fs ex:List Addr) (H H':Hp) (h h':Heap):Prop where
 keep:∀ b o,h.get? b=some o→H b=none→b ∉ fs→b ∉ ex→h'.get? b=some o
 slot:∀ b o,h.get? b=some o→H b=none→b∈fs→b ∉ ex→∃ sl,h'.get? b=some { o with slots:=sl }
 free:∀ b o,h.get? b=some o→H b=none→b ∉ ex→H' b=none
 there:∀ b o,h.get? b=some o→b ∉ ex→∃ o',h'.get? b=some o'
 tups:∀ b xs,H b=some (.tup xs)→H' b=some (.tup xs)
 frzs:∀ b o u,H b=some (.frz o u)→H' b=some (.frz o u)
 tbls:∀ b ps,H b=some (.tbl ps)→∃ more,H' b=some (.tbl (ps ++ more))
section
variable {fs fs' ex ex':List Addr} {H H1 H2:Hp} {h h1 h2 h':Heap} {a x e:Addr} {o:HO}
theorem Un.any (u:Un fs ex H H1 h h1) {b:Addr} {ob:Obj} (q:h.get? b=some ob) (n:H b=none) (hx:b ∉ ex):∃ sl,h1.get? b=some { ob with slots:=sl }:=by
 by_cases hb:b∈fs
 ·exact u.slot b ob q n hb hx
 ·exact ⟨ob.slots,u.keep b ob q n hb hx⟩
theorem Un.kept (k:∀ b u,h.get? b=some u→h'.get? b=some u):Un fs ex H H h h' :=
 ⟨fun b ob q _ _ _=>k b ob q,fun b ob q _ _ _=>⟨ob.slots,k b ob q⟩,fun _ _ _ n _=>n,fun b ob q _=>⟨ob,k b ob q⟩,fun _ _ q=>q,fun _ _ _ q=>q,fun _ ps q=>⟨#[],by rw [q];simp⟩⟩
theorem Un.refl:Un fs ex H H h h:=Un.kept fun _ _ q=>q
theorem Un.laid (k:∀ b u,h.get? b=some u→h'.get? b=some u) (hp:h.objs.size≤a) (hn:H a=none):Un fs ex H (upd H a o) h h' where
 keep:=fun b u q _ _ _=>k b u q
 slot:=fun b u q _ _ _=>⟨u.slots,k b u q⟩
 free:=fun b u q n _=>by rw [zk (Nat.ne_of_lt (Nat.lt_of_lt_of_le (Heap.lt_size q) hp))];exact n
 there:=fun b u q _=>⟨u,k b u q⟩
 tups:=fun b xs q=>by rw [zk (zJ q hn)];exact q
 frzs:=fun b u xs q=>by rw [zk (zJ q hn)];exact q
 tbls:=fun b ps q=>⟨#[],by rw [zk (zJ q hn),q];simp⟩
theorem Un.write (mu:Mut (H x)) (he:e=x∨H e=some (.own x)) (k:∀ b u,b≠e→h.get? b=some u→h'.get? b=some u) (heo:∃ u,h'.get? e=some u):Un fs ex H (upd H x o) h h':=by
 have hx:∀ b,H b=none→b≠x:=fun b n z=>by subst z;rw [n] at mu;exact mu
 have hb:∀ b,H b=none→b≠e:=fun b n z=>by
  subst z
  rcases he with r | r
  ·exact hx b n r
  ·rw [n] at r;cases r
 have hm:∀ b u,H b=some u→¬ Mut (some u)→b≠x:=fun b u q nm z=>by subst z;rw [q] at mu;exact nm mu
 refine ⟨fun b u q n _ _=>k b u (hb b n) q,fun b u q n _ _=>⟨u.slots,k b u (hb b n) q⟩,fun b u q n _=>by rw [zk (hx b n)];exact n,fun b u q _=>?_,
  fun b xs q=>by rw [zk (hm b _ q fun z=>z)];exact q,fun b u xs q=>by rw [zk (hm b _ q fun z=>z)];exact q,fun b ps q=>⟨#[],by rw [zk (hm b _ q fun z=>z),q];simp⟩⟩
 by_cases hbe:b=e
 ·subst hbe;exact heo
 ·exact ⟨u,k b u hbe q⟩
end
def trk (h:Heap) (H:Hp):List Addr:=(List.range h.objs.size).filter fun a=>(H a).isSome
def Wo (h:Heap) (H:Hp):Heap:=W.hideAll h (trk h H)
theorem K8 (h:Heap) (H:Hp):(Wo h H).objs.size=h.objs.size:=W.hideAll_size _ _
theorem QF {h:Heap} {H:Hp} {b:Addr} {o:Obj} (e:h.get? b=some o) (n:H b=none):(Wo h H).get? b=some o :=
 W.hideAll_get _ e fun hm=>by
  have q:(H b).isSome=true:=(List.mem_filter.mp hm).2
  rw [n] at q;simp at q
theorem za1 {h:Heap} {H:Hp} {b:Addr} {o:Obj} (e:(Wo h H).get? b=some o):h.get? b=some o∧H b=none:=by
 have e':h.get? b=some o:=W.of_hideAll (trk h H) e
 refine ⟨e',?_⟩
 cases q:H b with
 | none=>rfl
 | some x =>
  have hm:b∈trk h H:=List.mem_filter.mpr ⟨List.mem_range.mpr (Heap.lt_size e'),by simp [q]⟩
  have z:(Wo h H).get? b=none:=W.hideAll_none (trk h H) hm
  rw [z] at e;cases e
def za2 (g h:Heap) (L:Addr):List (Addr × Obj):=(List.range h.objs.size).filterMap fun a=>if a=L∨(g.get? a).isSome=true then none else (h.get? a).map fun o=>(a,o)
def rest (g h:Heap) (L d:Addr):List (Addr × Obj):=(za2 g h L).filter fun p=>decide (p.1≠d)
end L2
namespace L2
open PySem PySem.Spec PyProof.Rows
structure Mod (K:W.Frag) (mg:Str→Option Value) (base:Heap):Prop where
 kin:K.In base
 glob:base.Ns mainGlobals mg
 blt:∃ mb,base.Ns builtinsNs mb∧∀ x:Str,x≠"__name__"→mb x=bootBuiltins x
 nolimit:base.NoLimit
set_option genSizeOf false in
set_option genInjectivity false in
structure Cx where
 prog:Program
 w:World
 K:W.Frag
 mg:Str→Option Value
 base:Heap
 A:Around
 N:List Str
 s₀:Shared
 H₀:Hp
 env:Env
 outer:List Env
 stack:List Env
 ex:List Addr
 fn:Str→Bool
 calm:Bool
 pn:List (Addr × Obj)
 xe:Value→Shared→Prop
def frs (l:List Env):List Addr:=l.filterMap (·.frame)
abbrev Cx.fs (X:Cx):List Addr:=frs X.outer
def Vis (sc:Scope) (x:Str):Prop:=sc.names.lookup x=some .local∨sc.names.lookup x=some .cell∨sc.names.lookup x=some .free
def Loc (sc:Scope) (x:Str):Prop:=sc.names.lookup x=some .local∨sc.names.lookup x=some .cell
def zdM (env:Env) (h:Heap) (m:Str→Option Value) (x:Str) (u:Value):Prop :=
 (env.kindOf x=some .local∧m x=some u)∨((env.kindOf x=some .cell∨env.kindOf x=some .free)∧∃ c,env.cells.lookup x=some c∧h.IsCell c (some u))
structure Cx.Ok (X:Cx):Prop where
 mod:Mod X.K X.mg X.base
 kind:X.env.scope.kind=.function
 glob:X.env.globals=mainGlobals
 blt:X.env.builtins=builtinsNs
 above:X.s₀.heap.objs.size≤X.env.locals
 inj:∀ x y c,X.env.cells.lookup x=some c→X.env.cells.lookup y=some c→x=y
 has:∀ x,(X.env.kindOf x=some .cell∨X.env.kindOf x=some .free)→∃ c,X.env.cells.lookup x=some c
 cab:∀ x c,X.fn x=true→X.env.cells.lookup x=some c→X.s₀.heap.objs.size≤c
 hd:X.calm=true→X.A.handled=none
 frames:X.A.frames=some X.stack
 stk:X.stack=X.outer∨(X.stack=X.env :: X.outer∧X.env.frame=some X.env.locals)
 exf:∀ b∈X.ex,b≠X.env.locals∧∀ x c,X.env.cells.lookup x=some c→c≠b
 bs:∀ b o,X.base.get? b=some o→X.s₀.heap.get? b=some o∧X.H₀ b=none
 bsz:X.base.objs.size≤X.s₀.heap.objs.size
 noex:∀ b o,X.base.get? b=some o→b ∉ X.ex
 exfs:∀ b∈X.ex,b ∉ X.fs
 funs:X.s₀.heap.FunFrames X.base X.outer
 frf:∀ b∈X.fs,X.H₀ b=none
structure Inv (X:Cx) (pins:List (Addr × Obj)) (σ:List (Option V)) (H:Hp) (s:Shared):Prop where
 ok:X.Ok
 os:s.os=X.s₀.os
 bare:AllBare s.gens
 base:Un X.fs X.ex X.H₀ H X.s₀.heap s.heap
 loc:∃ m,s.heap.Ns X.env.locals m∧∀ (i:Nat) (x:Str) (v:V),X.N[i]?=some x→σ[i]?=some (some v)→Vis X.env.scope x→∃ u,RelV v u∧zdM X.env s.heap m x u
 cell:∀ x c,X.env.cells.lookup x=some c→∃ v,s.heap.IsCell c v
 free:H X.env.locals=none
 freeC:∀ x c,X.env.cells.lookup x=some c→H c=none
 pin:∀ p∈X.pn ++ pins,s.heap.get? p.1=some p.2∧H p.1=none∧p.1≠X.env.locals∧p.1 ∉ X.fs∧∀ v,p.2.data≠.cell v
 hok:HOk X.prog X.w H s.heap
 len:σ.length=X.N.length
section
variable {X:Cx} {pins:List (Addr × Obj)} {σ:List (Option V)} {H H':Hp} {s:Shared} {h':Heap}
theorem Cx.Ok.nofr (ok:X.Ok) {b:Addr} {o:Obj} (e:X.base.get? b=some o):b ∉ X.fs:=fun hb=>by
 have:=(ok.funs.mem hb).1
 rw [e] at this;cases this
theorem Inv.bs (I:Inv X pins σ H s):∀ b o,X.base.get? b=some o→s.heap.get? b=some o∧H b=none:=fun b o e =>
 ⟨I.base.keep b o (I.ok.bs b o e).1 (I.ok.bs b o e).2 (I.ok.nofr e) (I.ok.noex b o e),I.base.free b o (I.ok.bs b o e).1 (I.ok.bs b o e).2 (I.ok.noex b o e)⟩
theorem Inv.bk (I:Inv X pins σ H s):∀ b o,X.base.get? b=some o→s.heap.get? b=some o:=fun b o e=>(I.bs b o e).1
theorem Inv.mod (I:Inv X pins σ H s):Mod X.K X.mg X.base:=I.ok.mod
theorem Inv.kIn (I:Inv X pins σ H s):X.K.In s.heap:=I.ok.mod.kin.keeps I.bk
theorem Inv.lt (I:Inv X pins σ H s):X.env.locals < s.heap.objs.size:=let ⟨_,hn,_⟩:=I.loc;hn.lt
theorem Inv.sz (I:Inv X pins σ H s):X.s₀.heap.objs.size≤s.heap.objs.size:=Nat.le_trans I.ok.above (Nat.le_of_lt I.lt)
theorem Inv.nofs (I:Inv X pins σ H s) {a:Addr} (h:s.heap.objs.size≤a):a ∉ X.fs:=fun hb=>by
 obtain ⟨_,o,ho,_⟩:=I.ok.funs.mem hb
 exact absurd (Nat.lt_of_lt_of_le (Heap.lt_size ho) (Nat.le_trans I.sz h)) (Nat.lt_irrefl _)
theorem Inv.cne (I:Inv X pins σ H s):∀ x c,X.env.cells.lookup x=some c→c≠X.env.locals:=fun x c e z=>by
 obtain ⟨v,o,ho,hd⟩:=I.cell x c e
 obtain ⟨m,⟨o',es,ep,ho',hd',_⟩,_⟩:=I.loc
 rw [z,ho'] at ho;cases ho;rw [hd'] at hd;cases hd
theorem Inv.funs (I:Inv X pins σ H s):s.heap.FunFrames X.base X.outer:=by
 have all:∀ (l:List Env),(∀ b∈frs l,b∈X.fs)→X.s₀.heap.FunFrames X.base l→s.heap.FunFrames X.base l:=by
  intro l
  induction l with
  | nil=>intro _ _;trivial
  | cons env r ih =>
   intro hs hl
   obtain ⟨hk,⟨L,o,hf,hn,ho,hd⟩,hr⟩:=hl
   have hL:L∈X.fs:=hs L (by unfold frs;rw [List.filterMap_cons,hf];exact List.mem_cons_self)
   obtain ⟨sl,e⟩:=I.base.slot L o ho (I.ok.frf L hL) hL fun z=>I.ok.exfs L z hL
   exact ⟨hk,⟨L,_,hf,hn,e,hd⟩,ih (fun b hb=>hs b (by unfold frs;rw [List.filterMap_cons,hf];exact List.mem_cons_of_mem _ hb)) hr⟩
 exact all X.outer (fun _ hb=>hb) I.ok.funs
theorem Inv.stack (I:Inv X pins σ H s):s.heap.FunFrames X.base X.stack:=by
 rcases I.ok.stk with e | ⟨e,hf⟩
 ·rw [e];exact I.funs
 ·rw [e]
  obtain ⟨m,hn,_⟩:=I.loc
  refine .cons (by rw [I.ok.kind];decide) hf hn ?_ I.funs
  exact Heap.get?_none_of_le (Nat.le_trans I.ok.bsz I.ok.above)
theorem Inv.stkSub (I:Inv X pins σ H s):∀ b∈frs X.stack,b∈X.env.locals :: X.fs:=fun b hb=>by
 rcases I.ok.stk with e | ⟨e,hf⟩
 ·rw [e] at hb;exact List.mem_cons_of_mem _ hb
 ·rw [e] at hb
  unfold frs at hb
  rw [List.filterMap_cons,hf] at hb
  exact hb
theorem Inv.stkFree (I:Inv X pins σ H s):∀ b∈frs X.stack,H b=none:=fun b hb=>by
 rcases List.mem_cons.mp (I.stkSub b hb) with e | hb
 ·rw [e];exact I.free
 ·obtain ⟨_,o,ho,_⟩:=I.ok.funs.mem hb
  exact I.base.free b o ho (I.ok.frf b hb) fun z=>I.ok.exfs b z hb
theorem Inv.step {g':Array GenState} {t':Nat} {d':Drawn} {ch:List Addr} (I:Inv X pins σ H s)
  (hch:∀ b∈ch,(b∈X.ex∨X.s₀.heap.objs.size≤b)∧b≠X.env.locals∧(∀ x c,X.env.cells.lookup x=some c→c≠b)∧∀ p∈X.pn ++ pins,p.1≠b)
  (keep:∀ b o,b≠X.env.locals→b ∉ X.fs→b ∉ ch→s.heap.get? b=some o→H b=none→h'.get? b=some o)
  (slot:∀ b o,b≠X.env.locals→b∈X.fs→b ∉ ch→s.heap.get? b=some o→H b=none→∃ sl,h'.get? b=some { o with slots:=sl }) (free:∀ b o,b ∉ ch→s.heap.get? b=some o→H b=none→H' b=none)
  (there:∀ b o,b ∉ ch→s.heap.get? b=some o→∃ o',h'.get? b=some o')
  (tups:∀ b xs,H b=some (.tup xs)→H' b=some (.tup xs)) (frzs:∀ b o u,H b=some (.frz o u)→H' b=some (.frz o u)) (tbls:∀ b ps,H b=some (.tbl ps)→∃ more,H' b=some (.tbl (ps ++ more)))
  (ns:∀ m,s.heap.Ns X.env.locals m→h'.Ns X.env.locals m) (hok:HOk X.prog X.w H' h') (hg:AllBare g') :
  Inv X pins σ H' { s with heap:=h',gens:=g',drawn:=d',toks:=t' }:=by
 have neL:∀ b o,X.s₀.heap.get? b=some o→b≠X.env.locals:=fun b o e=>Nat.ne_of_lt (Nat.lt_of_lt_of_le (Heap.lt_size e) I.ok.above)
 have neC:∀ b o,X.s₀.heap.get? b=some o→b ∉ X.ex→b ∉ ch:=fun b o e hx hb=>by
  rcases (hch b hb).1 with z | z
  ·exact hx z
  ·exact absurd (Nat.lt_of_lt_of_le (Heap.lt_size e) z) (Nat.lt_irrefl _)
 have cellK:∀ x c,X.env.cells.lookup x=some c→∀ v,s.heap.IsCell c v→h'.IsCell c v:=fun x c e v ⟨o,ho,hd⟩=>by
  have nch:c ∉ ch:=fun z=>(hch c z).2.2.1 x c e rfl
  by_cases hc:c∈X.fs
  ·obtain ⟨sl,q⟩:=slot c o (I.cne x c e) hc nch ho (I.freeC x c e)
   exact ⟨_,q,hd⟩
  ·exact ⟨o,keep c o (I.cne x c e) hc nch ho (I.freeC x c e),hd⟩
 refine ⟨I.ok,I.os,hg,⟨fun b o e n hb hx=>?_,fun b o e n hb hx=>?_,fun b o e n hx=>?_,fun b o e hx=>?_,fun b xs e=>tups b xs (I.base.tups b xs e),fun b o xs e=>frzs b o xs (I.base.frzs b o xs e),fun b ps e=>?_⟩,?_,fun x c e=>?_,?_,fun x c e=>?_,fun p hp=>?_,hok,I.len⟩
 ·exact keep b o (neL b o e) hb (neC b o e hx) (I.base.keep b o e n hb hx) (I.base.free b o e n hx)
 ·obtain ⟨sl,e1⟩:=I.base.slot b o e n hb hx
  obtain ⟨sl',e2⟩:=slot b _ (neL b o e) hb (neC b o e hx) e1 (I.base.free b o e n hx)
  exact ⟨sl',e2⟩
 ·obtain ⟨o',e1⟩:=I.base.there b o e hx
  exact free b o' (neC b o e hx) e1 (I.base.free b o e n hx)
 ·obtain ⟨o',e1⟩:=I.base.there b o e hx
  exact there b o' (neC b o e hx) e1
 ·obtain ⟨m1,e1⟩:=I.base.tbls b ps e
  obtain ⟨m2,e2⟩:=tbls b _ e1
  exact ⟨m1 ++ m2,by rw [e2,Array.append_assoc]⟩
 ·obtain ⟨m,hn,hl⟩:=I.loc
  refine ⟨m,ns m hn,fun i x v e1 e2 e3=>?_⟩
  obtain ⟨u,r,l⟩:=hl i x v e1 e2 e3
  refine ⟨u,r,?_⟩
  rcases l with l | ⟨k,c,e,z⟩
  ·exact .inl l
  ·exact .inr ⟨k,c,e,cellK x c e _ z⟩
 ·obtain ⟨v,z⟩:=I.cell x c e
  exact ⟨v,cellK x c e v z⟩
 ·obtain ⟨m,⟨o,_,_,ho,_⟩,_⟩:=I.loc
  exact free _ o (fun z=>(hch _ z).2.1 rfl) ho I.free
 ·obtain ⟨v,o,ho,hd⟩:=I.cell x c e
  exact free c o (fun z=>(hch c z).2.2.1 x c e rfl) ho (I.freeC x c e)
 ·obtain ⟨e,n,ne,nf,d⟩:=I.pin p hp
  have nch:p.1 ∉ ch:=fun z=>(hch p.1 z).2.2.2 p hp rfl
  exact ⟨keep p.1 p.2 ne nf nch e n,free p.1 p.2 nch e n,ne,nf,d⟩
theorem Inv.un {t':Nat} (I:Inv X pins σ H s) (u:Un X.fs [] H H' s.heap h') (hok:HOk X.prog X.w H' h'):Inv X pins σ H' { s with heap:=h',toks:=t' }:=by
 obtain ⟨m,⟨o,es,ep,ho,r⟩,_⟩:=id I.loc
 obtain ⟨sl,hL⟩:=u.any ho I.free (by simp)
 exact I.step (g':=s.gens) (d':=s.drawn) (ch:=[]) (fun _ z=>nomatch z) (fun b o _ hb _ e n=>u.keep b o e n hb (by simp)) (fun b o _ hb _ e n=>u.slot b o e n hb (by simp)) (fun b o _ e n=>u.free b o e n (by simp)) (fun b o _ e=>u.there b o e (by simp)) u.tups u.frzs u.tbls (fun m' hm=>by
  obtain ⟨o',es',ep',ho',r'⟩:=hm
  rw [ho] at ho';cases ho'
  exact ⟨_,es',ep',hL,r'⟩) hok I.bare
theorem Inv.call {g':Array GenState} {t':Nat} {d':Drawn} {ch:List Addr} (I:Inv X pins σ H s) (u:Un (frs X.stack) ch H H' s.heap h') (hok:HOk X.prog X.w H' h') (hg:AllBare g')
  (hch:∀ b∈ch,(b∈X.ex∨X.s₀.heap.objs.size≤b)∧b≠X.env.locals∧(∀ x c,X.env.cells.lookup x=some c→c≠b)∧∀ p∈X.pn ++ pins,p.1≠b) :
  Inv X pins σ H' { s with heap:=h',gens:=g',drawn:=d',toks:=t' }:=by
 obtain ⟨m,⟨o,es,ep,ho,r⟩,_⟩:=id I.loc
 obtain ⟨sl,hL⟩:=u.any ho I.free fun z=>(hch _ z).2.1 rfl
 exact I.step (ch:=ch) hch (fun b o hL hb hc e n=>u.keep b o e n (fun z=>(List.mem_cons.mp (I.stkSub b z)).elim hL hb) hc) (fun b o _ _ hc e n=>u.any e n hc) (fun b o hc e n=>u.free b o e n hc) (fun b o hc e=>u.there b o e hc) u.tups u.frzs u.tbls (fun m' hm=>by
  obtain ⟨o',es',ep',ho',r'⟩:=hm
  rw [ho] at ho';cases ho'
  exact ⟨_,es',ep',hL,r'⟩) hok hg
theorem Inv.turned {t':Nat} {it:Addr} (I:Inv X pins σ H s) (k:∀ b o,b≠it→s.heap.get? b=some o→h'.get? b=some o) (hn:H it=none) (hL:it≠X.env.locals)
  (h1:it∈X.ex∨X.s₀.heap.objs.size≤it) (h2:∀ x c,X.env.cells.lookup x=some c→c≠it) (h3:∀ p∈X.pn ++ pins,p.1≠it):Inv X pins σ H { s with heap:=h',toks:=t' }:=by
 have nit:∀ b u,H b=some u→b≠it:=fun b u e z=>by rw [z,hn] at e;cases e
 refine I.step (g':=s.gens) (d':=s.drawn) (ch:=[it]) (fun b hb=>?_) (fun b o _ _ hc e _=>k b o (fun z=>hc (by simp [z])) e) (fun b o _ _ hc e _=>⟨o.slots,k b o (fun z=>hc (by simp [z])) e⟩) (fun _ _ _ _ n=>n)
  (fun b o hc e=>⟨o,k b o (fun z=>hc (by simp [z])) e⟩) (fun _ _ e=>e) (fun _ _ _ e=>e) (fun b ps e=>⟨#[],by rw [e];simp⟩) (fun m hm=>?_) (fun b u e=>?_) I.bare
 ·have e:b=it:=by simpa using hb
  subst e
  exact ⟨h1,hL,h2,h3⟩
 ·obtain ⟨o,es,ep,ho,r⟩:=hm
  exact ⟨o,es,ep,k _ o (Ne.symm hL) ho,r⟩
 ·refine (I.hok b u e).stay (fun c v hc q=>k c v ?_ q) (fun _ q=>q) fun _ _ q=>q
  rcases hc with z | z
  ·rw [z];exact nit b u e
  ·exact nit c _ z
theorem Inv.tok (I:Inv X pins σ H s) (t:Nat):Inv X pins σ H { s with toks:=t }:=I.un (h':=s.heap) (t':=t) Un.refl I.hok
theorem Inv.kept {t':Nat} (I:Inv X pins σ H s) (k:∀ b u,s.heap.get? b=some u→h'.get? b=some u):Inv X pins σ H { s with heap:=h',toks:=t' }:=I.un (Un.kept k) (I.hok.kept k)
theorem Inv.laid {a:Addr} {o:HO} {t':Nat} (I:Inv X pins σ H s) (k:∀ b u,s.heap.get? b=some u→h'.get? b=some u) (hp:s.heap.objs.size≤a) (new:ObjOk X.prog X.w (upd H a o) h' a o) :
  Inv X pins σ (upd H a o) { s with heap:=h',toks:=t' }:=I.un (Un.laid k hp (I.hok.fresh hp)) (I.hok.laid k hp new)
theorem Inv.write {x e:Addr} {o:HO} {t':Nat} (I:Inv X pins σ H s) (mu:Mut (H x)) (he:e=x∨H e=some (.own x)) (k:∀ b u,b≠e→s.heap.get? b=some u→h'.get? b=some u) (heo:∃ u,h'.get? e=some u)
  (new:ObjOk X.prog X.w (upd H x o) h' x o):Inv X pins σ (upd H x o) { s with heap:=h',toks:=t' }:=I.un (Un.write mu he k heo) (I.hok.write mu he k heo new)
theorem Inv.pins_of {pins':List (Addr × Obj)} (I:Inv X pins σ H s) (h:∀ p∈pins',s.heap.get? p.1=some p.2∧H p.1=none∧p.1≠X.env.locals∧p.1 ∉ X.fs∧∀ v,p.2.data≠.cell v):Inv X pins' σ H s :=
 ⟨I.ok,I.os,I.bare,I.base,I.loc,I.cell,I.free,I.freeC,fun p hp=>(List.mem_append.mp hp).elim (fun z=>I.pin p (List.mem_append_left _ z)) (h p),I.hok,I.len⟩
theorem Vi {N:List Str} (hN:N.Nodup) {i j:Nat} {x:Str} (a:N[i]?=some x) (b:N[j]?=some x):i=j:=by
 obtain ⟨h1,e1⟩:=List.getElem?_eq_some_iff.mp a
 obtain ⟨h2,e2⟩:=List.getElem?_eq_some_iff.mp b
 exact (List.getElem_inj hN).mp (e1.trans e2.symm)
theorem K9 {M:Model} {A:Around} {E:Value→Shared→Prop} {i:Nat} {x:Str} {v:V} {u:Value} {Q:Unit→Shared→Prop} (I:Inv X pins σ H s) (hN:X.N.Nodup) (hi:X.N[i]?=some x) (hx:Loc X.env.scope x) (r:RelV v u)
  (h:∀ s',Inv X pins (σ.set i (some v)) H s'→(∃ a,Heap.SameBut a s.heap s'.heap∧(a=X.env.locals∨X.env.cells.lookup x=some a))→Q () s') (hf:X.fn x=true∨X.env.scope.names.lookup x=some .local:=by first | exact .inl rfl | exact .inr rfl | assumption):wpAny M A (storeName X.env x u) Q E s:=by
 obtain ⟨m,hn,hl⟩:=id I.loc
 have hcls:(X.env.scope.kind == .class || (X.env.scope.kind == .module && X.env.locals != X.env.globals))=false:=by rw [I.ok.kind];rfl
 have hiσ:i < σ.length:=by rw [I.len];exact (List.getElem?_eq_some_iff.mp hi).1
 have cne:=I.cne
 have tracked:∀ {a:Addr} {h':Heap},(∃ o,s.heap.get? a=some o∧H a=none)→Heap.SameBut a s.heap h'→HOk X.prog X.w H h':=fun {a h'} ha hs b ob e=>by
  obtain ⟨_,_,hfree⟩:=ha
  refine (I.hok b ob e).stay (fun c w' hc q=>(hs.2 c ?_).trans q) (fun _ q=>q) fun _ _ q=>q
  rintro rfl
  rcases hc with rfl | hc
  ·rw [hfree] at e;cases e
  ·rw [hfree] at hc;cases hc
 rcases hx with hk | hk
 ·refine wpAny_storeName_local hk hn (fun h' hn' hs=>?_) hcls
  obtain ⟨oL,_,_,hoL,_⟩:=id hn
  refine h _ ⟨I.ok,I.os,I.bare,⟨fun b o e n hb hx=>?_,fun b o e n hb hx=>?_,I.base.free,fun b o e hx=>?_,I.base.tups,I.base.frzs,I.base.tbls⟩,⟨_,hn',fun j y v' e1 e2 e3=>?_⟩,fun y c e=>?_,I.free,I.freeC,fun p hp=>?_,tracked ⟨oL,hoL,I.free⟩ hs,by simpa using I.len⟩ ⟨_,hs,.inl rfl⟩
  ·exact (hs.2 b (Nat.ne_of_lt (Nat.lt_of_lt_of_le (Heap.lt_size e) I.ok.above))).trans (I.base.keep b o e n hb hx)
  ·obtain ⟨sl,e1⟩:=I.base.slot b o e n hb hx
   exact ⟨sl,(hs.2 b (Nat.ne_of_lt (Nat.lt_of_lt_of_le (Heap.lt_size e) I.ok.above))).trans e1⟩
  ·obtain ⟨o',e1⟩:=I.base.there b o e hx
   exact ⟨o',(hs.2 b (Nat.ne_of_lt (Nat.lt_of_lt_of_le (Heap.lt_size e) I.ok.above))).trans e1⟩
  ·by_cases hj:j=i
   ·subst hj
    rw [hi] at e1;cases e1
    rw [List.getElem?_set_self hiσ] at e2
    cases e2
    exact ⟨u,r,.inl ⟨hk,by simp⟩⟩
   ·rw [List.getElem?_set_ne (Ne.symm hj)] at e2
    obtain ⟨u',r',q⟩:=hl j y v' e1 e2 e3
    refine ⟨u',r',?_⟩
    rcases q with ⟨k,e⟩ | ⟨k,c,e,z⟩
    ·refine .inl ⟨k,?_⟩
     have:y≠x:=fun e=>hj (Vi hN e1 (e ▸ hi))
     simp [this,e]
    ·exact .inr ⟨k,c,e,z.sameBut hs (cne y c e)⟩
  ·obtain ⟨w',z⟩:=I.cell y c e
   exact ⟨w',z.sameBut hs (cne y c e)⟩
  ·obtain ⟨e,n,ne,nf,d⟩:=I.pin p hp
   exact ⟨(hs.2 p.1 ne).trans e,n,ne,nf,d⟩
 ·have hfn:X.fn x=true:=by
   rcases hf with z | z
   ·exact z
   ·rw [z] at hk;cases hk
  obtain ⟨c,hc⟩:=I.ok.has x (.inl hk)
  obtain ⟨w',z⟩:=I.cell x c hc
  refine wpAny_storeName_cell I.ok.kind hk hc z (fun h' hc' hs=>?_)
  obtain ⟨oc,hoc,hocd⟩:=id z
  refine h { s with heap:=h' } ⟨I.ok,I.os,I.bare,⟨fun b o e n hb hx=>?_,fun b o e n hb hx=>?_,I.base.free,fun b o e hx=>?_,I.base.tups,I.base.frzs,I.base.tbls⟩,⟨m,hn.sameBut hs (Ne.symm (cne x c hc)),fun j y v' e1 e2 e3=>?_⟩,fun y c' e=>?_,I.free,I.freeC,fun p hp=>?_,tracked ⟨oc,hoc,I.freeC x c hc⟩ hs,by simpa using I.len⟩ ⟨c,hs,.inr hc⟩
  ·exact (hs.2 b (Nat.ne_of_lt (Nat.lt_of_lt_of_le (Heap.lt_size e) (I.ok.cab x c hfn hc)))).trans (I.base.keep b o e n hb hx)
  ·obtain ⟨sl,e1⟩:=I.base.slot b o e n hb hx
   exact ⟨sl,(hs.2 b (Nat.ne_of_lt (Nat.lt_of_lt_of_le (Heap.lt_size e) (I.ok.cab x c hfn hc)))).trans e1⟩
  ·obtain ⟨o',e1⟩:=I.base.there b o e hx
   exact ⟨o',(hs.2 b (Nat.ne_of_lt (Nat.lt_of_lt_of_le (Heap.lt_size e) (I.ok.cab x c hfn hc)))).trans e1⟩
  ·by_cases hj:j=i
   ·subst hj
    rw [hi] at e1;cases e1
    rw [List.getElem?_set_self hiσ] at e2
    cases e2
    exact ⟨u,r,.inr ⟨.inl hk,c,hc,hc'⟩⟩
   ·rw [List.getElem?_set_ne (Ne.symm hj)] at e2
    obtain ⟨u',r',q⟩:=hl j y v' e1 e2 e3
    refine ⟨u',r',?_⟩
    rcases q with q | ⟨k,c',e,z'⟩
    ·exact .inl q
    ·refine .inr ⟨k,c',e,z'.sameBut hs ?_⟩
     rintro rfl
     exact hj (Vi hN e1 (I.ok.inj _ _ _ e hc ▸ hi))
  ·by_cases hcc:c'=c
   ·subst hcc;exact ⟨_,hc'⟩
   ·obtain ⟨w2,z2⟩:=I.cell y c' e
    exact ⟨w2,z2.sameBut hs hcc⟩
  ·obtain ⟨e,n,ne,nf,d⟩:=I.pin p hp
   refine ⟨(hs.2 p.1 ?_).trans e,n,ne,nf,d⟩
   intro q
   rw [q,hoc] at e
   have q':oc=p.2:=Option.some.inj e
   exact d w' (by rw [← q'];exact hocd)
theorem Ys {M:Model} {A:Around} {E:Value→Shared→Prop} {i:Nat} {x:Str} {v:V} {u:Value} {Q:Unit→Shared→Prop} (I:Inv X pins σ H s) (hN:X.N.Nodup) (hi:X.N[i]?=some x) (hx:Loc X.env.scope x) (r:RelV v u)
  (h:∀ s',Inv X pins (σ.set i (some v)) H s'→Q () s') (hf:X.fn x=true∨X.env.scope.names.lookup x=some .local:=by first | exact .inl rfl | exact .inr rfl | assumption):wpAny M A (storeName X.env x u) Q E s :=
 K9 I hN hi hx r (fun s' I' _=>h s' I') hf
theorem Inv.call' {s':Shared} {ch:List Addr} (I:Inv X pins σ H s) (ho:s'.os=s.os) (u:Un (frs X.stack) ch H H' s.heap s'.heap) (hok:HOk X.prog X.w H' s'.heap) (hg:AllBare s'.gens)
  (hch:∀ b∈ch,(b∈X.ex∨X.s₀.heap.objs.size≤b)∧b≠X.env.locals∧(∀ x c,X.env.cells.lookup x=some c→c≠b)∧∀ p∈X.pn ++ pins,p.1≠b):Inv X pins σ H' s':=by
 obtain ⟨h',g',d',t',o'⟩:=s'
 have e:o'=s.os:=ho
 subst e
 exact I.call (g':=g') (t':=t') (d':=d') u hok hg hch
end
abbrev XK:=Value→Option Addr→Hp→Prop
abbrev St:=List (Option V)
abbrev VK:=V→Hp→Prop
abbrev TE:=St→Hp→VK→Prop
abbrev TT:=St→Hp→(Bool→Hp→Prop)→Prop
abbrev TA:=St→Hp→(List V→Hp→Prop)→Prop
set_option genSizeOf false in
set_option genInjectivity false in
structure ZE where
 nx:St→Hp→Prop
 rt:VK
 bk:St→Hp→Prop:=fun _ _=>False
 ct:St→Hp→Prop:=fun _ _=>False
abbrev TS:=ZE→St→Hp→Prop
def EP (X:Cx) (pins:List (Addr × Obj)) (σ:St) (Q:VK) (u:Value) (s':Shared):Prop:=∃ v H',Inv X pins σ H' s'∧RelV v u∧Q v H'
def TP (X:Cx) (pins:List (Addr × Obj)) (σ:St) (Q:Bool→Hp→Prop) (b:Bool) (s':Shared):Prop:=∃ H',Inv X pins σ H' s'∧Q b H'
def AP (X:Cx) (pins:List (Addr × Obj)) (σ:St) (Q:List V→Hp→Prop) (us:List Value) (s':Shared):Prop:=∃ vs H',Inv X pins σ H' s'∧Vals vs us∧Q vs H'
def SP (X:Cx) (pins:List (Addr × Obj)) (D:ZE) (f:Flow) (s':Shared):Prop :=
 match f with
 | .next=>∃ σ' H',Inv X pins σ' H' s'∧D.nx σ' H'
 | .brk=>∃ σ' H',Inv X pins σ' H' s'∧D.bk σ' H'
 | .cont=>∃ σ' H',Inv X pins σ' H' s'∧D.ct σ' H'
 | .ret u=>∃ v σ' H',Inv X pins σ' H' s'∧RelV v u∧D.rt v H'
def PE (X:Cx) (e:Expr) (t:TE):Prop :=
 ∀ (pins:List (Addr × Obj)) (s:Shared) (σ:St) (H:Hp) (Q:VK),Inv X pins σ H s→t σ H Q→wpAny (model X.prog X.w) X.A (eval e X.env) (EP X pins σ Q) X.xe s
def PT (X:Cx) (e:Expr) (t:TT):Prop :=
 ∀ (pins:List (Addr × Obj)) (s:Shared) (σ:St) (H:Hp) (Q:Bool→Hp→Prop),Inv X pins σ H s→t σ H Q→wpAny (model X.prog X.w) X.A (isTrue e X.env (eval e X.env)) (TP X pins σ Q) X.xe s
def PW (X:Cx) (e:Expr) (t:TT):Prop :=
 ∀ (whole:Sem Value) (pins:List (Addr × Obj)) (s:Shared) (σ:St) (H:Hp) (Q:Bool→Hp→Prop),Inv X pins σ H s→t σ H Q→wpAny (model X.prog X.w) X.A (isTrue e X.env whole) (TP X pins σ Q) X.xe s
theorem PW.pt {X:Cx} {e:Expr} {t:TT} (h:PW X e t):PT X e t:=h _
def PA (X:Cx) (es:List Expr) (t:TA):Prop :=
 ∀ (pos:Pos) (pins:List (Addr × Obj)) (s:Shared) (σ:St) (H:Hp) (Q:List V→Hp→Prop),Inv X pins σ H s→t σ H Q→wpAny (model X.prog X.w) X.A (spliced (backTo pos (starEach es X.env))) (AP X pins σ Q) X.xe s
def PS (X:Cx) (st:Stmt) (t:TS):Prop :=
 ∀ (pins:List (Addr × Obj)) (s:Shared) (σ:St) (H:Hp) (D:ZE),Inv X pins σ H s→t D σ H→wpAny (model X.prog X.w) X.A (exec st X.env) (SP X pins D) X.xe s
def PSs (X:Cx) (st:List Stmt) (t:TS):Prop :=
 ∀ (pins:List (Addr × Obj)) (s:Shared) (σ:St) (H:Hp) (D:ZE),Inv X pins σ H s→t D σ H→wpAny (model X.prog X.w) X.A (execs st X.env) (SP X pins D) X.xe s
theorem thn {α:Type} {t:Sem α} {Q Q':α→Shared→Prop} {M:Model} {A:Around} {E:Value→Shared→Prop} {s:Shared} (h:wpAny M A t Q E s) (hQ:∀ a s,Q a s→Q' a s):wpAny M A t Q' E s:=wpAny_mono h hQ fun _ _ x=>x
end L2
namespace L2
open PySem PySem.Spec PyProof.Rows
section
variable {X:Cx}
def zc (i:Nat):TE:=fun σ H Q=>∃ v,σ[i]?=some (some v)∧Q v H
def tC (v:V):TE:=fun _ H Q=>Q v H
theorem zcr {i:Nat} {x:Str} {pos:Pos} (hN:X.N[i]?=some x) (hv:Vis X.env.scope x) (hd:(x == ("__debug__":Str))=false:=by decide) (hcd:(x == ("__classdict__":Str))=false:=by decide):PE X (.Name x pos) (zc i):=by
 intro pins s σ H Q I h
 obtain ⟨v,e,h⟩:=h
 obtain ⟨m,hn,hl⟩:=I.loc
 obtain ⟨u,r,l⟩:=hl i x v hN e hv
 have fin:EP X pins σ Q u s:=⟨v,H,I,r,h⟩
 rcases l with ⟨hk,hm⟩ | ⟨hk,c,hc,hcell⟩
 ·exact wpAny_Name (wpAny_loadName_local I.ok.kind hk hn hm fin) hd
 ·rcases hk with hk | hk
  ·exact wpAny_Name (wpAny_loadName_cell I.ok.kind hk hc hcell fin) hd
  ·exact wpAny_Name (wpAny_loadName_free I.ok.kind hk hc hcell fin hcd) hd
theorem zf {i j pos}:PE X (.Constant (.int i) j pos) (tC (.int i)):=fun _ _ _ H _ I h=>wpAny_Constant_int ⟨.int i,H,I.tok _,⟨_,rfl⟩,h⟩
theorem qG {b j pos}:PE X (.Constant (.bool b) j pos) (tC (.bl b)):=fun _ _ _ H _ I h=>Constant_bool ⟨.bl b,H,I,rfl,h⟩
theorem kK {j pos}:PE X (.Constant .none j pos) (tC .non):=fun _ _ _ H _ I h=>Constant_none ⟨.non,H,I,rfl,h⟩
theorem zR {x j pos}:PE X (.Constant (.str x) j pos) (tC (.str x)):=fun _ _ _ H _ I h=>Calls.Constant_str ⟨.str x,H,I.tok _,⟨_,rfl⟩,h⟩
def Gl (X:Cx) (x:Str):Prop:=X.env.kindOf x=some .globalImplicit
theorem vD {E:Value→Shared→Prop} {pins:List (Addr × Obj)} {s:Shared} {σ:St} {H:Hp} {x:Str} {u:Value} {pos:Pos} {Q:Value→Shared→Prop} (I:Inv X pins σ H s) (hg:Gl X x) (hm:X.mg x=some u) (h:Q u s)
  (hd:(x == ("__debug__":Str))=false:=by decide):wpAny (model X.prog X.w) X.A (eval (.Name x pos) X.env) Q E s :=
 Calls.Name_function_global I.ok.kind hg (Calls.loadGlobal_global (by rw [I.ok.glob];exact I.mod.glob.keeps I.bk) hm h) hd
theorem Yt {E:Value→Shared→Prop} {pins:List (Addr × Obj)} {s:Shared} {σ:St} {H:Hp} {x:Str} {u:Value} {pos:Pos} {Q:Value→Shared→Prop} (I:Inv X pins σ H s) (hg:Gl X x) (hm:X.mg x=none) (hv:bootBuiltins x=some u) (h:Q u s)
  (hn:x≠"__name__":=by decide) (hd:(x == ("__debug__":Str))=false:=by decide):wpAny (model X.prog X.w) X.A (eval (.Name x pos) X.env) Q E s:=by
 obtain ⟨mb,h1,h2⟩:=I.mod.blt
 exact Calls.Name_function_global I.ok.kind hg (Calls.loadGlobal_builtin (by rw [I.ok.glob];exact I.mod.glob.keeps I.bk) hm (by rw [I.ok.blt];exact h1.keeps I.bk) ((h2 x hn).trans hv) h) hd
theorem za3 {x:Str} {v:V} {u:Value} {pos:Pos} (hg:Gl X x) (hm:X.mg x=some u) (r:RelV v u) (hd:(x == ("__debug__":Str))=false:=by decide):PE X (.Name x pos) (tC v) :=
 fun _ _ _ H _ I h=>vD I hg hm ⟨v,H,I,r,h⟩ hd
theorem qm {x:Str} {v:V} {u:Value} {pos:Pos} (hg:Gl X x) (hm:X.mg x=none) (hv:bootBuiltins x=some u) (r:RelV v u) (hn:x≠"__name__":=by decide) (hd:(x == ("__debug__":Str))=false:=by decide):PE X (.Name x pos) (tC v) :=
 fun _ _ _ H _ I h=>Yt I hg hm hv ⟨v,H,I,r,h⟩ hn hd
variable {a b:Expr} {ta tb:TE} {pos:Pos}
def tB (t:TE):TT:=fun σ H Q=>t σ H fun x H1=>∃ c,x=.bl c∧Q c H1
theorem wz {e:Expr} {t:TE} (h:PE X e t) (he:∀ whole,isTrue e X.env whole=(do let v ← whole;standAt e.pos;holding [v] (truthy v)):=by intro _;rfl):PT X e (tB t):=by
 intro pins s σ H Q I hw
 refine isTrue_plain (thn (h pins s σ H _ I hw) fun v s1 ⟨x,H1,I1,r1,q1⟩=>?_) (he _)
 obtain ⟨d,rfl,q⟩:=q1
 cases r1
 exact wpAny_truthy_bool ⟨H1,I1,q⟩
variable {tA tB':TT} {rest:List Expr}
def Vj (t u:TT):TT:=fun σ H Q=>t σ H fun c H1=>if c=true then u σ H1 Q else Q false H1
def tOr (t u:TT):TT:=fun σ H Q=>t σ H fun c H1=>if c=true then Q true H1 else u σ H1 Q
def xx (t:TT):TT:=fun σ H Q=>t σ H fun c H1=>Q (!c) H1
theorem Kf (ha:PT X a tA):PW X (.BoolOp .And [a] pos) tA:=by
 intro wh pins s σ H Q I h
 refine isTrue_and (thn (ha pins s σ H Q I h) fun c s1 e=>?_)
 cases c with
 | true=>exact isTrue_and_nil e
 | false=>exact e
theorem Yu (ha:PT X a tA):PW X (.BoolOp .Or [a] pos) tA:=by
 intro wh pins s σ H Q I h
 refine isTrue_or (thn (ha pins s σ H Q I h) fun c s1 e=>?_)
 cases c with
 | false=>exact isTrue_or_nil e
 | true=>exact e
theorem Jq (ha:PT X a tA) (hb:PW X (.BoolOp .And (b :: rest) pos) tB'):PW X (.BoolOp .And (a :: b :: rest) pos) (Vj tA tB'):=by
 intro wh pins s σ H Q I h
 refine isTrue_and (thn (ha pins s σ H _ I h) fun c s1 ⟨H1,I1,q1⟩=>?_)
 cases c with
 | true=>exact hb wh pins s1 σ H1 Q I1 q1
 | false=>exact ⟨H1,I1,q1⟩
theorem Vk (ha:PT X a tA) (hb:PW X (.BoolOp .Or (b :: rest) pos) tB'):PW X (.BoolOp .Or (a :: b :: rest) pos) (tOr tA tB'):=by
 intro wh pins s σ H Q I h
 refine isTrue_or (thn (ha pins s σ H _ I h) fun c s1 ⟨H1,I1,q1⟩=>?_)
 cases c with
 | true=>exact ⟨H1,I1,q1⟩
 | false=>exact hb wh pins s1 σ H1 Q I1 q1
theorem jX (ha:PT X a tA):PT X (.UnaryOp .Not a pos) (xx tA):=by
 intro pins s σ H Q I h
 exact isTrue_not (ha pins s σ H (fun c H1=>Q (!c) H1) I h)
def kx (ta tb:TE):TE:=fun σ H Q=>ta σ H fun x H1=>∃ c,x=.bl c∧if c=true then tb σ H1 Q else Q (.bl false) H1
def zcs (ta tb:TE):TE:=fun σ H Q=>ta σ H fun x H1=>∃ c,x=.bl c∧if c=true then Q (.bl true) H1 else tb σ H1 Q
def zea (ta:TE):TE:=fun σ H Q=>ta σ H fun x H1=>∃ c,x=.bl c∧Q (.bl (!c)) H1
theorem Jr {op} {t:TE} (h:PE X a t):PE X (.BoolOp op [a] pos) t:=fun pins s σ H Q I hw=>BoolOp_one (h pins s σ H Q I hw)
theorem Wp (ha:PE X a ta) (hb:PE X (.BoolOp .And (b :: rest) pos) tb):PE X (.BoolOp .And (a :: b :: rest) pos) (kx ta tb):=by
 intro pins s σ H Q I h
 refine BoolOp_and (thn (ha pins s σ H _ I h) fun v s1 ⟨x,H1,I1,r1,q1⟩=>?_)
 obtain ⟨c,rfl,q1⟩:=q1
 cases r1
 refine wpAny_truthy_bool ?_
 cases c with
 | true=>exact hb pins s1 σ H1 Q I1 q1
 | false=>exact ⟨.bl false,H1,I1,rfl,q1⟩
theorem zdg (ha:PE X a ta) (hb:PE X (.BoolOp .Or (b :: rest) pos) tb):PE X (.BoolOp .Or (a :: b :: rest) pos) (zcs ta tb):=by
 intro pins s σ H Q I h
 refine BoolOp_or (thn (ha pins s σ H _ I h) fun v s1 ⟨x,H1,I1,r1,q1⟩=>?_)
 obtain ⟨c,rfl,q1⟩:=q1
 cases r1
 refine wpAny_truthy_bool ?_
 cases c with
 | false=>exact hb pins s1 σ H1 Q I1 q1
 | true=>exact ⟨.bl true,H1,I1,rfl,q1⟩
def tIf (t:TT) (ta tb:TE):TE:=fun σ H Q=>t σ H fun c H1=>if c=true then ta σ H1 Q else tb σ H1 Q
theorem vQ {c:Expr} (hc:PT X c tA) (ha:PE X a ta) (hb:PE X b tb):PE X (.IfExp c a b pos) (tIf tA ta tb):=by
 intro pins s σ H Q I h
 refine wpAny_IfExp (thn (hc pins s σ H _ I h) fun d s1 ⟨H1,I1,q1⟩=>?_)
 cases d with
 | true=>exact ha pins s1 σ H1 Q I1 q1
 | false=>exact hb pins s1 σ H1 Q I1 q1
end
end L2
namespace L2
open PySem PySem.Spec PyProof.Rows
def SqL (K:W.Frag) (H:Hp) (a:Addr) (xs:List V):Prop :=
 Rd H a (.lst xs) ∨
  ∃ (o:Obj) (its:Array Value) (n:Nat),K.lookup a=some o∧o.cls=.type "list"∧o.dict=none∧o.data=.seq its n∧its.size≤sizeLine∧Vals xs its.toList
def SqT (K:W.Frag) (H:Hp) (a:Addr) (xs:List V):Prop :=
 Rd H a (.tup xs) ∨
  ∃ (o:Obj) (its:Array Value) (n:Nat),K.lookup a=some o∧o.cls=.type "tuple"∧o.data=.seq its n∧its.size≤sizeLine∧Vals xs its.toList
def zdN:Value→Option V
 | .none=>some .non
 | .bool b=>some (.bl b)
 | .int i _=>some (.int i)
 | .str x _=>some (.str x)
 | .bytes b _=>some (.byt b)
 | .float b _=>some (.flt b)
 | .ref a=>some (.ref a)
 | .type n=>some (.ty n)
 | _=>none
theorem RelV.abs {x:V} {u:Value} (r:RelV x u):zdN u=some x:=by
 cases x with
 | non=>cases r;rfl
 | bl _=>cases r;rfl
 | int _=>obtain ⟨t,rfl⟩:=r;rfl
 | str _=>obtain ⟨t,rfl⟩:=r;rfl
 | byt _=>obtain ⟨t,rfl⟩:=r;rfl
 | flt _=>obtain ⟨t,rfl⟩:=r;rfl
 | ref _=>cases r;rfl
 | ty _=>cases r;rfl
theorem RelV.inj {x y:V} {u:Value} (r:RelV x u) (q:RelV y u):x=y:=Option.some.inj (r.abs.symm.trans q.abs)
theorem Vals.inj:∀ {xs ys:List V} {us:List Value},Vals xs us→Vals ys us→xs=ys
 | _,_,_,.nil,.nil=>rfl
 | _,_,_,.cons r t,.cons r' t'=>by rw [r.inj r',Vals.inj t t']
section
variable {X:Cx} {pins:List (Addr × Obj)} {σ:St} {H:Hp} {s:Shared} {a:Addr} {xs ys:List V}
theorem SqL.of {K:W.Frag} (h:H a=some (.lst xs)):SqL K H a xs:=.inl (.inl h)
theorem SqT.of {K:W.Frag} (h:H a=some (.tup xs)):SqT K H a xs:=.inl (.inl h)
theorem Inv.list (I:Inv X pins σ H s) (h:SqL X.K H a xs):∃ its:List Value,Vals xs its∧PlainL s.heap a its.toArray∧xs.length≤sizeLine:=by
 rcases h with h | ⟨o,its,n,hk,hc,hd,hs,hz,r⟩
 ·obtain ⟨z,its,n,r,e⟩:=h.ok I.hok
  exact ⟨its,r,⟨_,n,e,rfl,rfl,rfl⟩,z⟩
 ·refine ⟨its.toList,r,⟨o,n,I.kIn a o hk,hc,hd,by simpa using hs⟩,?_⟩
  have e:=r.length
  simp only [Array.length_toList] at e
  lia
theorem Inv.tuple (I:Inv X pins σ H s) (h:SqT X.K H a xs):∃ its:List Value,Vals xs its∧IsTup s.heap a its.toArray∧xs.length≤sizeLine:=by
 rcases h with h | ⟨o,its,n,hk,hc,hs,hz,r⟩
 ·obtain ⟨z,its,r,p⟩:=h.ok I.hok
  exact ⟨its,r,p,z⟩
 ·refine ⟨its.toList,r,⟨o,I.kIn a o hk,hc,n,by simpa using hs⟩,?_⟩
  have e:=r.length
  simp only [Array.length_toList] at e
  lia
theorem Inv.list_inj (I:Inv X pins σ H s) (h:SqL X.K H a xs) (h':SqL X.K H a ys):xs=ys:=by
 obtain ⟨its,r,⟨o,n,e,_,_,d⟩,_⟩:=I.list h
 obtain ⟨its',r',⟨o',n',e',_,_,d'⟩,_⟩:=I.list h'
 rw [e] at e';cases e'
 rw [d] at d'
 injection d' with d1 _
 have:its=its':=by simpa using congrArg Array.toList d1
 subst this
 exact r.inj r'
theorem Inv.tuple_inj (I:Inv X pins σ H s) (h:SqT X.K H a xs) (h':SqT X.K H a ys):xs=ys:=by
 obtain ⟨its,r,⟨o,e,_,n,d⟩,_⟩:=I.tuple h
 obtain ⟨its',r',⟨o',e',_,n',d'⟩,_⟩:=I.tuple h'
 rw [e] at e';cases e'
 rw [d] at d'
 injection d' with d1 _
 have:its=its':=by simpa using congrArg Array.toList d1
 subst this
 exact r.inj r'
end
abbrev Cx.wish (X:Cx) (E:Value→Shared→Prop):Cx:={ X with xe:=E }
abbrev Cx.nox (X:Cx):Cx:=X.wish fun _ _=>False
theorem Cx.Ok.wish {X:Cx} (ok:X.Ok) (E:Value→Shared→Prop):(X.wish E).Ok :=
 ⟨ok.mod,ok.kind,ok.glob,ok.blt,ok.above,ok.inj,ok.has,ok.cab,ok.hd,ok.frames,ok.stk,ok.exf,ok.bs,ok.bsz,ok.noex,ok.exfs,ok.funs,ok.frf⟩
theorem Cx.Ok.unwish {X:Cx} {E:Value→Shared→Prop} (ok:(X.wish E).Ok):X.Ok :=
 ⟨ok.mod,ok.kind,ok.glob,ok.blt,ok.above,ok.inj,ok.has,ok.cab,ok.hd,ok.frames,ok.stk,ok.exf,ok.bs,ok.bsz,ok.noex,ok.exfs,ok.funs,ok.frf⟩
section
variable {X:Cx} {pins:List (Addr × Obj)} {σ:St} {H:Hp} {s:Shared} {E:Value→Shared→Prop}
theorem Inv.wish (I:Inv X pins σ H s) (E:Value→Shared→Prop):Inv (X.wish E) pins σ H s:=⟨I.ok.wish E,I.os,I.bare,I.base,I.loc,I.cell,I.free,I.freeC,I.pin,I.hok,I.len⟩
theorem Inv.unwish (I:Inv (X.wish E) pins σ H s):Inv X pins σ H s:=⟨I.ok.unwish,I.os,I.bare,I.base,I.loc,I.cell,I.free,I.freeC,I.pin,I.hok,I.len⟩
theorem SP.unwish {D:ZE} {f:Flow} {s':Shared} (h:SP (X.wish E) pins D f s'):SP X pins D f s':=by
 cases f with
 | next=>obtain ⟨σ',H',I,q⟩:=h;exact ⟨σ',H',I.unwish,q⟩
 | brk=>obtain ⟨σ',H',I,q⟩:=h;exact ⟨σ',H',I.unwish,q⟩
 | cont=>obtain ⟨σ',H',I,q⟩:=h;exact ⟨σ',H',I.unwish,q⟩
 | ret u=>obtain ⟨v,σ',H',I,r,q⟩:=h;exact ⟨v,σ',H',I.unwish,r,q⟩
theorem PSs.nox {st:List Stmt} {t:TS} (h:PSs X.nox st t):PSs X st t:=fun pins s σ H D I hw =>
 wpAny_mono (h pins s σ H D (I.wish _) hw) (fun _ _ q=>q.unwish) fun _ _ z=>False.elim z
end
section
variable {X:Cx} {st:Stmt} {rest:List Stmt} {t u:TS} {e:Expr} {te:TE} {pos:Pos}
def zD:TS:=fun D σ H=>D.nx σ H
def zn (t u:TS):TS:=fun D σ H=>t { D with nx:=u D } σ H
theorem zS:PSs X [] zD:=fun _ _ σ H _ I h=>wpAny_execs_nil ⟨σ,H,I,h⟩
theorem zg (h1:PS X st t) (h2:PSs X rest u):PSs X (st :: rest) (zn t u):=by
 intro pins s σ H D I h
 refine wpAny_execs_cons (thn (h1 pins s σ H { D with nx:=u D } I h) fun f s1 q=>?_)
 cases f with
 | next =>
  obtain ⟨σ',H',I',q⟩:=q
  exact h2 pins s1 σ' H' D I' q
 | ret v=>exact q
 | brk=>exact q
 | cont=>exact q
theorem zi (h1:PS X st t):PSs X [st] t:=by
 intro pins s σ H D I h
 refine wpAny_execs_cons (thn (h1 pins s σ H D I h) fun f s1 q=>?_)
 cases f with
 | next=>exact wpAny_execs_nil q
 | ret v=>exact q
 | brk=>exact q
 | cont=>exact q
theorem Inv.quiet {pins:List (Addr × Obj)} {σ:St} {H:Hp} {s:Shared} (I:Inv X pins σ H s):interactive X.env=false:=by simp [interactive,I.ok.kind]
def yd (te:TE):TS:=fun D σ H=>te σ H fun _ H1=>D.nx σ H1
theorem vE (he:PE X e te) (hs:swapsWith e none pos.line X.env=pure false:=by rfl):PS X (.Expr e pos) (yd te):=by
 intro pins s σ H D I h
 exact wpAny_Expr_any (thn (he pins s σ H _ I h) fun v s1 ⟨x,H1,I1,r1,q1⟩=>⟨σ,H1,I1,q1⟩) I.quiet hs
def zt (te:TE):TS:=fun D σ H=>te σ H D.rt
theorem zA (he:PE X e te):PS X (.Return (some e) pos) (zt te):=by
 intro pins s σ H D I h
 exact wpAny_Return_some (thn (he pins s σ H _ I h) fun v s1 ⟨x,H1,I1,r1,q1⟩=>⟨x,σ,H1,I1,r1,q1⟩)
def QG:TS:=fun D _ H=>D.rt .non H
theorem za4:PS X (.Return none pos) QG:=fun _ _ σ H _ I h=>wpAny_Return_none ⟨.non,σ,H,I,rfl,h⟩
def zF (c:TT) (t u:TS):TS:=fun D σ H=>c σ H fun b H1=>if b=true then t D σ H1 else u D σ H1
theorem zY {c:Expr} {a b:List Stmt} {tc:TT} (hc:PT X c tc) (ha:PSs X a t) (hb:PSs X b u):PS X (.If c a b pos) (zF tc t u):=by
 intro pins s σ H D I h
 refine wpAny_If (thn (hc pins s σ H _ I h) fun d s1 ⟨H1,I1,q1⟩=>?_)
 cases d with
 | true=>exact ha pins s1 σ H1 D I1 q1
 | false=>exact hb pins s1 σ H1 D I1 q1
def zdO:TS:=fun _ _ _=>False
end
abbrev TG:=V→St→Hp→(St→Hp→Prop)→Prop
abbrev TGs:=List V→St→Hp→(St→Hp→Prop)→Prop
def PG (X:Cx) (target:Expr) (t:TG):Prop :=
 ∀ (pins:List (Addr × Obj)) (s:Shared) (σ:St) (H:Hp) (v:V) (u:Value) (Q:St→Hp→Prop),Inv X pins σ H s→RelV v u→t v σ H Q →
  wpAny (model X.prog X.w) X.A (assign target X.env u) (fun _ s'=>∃ σ' H',Inv X pins σ' H' s'∧Q σ' H') X.xe s
def PGs (X:Cx) (ts:List Expr) (t:TGs):Prop :=
 ∀ (pins:List (Addr × Obj)) (s:Shared) (σ:St) (H:Hp) (vs:List V) (us:List Value) (Q:St→Hp→Prop),Inv X pins σ H s→Vals vs us→t vs σ H Q →
  wpAny (model X.prog X.w) X.A (assignInOrder ((assignEach ts X.env).map (·.2)) us) (fun _ s'=>∃ σ' H',Inv X pins σ' H' s'∧Q σ' H') X.xe s
abbrev TIp:=V→V→Hp→VK→Prop
section
variable {X:Cx} {pos:Pos}
def zl (i:Nat):TG:=fun v σ H Q=>Q (σ.set i (some v)) H
theorem yz {i:Nat} {x:Str} (hN:X.N.Nodup) (hi:X.N[i]?=some x) (hx:Loc X.env.scope x) (hf:X.fn x=true∨X.env.scope.names.lookup x=some .local:=by first | exact .inl rfl | exact .inr rfl | assumption):PG X (.Name x pos) (zl i):=by
 intro pins s σ H v u Q I r h
 exact wpAny_assign_Name (Ys I hN hi hx r (fun s' I'=>⟨_,H,I',h⟩) hf)
def jI:TGs:=fun vs σ H Q=>vs=[]∧Q σ H
def xu (t:TG) (u:TGs):TGs:=fun vs σ H Q=>∃ v r,vs=v :: r∧t v σ H fun σ' H'=>u r σ' H' Q
theorem Yj:PGs X [] jI:=by
 intro pins s σ H vs us Q I r h
 obtain ⟨e,h⟩:=h
 subst e
 cases r
 exact assignInOrder_nil ⟨σ,H,I,h⟩
theorem wR {e:Expr} {es:List Expr} {t:TG} {u:TGs} (h1:PG X e t) (h2:PGs X es u)
  (hs:(assignEach (e :: es) X.env).map (·.2)=assign e X.env :: (assignEach es X.env).map (·.2):=by rfl):PGs X (e :: es) (xu t u):=by
 intro pins s σ H vs us Q I r h
 obtain ⟨v,vr,e1,h⟩:=h
 subst e1
 cases r with
 | cons r rr =>
  rw [hs]
  refine assignInOrder_cons (thn (h1 pins s σ H _ _ _ I r h) fun _ s1 ⟨σ1,H1,I1,q1⟩=>?_)
  exact h2 pins s1 σ1 H1 _ _ Q I1 rr q1
def jJ (K:W.Frag) (n:Nat) (t:TGs):TG:=fun v σ H Q=>∃ a xs,v=.ref a∧SqT K H a xs∧xs.length=n∧t xs σ H Q
theorem Wq {es:List Expr} {k:Nat} {t:TGs} {n:Nat} (hc:X.calm=true) (h:PGs X es t)
  (hn:(assignEach es X.env).length=n:=by rfl) (hst:(assignEach es X.env).findIdx? (·.1)=none:=by rfl):PG X (.Tuple es k pos) (jJ X.K n t):=by
 intro pins s σ H v u Q I r hw
 obtain ⟨a,xs,e1,hq,hl,hw⟩:=hw
 subst e1
 cases r
 obtain ⟨its,rv,ht,hz⟩:=I.tuple hq
 refine assign_Tuple_tuple (I.ok.hd hc) ht (by simp [hn,← hl,rv.length]) hst fun h' hx=>?_
 have I1:Inv X pins σ H { s with heap:=h' }:=I.kept (t':=s.toks) fun b o e=>hx b o (Nat.ne_of_lt (Heap.lt_size e)) e
 exact h pins _ σ H xs _ Q I1 (by simpa using rv) hw
def zH (te:TE) (g:TG):TS:=fun D σ H=>te σ H fun x H1=>g x σ H1 D.nx
theorem zct {tg e:Expr} {te:TE} {g:TG} (he:PE X e te) (hg:PG X tg g) (hs:swapsWithSole [tg] e pos.line X.env=pure false:=by rfl) (hw:swappedStores [tg] e X.env=pure none:=by rfl)
  (h1:(assignEach [tg] X.env).map (·.2)=[assign tg X.env]:=by rfl):PS X (.Assign [tg] e pos) (zH te g):=by
 intro pins s σ H D I h
 refine wpAny_Assign_stores (thn (he pins s σ H _ I h) fun v s1 ⟨x,H1,I1,r1,q1⟩=>?_) hs hw
 rw [h1]
 exact thn (hg pins s1 σ H1 x v _ I1 r1 q1) fun _ s2 q=>q
theorem zK {i:Nat} {x:Str} {e:Expr} {te:TE} {pos':Pos} (hN:X.N.Nodup) (hi:X.N[i]?=some x) (hx:Loc X.env.scope x) (he:PE X e te) (hs:swapsWith e (some (.Name x pos')) pos.line X.env=pure false:=by rfl) (hf:X.fn x=true∨X.env.scope.names.lookup x=some .local:=by first | exact .inl rfl | exact .inr rfl | assumption) :
  PS X (.Assign [.Name x pos'] e pos) (zH te (zl i)):=by
 intro pins s σ H D I h
 refine wpAny_Assign_Name (thn (he pins s σ H _ I h) fun v s1 ⟨y,H1,I1,r1,q1⟩=>?_) hs
 exact Ys I1 hN hi hx r1 (fun s2 I2=>⟨_,H1,I2,q1⟩) hf
def zex (i:Nat) (te:TE) (ti:TIp):TS:=fun D σ H=>∃ x,σ[i]?=some (some x)∧te σ H fun y H1=>ti x y H1 fun z H2=>D.nx (σ.set i (some z)) H2
def ipI (f:Int→Int→Int):TIp:=fun x y H Q=>∃ i j,x=.int i∧y=.int j∧Q (.int (f i j)) H
end
section
variable {X:Cx} {pos:Pos}
def Js (c:TT) (tb:TS):TS:=fun D σ H=>∃ W:Nat→St→Hp→Prop,(∃ m,W m σ H)∧∀ m σ H,W m σ H →
 c σ H fun b H1=>if b=true then ∃ N:St→Hp→Prop,(∀ σ' H',N σ' H'→∃ m',m' < m∧W m' σ' H')∧tb { D with nx:=N,ct:=N,bk:=D.nx } σ H1 else D.nx σ H1
theorem QH {c:Expr} {body:List Stmt} {tc:TT} {tb:TS} (hp:PassesOwn (model X.prog X.w) X.A X.env X.xe) (hc:PT X c tc) (hb:PSs X body tb):PS X (.While c body [] pos) (Js tc tb):=by
 intro pins s σ H D I h
 obtain ⟨W,⟨m0,w0⟩,turn⟩:=h
 refine wpAny_While (codeAny_whileLoop (fun n s'=>∃ σ' H',Inv X pins σ' H' s'∧W n σ' H') ?_ m0 ⟨σ,H,I,w0⟩)
 rintro n s1 ⟨σ1,H1,I1,w1⟩
 refine wpAny_passesOwn hp (thn (hc pins s1 σ1 H1 _ I1 (turn n σ1 H1 w1)) fun b s2 ⟨H2,I2,q2⟩=>?_)
 cases b with
 | true =>
  obtain ⟨N,hN,q2⟩:=q2
  rw [if_pos rfl]
  refine wpAny_passesOwn hp (thn (hb pins s2 σ1 H2 _ I2 q2) fun f s3 q3=>?_)
  cases f with
  | next =>
   obtain ⟨σ3,H3,I3,n3⟩:=q3
   obtain ⟨m',hm,w3⟩:=hN σ3 H3 n3
   exact ⟨m',hm,σ3,H3,I3,w3⟩
  | cont =>
   obtain ⟨σ3,H3,I3,n3⟩:=q3
   obtain ⟨m',hm,w3⟩:=hN σ3 H3 n3
   exact ⟨m',hm,σ3,H3,I3,w3⟩
  | brk=>exact q3
  | ret v=>exact q3
 | false =>
  rw [if_neg Bool.false_ne_true]
  exact wpAny_execs_nil ⟨σ1,H2,I2,q2⟩
end
set_option genSizeOf false in
set_option genInjectivity false in
structure It where
 go:Nat→Hp→Prop
 yld:Nat→Hp→V→Hp→Prop
 stop:Nat→Hp→Prop
def kL (X:Cx) (pins:List (Addr × Obj)) (H:Hp) (b:Addr):Prop :=
 H b=none∧b≠X.env.locals∧b ∉ X.fs∧(b∈X.ex∨X.s₀.heap.objs.size≤b)∧(∀ x c,X.env.cells.lookup x=some c→c≠b)∧∀ p∈X.pn ++ pins,p.1≠b
theorem Inv.fpOk {X:Cx} {pins:List (Addr × Obj)} {σ:St} {H H':Hp} {s:Shared} {b:Addr} (I:Inv X pins σ H s) (hb:s.heap.objs.size≤b) (hn:H' b=none):kL X pins H' b:=by
 refine ⟨hn,Nat.ne_of_gt (Nat.lt_of_lt_of_le I.lt hb),I.nofs hb,.inr (Nat.le_trans I.sz hb),fun x c e z=>?_,fun p hp z=>?_⟩
 ·obtain ⟨v,q⟩:=I.cell x c e
  exact absurd (Nat.lt_of_lt_of_le q.lt (by rw [z];exact hb)) (Nat.lt_irrefl _)
 ·exact absurd (Nat.lt_of_lt_of_le (Heap.lt_size (I.pin p hp).1) (by rw [z];exact hb)) (Nat.lt_irrefl _)
structure Qa (P:Program) (w:World) (K:W.Frag) (tg:Expr) (J:It) (fp:List Addr) (it:Addr) (tn:Nat→Heap→Prop):Prop where
 mem:it∈fp
 obj:∀ i h,tn i h→∀ b∈fp,∃ o,h.get? b=some o∧∀ v,o.data≠.cell v
 keep:∀ i h h',tn i h→(∀ b∈fp,∀ o,h.get? b=some o→h'.get? b=some o)→tn i h'
 item:∀ (X:Cx),X.prog=P→X.w=w→X.K=K→X.calm=true→∀ (i:Nat) (pins:List (Addr × Obj)) (s:Shared) (σ:St) (H:Hp) (E:Value→Shared→Prop),Inv X pins σ H s→(∀ b∈fp,kL X pins H b)→tn i s.heap→J.go i H →
  wpAny (model P w) X.A (pyNext (.ref it)) (fun r s1=>∃ u,r=some u ∧
   wpAny (model P w) X.A (letOwnedTupleGo tg (.ref it) u) (fun _ s2=>∃ x H',Inv X pins σ H' s2∧RelV x u∧J.yld i H x H'∧tn (i + 1) s2.heap∧∀ b∈fp,H' b=none) E s1) E s
 done:∀ (X:Cx),X.prog=P→X.w=w→X.K=K→X.calm=true→∀ (i:Nat) (pins:List (Addr × Obj)) (s:Shared) (σ:St) (H:Hp) (E:Value→Shared→Prop),Inv X pins σ H s→(∀ b∈fp,kL X pins H b)→tn i s.heap→J.stop i H →
  wpAny (model P w) X.A (pyNext (.ref it)) (fun r s1=>r=none∧Inv X pins σ H s1) E s
 self:∀ (A:Around) (i:Nat) (s:Shared) (Q:Value→Shared→Prop) (E:Value→Shared→Prop),tn i s.heap→Q (.ref it) s→wpAny (model P w) A (pyIter (.ref it)) Q E s
abbrev TI:=St→Hp→(It→Hp→Prop)→Prop
def PIE (X:Cx) (pins:List (Addr × Obj)) (σ:St) (tg:Expr) (R:It→Hp→Prop) (itv:Value) (s2:Shared):Prop :=
 ∃ (it:Addr) (fp:List Addr) (tn:Nat→Heap→Prop) (J:It) (H':Hp),itv=.ref it∧Inv X pins σ H' s2∧Qa X.prog X.w X.K tg J fp it tn∧tn 0 s2.heap∧(∀ b∈fp,kL X pins H' b)∧R J H'
def PI (X:Cx) (tg iter:Expr) (wi:TI):Prop :=
 ∀ (pins:List (Addr × Obj)) (s:Shared) (σ:St) (H:Hp) (R:It→Hp→Prop),Inv X pins σ H s→wi σ H R →
  wpAny (model X.prog X.w) X.A (eval iter X.env) (fun v s1=>wpAny (model X.prog X.w) X.A (pyIter v) (PIE X pins σ tg R) X.xe s1) X.xe s
theorem Kg {M:Model} {A:Around} {E:Value→Shared→Prop} {s:Shared} {tg:Expr} {it:Addr} {u:Value} {o:Obj} {n:String} {vs:Array Value} {Q:Unit→Shared→Prop} (ho:s.heap.get? it=some o) (hc:o.cls=.type n) (hd:o.data=.fields vs)
  (hn:["enumerate","zip","dict_itemiterator","dict_reverseitemiterator","odict_iterator","itertools.zip_longest","itertools.pairwise"].contains n=false) (hQ:Q () s):wpAny M A (letOwnedTupleGo tg (.ref it) u) Q E s:=by
 unfold letOwnedTupleGo
 cases tg <;> first
  | exact wpAny_pure hQ
  | (cases u <;> first
      | exact wpAny_pure hQ
      | (refine wpAny_bind (wpAny_load ho ?_)
         rw [hc,hd]
         show wpAny M A (if (["enumerate","zip","dict_itemiterator","dict_reverseitemiterator","odict_iterator","itertools.zip_longest","itertools.pairwise"].contains n && vs[0]? == some (rawInt _))=true then _ else _) Q E s
         rw [if_neg (by intro h;rw [hn,Bool.false_and] at h;cases h)]
         exact wpAny_pure hQ))
def Itl (K:W.Frag) (a:Addr):It :=
 ⟨fun i H=>∃ xs x,SqL K H a xs∧xs[i]?=some x,fun i H x H'=>H'=H∧∀ xs,SqL K H a xs→xs[i]?=some x,fun i H=>∃ xs,SqL K H a xs∧xs.length≤i⟩
def Itt (K:W.Frag) (a:Addr):It :=
 ⟨fun i H=>∃ xs x,SqT K H a xs∧xs[i]?=some x,fun i H x H'=>H'=H∧∀ xs,SqT K H a xs→xs[i]?=some x,fun i H=>∃ xs,SqT K H a xs∧xs.length≤i⟩
def Itr (lo:Int) (n:Nat):It:=⟨fun i _=>i < n,fun i H x H'=>H'=H∧x=.int (lo + i),fun i _=>n≤i⟩
theorem Qb {P:Program} {w:World} {K:W.Frag} {tg:Expr} (a it:Addr):Qa P w K tg (Itl K a) [it] it (fun i h=>h.IsListIter it a i) where
 mem:=by simp
 obj:=fun i h st b hb=>by
  have e:b=it:=by simpa using hb
  subst e
  obtain ⟨o,e,c,d⟩:=st
  exact ⟨o,e,fun v z=>by rw [d] at z;cases z⟩
 keep:=fun i h h' st k=>st.at fun o e=>k it (by simp) o e
 item:=by
  intro X hP hw hK hc i pins s σ H E I hf st hg
  subst hP hw hK
  obtain ⟨xs,x,hq,hx⟩:=hg
  obtain ⟨its,rv,p,hz⟩:=I.list hq
  obtain ⟨u,hu,ru⟩:=rv.get hx
  obtain ⟨f0,f1,f2,f3,f4,f5⟩:=hf it (by simp)
  refine wpAny_pyNext_list_item st p.isList (x:=u) (by simpa using hu) fun h' st' sb=>?_
  have I1:Inv X pins σ H { s with heap:=h' }:=I.turned (t':=s.toks) (fun b o hb e=>(sb.2 b hb).trans e) f0 f1 f3 f4 f5
  obtain ⟨o,e,c,d⟩:=id st'
  exact ⟨u,rfl,Kg (s:={ s with heap:=h' }) e c d (by decide) ⟨x,H,I1,ru,⟨rfl,fun ys hy=>by rw [I.list_inj hy hq];exact hx⟩,st',fun b hb=>(hf b hb).1⟩⟩
 done:=by
  intro X hP hw hK hc i pins s σ H E I hf st hg
  subst hP hw hK
  obtain ⟨xs,hq,hx⟩:=hg
  obtain ⟨its,rv,p,hz⟩:=I.list hq
  obtain ⟨f0,f1,f2,f3,f4,f5⟩:=hf it (by simp)
  have hl:=rv.length
  exact wpAny_pyNext_list_end (I.ok.hd hc) st p.isList (by simp;lia) fun h' eb=>⟨rfl,I.turned (t':=s.toks) (fun b o hb e=>eb b o hb e) f0 f1 f3 f4 f5⟩
 self:=fun _ _ _ _ _ st h=>wpAny_pyIter_listiter st h
theorem Jt {P:Program} {w:World} {K:W.Frag} {tg:Expr} (a it:Addr):Qa P w K tg (Itt K a) [it] it (fun i h=>h.IsTupleIter it a i) where
 mem:=by simp
 obj:=fun i h st b hb=>by
  have e:b=it:=by simpa using hb
  subst e
  obtain ⟨o,e,c,d⟩:=st
  exact ⟨o,e,fun v z=>by rw [d] at z;cases z⟩
 keep:=fun i h h' st k=>st.at fun o e=>k it (by simp) o e
 item:=by
  intro X hP hw hK hc i pins s σ H E I hf st hg
  subst hP hw hK
  obtain ⟨xs,x,hq,hx⟩:=hg
  obtain ⟨its,rv,p,hz⟩:=I.tuple hq
  obtain ⟨u,hu,ru⟩:=rv.get hx
  obtain ⟨f0,f1,f2,f3,f4,f5⟩:=hf it (by simp)
  refine wpAny_pyNext_tuple_item st (show s.heap.IsTuple a its.toArray from p) (x:=u) (by simpa using hu) fun h' st' sb=>?_
  have I1:Inv X pins σ H { s with heap:=h' }:=I.turned (t':=s.toks) (fun b o hb e=>(sb.2 b hb).trans e) f0 f1 f3 f4 f5
  obtain ⟨o,e,c,d⟩:=id st'
  exact ⟨u,rfl,Kg (s:={ s with heap:=h' }) e c d (by decide) ⟨x,H,I1,ru,⟨rfl,fun ys hy=>by rw [I.tuple_inj hy hq];exact hx⟩,st',fun b hb=>(hf b hb).1⟩⟩
 done:=by
  intro X hP hw hK hc i pins s σ H E I hf st hg
  subst hP hw hK
  obtain ⟨xs,hq,hx⟩:=hg
  obtain ⟨its,rv,p,hz⟩:=I.tuple hq
  obtain ⟨f0,f1,f2,f3,f4,f5⟩:=hf it (by simp)
  have hl:=rv.length
  exact wpAny_pyNext_tuple_end (I.ok.hd hc) st (show s.heap.IsTuple a its.toArray from p) (by simp;lia) fun h' eb=>⟨rfl,I.turned (t':=s.toks) (fun b o hb e=>eb b o hb e) f0 f1 f3 f4 f5⟩
 self:=fun _ _ _ _ _ st h=>wpAny_pyIter_tupleiter st h
theorem Ju {P:Program} {w:World} {K:W.Frag} {tg:Expr} (it:Addr) (lo:Int) (n:Nat):Qa P w K tg (Itr lo n) [it] it (fun i h=>IsRangeIter h it (lo + (i:Nat) * 1) ((n:Int) - (i:Nat)) 1) where
 mem:=by simp
 obj:=fun i h st b hb=>by
  have e:b=it:=by simpa using hb
  subst e
  exact ⟨_,st,fun v z=>by
   have z':Data.fields _=Data.cell v:=z
   cases z'⟩
 keep:=fun i h h' st k=>k it (by simp) _ st
 item:=by
  intro X hP hw hK hc i pins s σ H E I hf st hg
  subst hP hw hK
  obtain ⟨f0,f1,f2,f3,f4,f5⟩:=hf it (by simp)
  have W:=Walks.range (prog:=X.prog) (w:=X.w) (I.ok.hd hc) it lo 1 n
  refine W.item i s _ _ hg st fun v h' tk hv st' kk=>?_
  obtain ⟨t,rfl⟩:=hv
  have I1:Inv X pins σ H { s with heap:=h',toks:=tk }:=I.turned (fun b o hb e=>kk b o (by simpa using hb) e) f0 f1 f3 f4 f5
  refine ⟨_,rfl,Kg (s:={ s with heap:=h',toks:=tk }) (n:="range_iterator") st' rfl rfl (by decide) ⟨.int (lo + i),H,I1,⟨t,?_⟩,⟨rfl,rfl⟩,st',fun b hb=>(hf b hb).1⟩⟩
  rw [Int.mul_one]
 done:=by
  intro X hP hw hK hc i pins s σ H E I hf st hg
  subst hP hw hK
  obtain ⟨f0,f1,f2,f3,f4,f5⟩:=hf it (by simp)
  exact wpAny_pyNext_range_end (I.ok.hd hc) st (by have:n≤i:=hg;lia) fun h' eb=>⟨rfl,I.turned (t':=s.toks) (fun b o hb e=>eb b o hb e) f0 f1 f3 f4 f5⟩
 self:=fun _ _ _ _ _ st h=>wpAny_pyIter_rangeiter st h
end L2
namespace L2
open PySem PySem.Spec PyProof.Rows
section
variable {X:Cx} {tg:Expr}
def yG (K:W.Frag) (tl:TE):TI:=fun σ H R=>tl σ H fun x H1=>∃ a,x=.ref a∧(∃ xs,SqL K H1 a xs)∧R (Itl K a) H1
def Jv (K:W.Frag) (tl:TE):TI:=fun σ H R=>tl σ H fun x H1=>∃ a,x=.ref a∧(∃ xs,SqT K H1 a xs)∧R (Itt K a) H1
theorem jY {l:Expr} {tl:TE} (hl:PE X l tl):PI X tg l (yG X.K tl):=by
 intro pins s σ H R I h
 refine thn (hl pins s σ H _ I h) fun v s1 ⟨x,H1,I1,r1,q1⟩=>?_
 obtain ⟨a,e,⟨xs,hq⟩,q⟩:=q1
 subst e
 cases r1
 obtain ⟨its,rv,p,hz⟩:=I1.list hq
 refine wpAny_pyIter_list p.isList ?_
 refine ⟨s1.heap.objs.size,[s1.heap.objs.size],_,_,H1,rfl,I1.kept (t':=s1.toks) fun b o e=>Heap.get?_push_of_some _ e,Qb a _,⟨_,Heap.get?_push_size _ rfl,rfl,rfl⟩,fun b hb=>?_,q⟩
 have e:b=s1.heap.objs.size:=by simpa using hb
 subst e
 exact I1.fpOk (Nat.le_refl _) (I1.hok.fresh (Nat.le_refl _))
theorem zcu {l:Expr} {tl:TE} (hl:PE X l tl):PI X tg l (Jv X.K tl):=by
 intro pins s σ H R I h
 refine thn (hl pins s σ H _ I h) fun v s1 ⟨x,H1,I1,r1,q1⟩=>?_
 obtain ⟨a,e,⟨xs,hq⟩,q⟩:=q1
 subst e
 cases r1
 obtain ⟨its,rv,p,hz⟩:=I1.tuple hq
 refine wpAny_pyIter_tuple (show s1.heap.IsTuple a its.toArray from p) ?_
 refine ⟨s1.heap.objs.size,[s1.heap.objs.size],_,_,H1,rfl,I1.kept (t':=s1.toks) fun b o e=>Heap.get?_push_of_some _ e,Jt a _,⟨_,Heap.get?_push_size _ rfl,rfl,rfl⟩,fun b hb=>?_,q⟩
 have e:b=s1.heap.objs.size:=by simpa using hb
 subst e
 exact I1.fpOk (Nat.le_refl _) (I1.hok.fresh (Nat.le_refl _))
theorem QI {pins:List (Addr × Obj)} {σ:St} {H:Hp} {s:Shared} {R:It→Hp→Prop} {E:Value→Shared→Prop} {lo hi:Int} {t u v:Tok} {tk:Nat} (I:Inv X pins σ H s) (h1:-(2 ^ 62)≤lo) (h2:lo < 2 ^ 62) (h3:-(2 ^ 62)≤hi) (h4:hi < 2 ^ 62)
  (q:R (Itr lo (hi - lo).toNat) H):wpAny (model X.prog X.w) X.A (pyIter (.ref s.heap.objs.size)) (PIE X pins σ tg R) E { s with heap:=s.heap.push { cls:=.type "range",data:=.fields #[.int lo t,.int hi u,.int 1 v] },toks:=tk }:=by
 refine wpAny_pyIter_range (IsRange.new ..) (small_one h1 h2 h3 h4) ?_
 have I1:Inv X pins σ H { s with heap:=s.heap.push { cls:=.type "range",data:=.fields #[.int lo t,.int hi u,.int 1 v] },toks:=tk }:=I.kept fun b o e=>Heap.get?_push_of_some _ e
 refine ⟨(s.heap.push { cls:=.type "range",data:=.fields #[.int lo t,.int hi u,.int 1 v] }).objs.size,[(s.heap.push { cls:=.type "range",data:=.fields #[.int lo t,.int hi u,.int 1 v] }).objs.size],_,_,H,rfl,
  I1.kept (t':=tk) fun b o e=>Heap.get?_push_of_some _ e,Ju _ lo (hi - lo).toNat,?_,fun b hb=>?_,q⟩
 ·have e1:lo + ((0:Nat):Int) * 1=lo:=by simp
  have e2:(((hi - lo).toNat:Nat):Int) - ((0:Nat):Int)=Builtin.Range.rangeSize lo hi 1:=by rw [rangeSize_one];split <;> lia
  show IsRangeIter _ _ (lo + ((0:Nat):Int) * 1) ((((hi - lo).toNat:Nat):Int) - ((0:Nat):Int)) 1
  rw [e1,e2]
  exact Heap.get?_push_size _ rfl
 ·have e:b=(s.heap.push { cls:=.type "range",data:=.fields #[.int lo t,.int hi u,.int 1 v] }).objs.size:=by simpa using hb
  subst e
  exact I1.fpOk (Nat.le_refl _) (I1.hok.fresh (Nat.le_refl _))
def wj (ta:TA):TI:=fun σ H R=>ta σ H fun vs H1=>∃ j:Int,vs=[.int j]∧-(2 ^ 62)≤j∧j < 2 ^ 62∧R (Itr 0 j.toNat) H1
def zeb (ta:TA):TI:=fun σ H R=>ta σ H fun vs H1=>∃ i j:Int,vs=[.int i,.int j]∧(-(2 ^ 62)≤i∧i < 2 ^ 62∧-(2 ^ 62)≤j∧j < 2 ^ 62)∧R (Itr i (j - i).toNat) H1
theorem qo {a:Expr} {ta:TA} {p pos:Pos} (hg:Gl X "range") (hm:X.mg "range"=none) (ha:PA X [a] ta) (hs:starEach [a] X.env=[(false,eval a X.env)]:=by rfl):PI X tg (.Call (.Name "range" p) [a] [] pos) (wj ta):=by
 intro pins s σ H R I h
 refine Call_ (Yt I hg hm boot_range (PyProof.Rows.callWith_type1 (thn (ha pos pins s σ H _ I h) fun us s1 ⟨vs,H1,I1,r1,q1⟩=>?_) hs rfl))
 obtain ⟨j,e,q1,q2,q⟩:=q1
 subst e
 cases r1 with
 | cons r rr =>
  cases rr
  obtain ⟨t,rfl⟩:=r
  exact call_range_1 (QI I1 (by lia) (by lia) q1 q2 (by simpa using q))
def yH (wi:TI) (g:TG) (tb:TS):TS:=fun D σ H=>wi σ H fun J H1=>∃ W:Nat→Nat→St→Hp→Prop,(∃ m,W 0 m σ H1)∧∀ i m σ H,W i m σ H →
 (J.stop i H∧D.nx σ H)∨(J.go i H∧∃ N:St→Hp→Prop,(∀ σ' H',N σ' H'→∃ m',m' < m∧W (i + 1) m' σ' H')∧∀ x H',J.yld i H x H'→g x σ H' fun σ2 H2=>tb { D with nx:=N,ct:=N,bk:=D.nx } σ2 H2)
def Yv (fp:List Addr) (h:Heap):List (Addr × Obj):=fp.filterMap fun b=>(h.get? b).map fun o=>(b,o)
theorem jZ {fp:List Addr} {h:Heap} {b:Addr} {o:Obj} (hb:b∈fp) (e:h.get? b=some o):(b,o)∈Yv fp h:=List.mem_filterMap.mpr ⟨b,hb,by rw [e];rfl⟩
theorem Qc {fp:List Addr} {h:Heap} {p:Addr × Obj} (hp:p∈Yv fp h):p.1∈fp∧h.get? p.1=some p.2:=by
 obtain ⟨b,hb,e⟩:=List.mem_filterMap.mp hp
 cases q:h.get? b with
 | none=>rw [q] at e;cases e
 | some o =>
  rw [q] at e
  have e':(b,o)=p:=Option.some.inj e
  subst e'
  exact ⟨hb,q⟩
theorem Inv.pinned {pins:List (Addr × Obj)} {σ:St} {H:Hp} {s:Shared} {fp:List Addr} (I:Inv X pins σ H s) (hf:∀ b∈fp,kL X pins H b) (ho:∀ b∈fp,∃ o,s.heap.get? b=some o∧∀ v,o.data≠.cell v):Inv X (pins ++ Yv fp s.heap) σ H s :=
 I.pins_of fun p hp=>(List.mem_append.mp hp).elim (fun z=>I.pin p (List.mem_append_right _ z)) fun z=>by
  obtain ⟨hb,e⟩:=Qc z
  obtain ⟨f0,f1,f2,_⟩:=hf p.1 hb
  obtain ⟨o,e',d⟩:=ho p.1 hb
  rw [e] at e';cases e'
  exact ⟨e,f0,f1,f2,d⟩
theorem Inv.unpinned {pins pl:List (Addr × Obj)} {σ:St} {H:Hp} {s:Shared} (I:Inv X (pins ++ pl) σ H s):Inv X pins σ H s:=I.pins_of fun p hp=>I.pin p (List.mem_append_right _ (List.mem_append_left _ hp))
theorem vR {iter:Expr} {body:List Stmt} {wi:TI} {g:TG} {tb:TS} {pos:Pos} (hp:PassesOwn (model X.prog X.w) X.A X.env X.xe) (hc:X.calm=true) (hi:PI X tg iter wi) (hg:PG X tg g) (hb:PSs X body tb)
  (hs:∀ x,foldedSetIterable iter X.env x=pure x:=by intro _;rfl):PS X (.For tg iter body [] pos) (yH wi g tb):=by
 intro pins s σ H D I h
 refine wpAny_For (thn (hi pins s σ H _ I h) fun v s1 h1=>thn h1 fun itv s2 h2=>?_) hs
 obtain ⟨it,fp,tn,J,H2,e,I2,T,st2,f2,W,⟨m0,w0⟩,turn⟩:=h2
 subst e
 -- what stays true of the iterator's objects through the loop
 have stat:∀ {H':Hp},(∀ b∈fp,H' b=none)→∀ b∈fp,kL X pins H' b:=fun hn b hb=>⟨hn b hb,(f2 b hb).2⟩
 refine codeAny_forLoop_any (fun n s'=>∃ i σ' H',Inv X pins σ' H' s'∧tn i s'.heap∧(∀ b∈fp,H' b=none)∧W i n σ' H') ?_ m0 ⟨0,σ,H2,I2,st2,fun b hb=>(f2 b hb).1,w0⟩
 rintro n s3 ⟨i,σ3,H3,I3,st3,fr3,w3⟩
 rcases turn i n σ3 H3 w3 with ⟨stop,qn⟩ | ⟨go,N,hN,step⟩
 ·refine wpAny_passesOwn hp (thn (T.done X rfl rfl rfl hc i pins s3 σ3 H3 X.xe I3 (stat fr3) st3 stop) fun r s4 ⟨hr,I4⟩=>?_)
  subst hr
  exact wpAny_execs_nil ⟨σ3,H3,I4,qn⟩
 ·refine wpAny_passesOwn hp (thn (T.item X rfl rfl rfl hc i pins s3 σ3 H3 X.xe I3 (stat fr3) st3 go) fun r s4 ⟨u,hr,h4⟩=>?_)
  subst hr
  refine wpAny_passesOwn hp (thn h4 fun _ s5 ⟨x,H5,I5,r5,y5,st5,fr5⟩=>?_)
  have I5':=I5.pinned (stat fr5) (T.obj _ _ st5)
  refine wpAny_passesOwn hp (thn (hg _ s5 σ3 H5 x u _ I5' r5 (step x H5 y5)) fun _ s6 ⟨σ6,H6,I6,q6⟩=>?_)
  refine wpAny_passesOwn hp (thn (hb _ s6 σ6 H6 _ I6 q6) fun f s7 q7=>?_)
  have again:∀ {σ7:St} {H7:Hp},Inv X (pins ++ Yv fp s5.heap) σ7 H7 s7→N σ7 H7→∃ m,m < n∧∃ i σ' H',Inv X pins σ' H' s7∧tn i s7.heap∧(∀ b∈fp,H' b=none)∧W i m σ' H':=fun {σ7 H7} I7 n7=>by
   obtain ⟨m',hm,w7⟩:=hN σ7 H7 n7
   refine ⟨m',hm,i + 1,σ7,H7,I7.unpinned,T.keep _ _ _ st5 fun b hb o e=>(I7.pin (b,o) (List.mem_append_right _ (List.mem_append_right _ (jZ hb e)))).1,fun b hb=>?_,w7⟩
   obtain ⟨o,e,d⟩:=T.obj _ _ st5 b hb
   exact (I7.pin (b,o) (List.mem_append_right _ (List.mem_append_right _ (jZ hb e)))).2.1
  cases f with
  | next=>obtain ⟨σ7,H7,I7,n7⟩:=q7;exact again I7 n7
  | cont=>obtain ⟨σ7,H7,I7,n7⟩:=q7;exact again I7 n7
  | brk=>obtain ⟨σ7,H7,I7,q7⟩:=q7;exact ⟨σ7,H7,I7.unpinned,q7⟩
  | ret v=>obtain ⟨x7,σ7,H7,I7,r7,q7⟩:=q7;exact ⟨x7,σ7,H7,I7.unpinned,r7,q7⟩
end
end L2
namespace L2
open PySem PySem.Spec PyProof.Rows
abbrev R2:=V→V→Hp→VK→Prop
def OpR (X:Cx) (f:Value→Value→Sem Value) (r:R2):Prop :=
 ∀ (pins:List (Addr × Obj)) (s:Shared) (σ:St) (H:Hp) (x y:V) (v u:Value) (Q:VK),Inv X pins σ H s→RelV x v→RelV y u→r x y H Q →
  wpAny (model X.prog X.w) X.A (f v u) (EP X pins σ Q) X.xe s
def UnR (X:Cx) (f:Value→Sem Value) (r:V→Hp→VK→Prop):Prop :=
 ∀ (pins:List (Addr × Obj)) (s:Shared) (σ:St) (H:Hp) (x:V) (v:Value) (Q:VK),Inv X pins σ H s→RelV x v→r x H Q →
  wpAny (model X.prog X.w) X.A (f v) (EP X pins σ Q) X.xe s
def ky (X:Cx) (f:Value) (r:List V→Hp→VK→Prop):Prop :=
 ∀ (pins:List (Addr × Obj)) (s:Shared) (σ:St) (H:Hp) (xs:List V) (us:List Value) (Q:VK),Inv X pins σ H s→Vals xs us→r xs H Q →
  wpAny (model X.prog X.w) X.A (call f us) (EP X pins σ Q) X.xe s
def tOp (r:R2) (ta tb:TE):TE:=fun σ H Q=>ta σ H fun x H1=>tb σ H1 fun y H2=>r x y H2 Q
def tUn (r:V→Hp→VK→Prop) (ta:TE):TE:=fun σ H Q=>ta σ H fun x H1=>r x H1 Q
def rI (C:Int→Int→Prop) (g:Int→Int→V):R2:=fun x y H Q=>∃ i j,x=.int i∧y=.int j∧C i j∧Q (g i j) H
def rI0 (g:Int→Int→V):R2:=fun x y H Q=>∃ i j,x=.int i∧y=.int j∧Q (g i j) H
def rU (g:Int→V):V→Hp→VK→Prop:=fun x H Q=>∃ i,x=.int i∧Q (g i) H
section
variable {X:Cx} {a b c:Expr} {ta tb tc:TE} {pos:Pos}
theorem zcv (ha:PE X a ta) (hb:PE X b tb) {pins:List (Addr × Obj)} {s:Shared} {σ:St} {H:Hp} {R:V→V→Hp→Prop} (I:Inv X pins σ H s)
  (h:ta σ H fun x H1=>tb σ H1 fun y H2=>R x y H2) {Q:Value→Shared→Prop} {f:Value→Value→Sem Value}
  (hf:∀ v u s2 x y H2,Inv X pins σ H2 s2→RelV x v→RelV y u→R x y H2→wpAny (model X.prog X.w) X.A (f v u) Q X.xe s2) :
  wpAny (model X.prog X.w) X.A (eval a X.env) (fun v s₁=>wpAny (model X.prog X.w) X.A (eval b X.env) (fun u s₂=>wpAny (model X.prog X.w) X.A (f v u) Q X.xe s₂) X.xe s₁) X.xe s:=by
 refine thn (ha pins s σ H _ I h) fun v s1 ⟨x,H1,I1,r1,q1⟩=>?_
 refine thn (hb pins s1 σ H1 _ I1 q1) fun u s2 ⟨y,H2,I2,r2,q2⟩=>?_
 exact hf v u s2 x y H2 I2 r1 r2 q2
theorem zx {op:Operator} {r:R2} (ho:OpR X (binaryOp op) r) (ha:PE X a ta) (hb:PE X b tb):PE X (.BinOp a op b pos) (tOp r ta tb):=by
 intro pins s σ H Q I h
 exact wpAny_BinOp (zcv ha hb I h fun v u s2 x y H2 I2 rx ry q=>ho pins s2 σ H2 x y v u Q I2 rx ry q)
theorem zdh {op:UnaryOp} {r:V→Hp→VK→Prop} (ho:UnR X (unaryOp op) r) (ha:PE X a ta):PE X (.UnaryOp op a pos) (tUn r ta):=by
 intro pins s σ H Q I h
 exact UnaryOp_ (thn (ha pins s σ H _ I h) fun v s1 ⟨x,H1,I1,r1,q1⟩=>ho pins s1 σ H1 x v Q I1 r1 q1)
theorem opI {f:Value→Value→Sem Value} {C:Int→Int→Prop} {g:Int→Int→Int}
  (rule:∀ (i j:Int) (t u:Tok) (s:Shared) (Q:Value→Shared→Prop) (E:Value→Shared→Prop),C i j→Q (.int (g i j) s.toks) { s with toks:=s.toks + 1 }→wpAny (model X.prog X.w) X.A (f (.int i t) (.int j u)) Q E s) :
  OpR X f (rI C fun i j=>.int (g i j)):=by
 intro pins s σ H x y v u Q I rx ry h
 obtain ⟨i,j,rfl,rfl,hc,q⟩:=h
 obtain ⟨t,rfl⟩:=rx
 obtain ⟨t',rfl⟩:=ry
 exact rule i j t t' s _ _ hc ⟨.int (g i j),H,I.tok _,⟨_,rfl⟩,q⟩
theorem zdi {f:Value→Value→Sem Value} {g:Int→Int→Int}
  (rule:∀ (i j:Int) (t u:Tok) (s:Shared) (Q:Value→Shared→Prop) (E:Value→Shared→Prop),Q (.int (g i j) s.toks) { s with toks:=s.toks + 1 }→wpAny (model X.prog X.w) X.A (f (.int i t) (.int j u)) Q E s) :
  OpR X f (rI0 fun i j=>.int (g i j)):=by
 intro pins s σ H x y v u Q I rx ry h
 obtain ⟨i,j,rfl,rfl,q⟩:=h
 obtain ⟨t,rfl⟩:=rx
 obtain ⟨t',rfl⟩:=ry
 exact rule i j t t' s _ _ ⟨.int (g i j),H,I.tok _,⟨_,rfl⟩,q⟩
theorem za5 {f:Value→Value→Sem Value} {g:Int→Int→Bool}
  (rule:∀ (i j:Int) (t u:Tok) (s:Shared) (Q:Value→Shared→Prop) (E:Value→Shared→Prop),Q (.bool (g i j)) s→wpAny (model X.prog X.w) X.A (f (.int i t) (.int j u)) Q E s) :
  OpR X f (rI0 fun i j=>.bl (g i j)):=by
 intro pins s σ H x y v u Q I rx ry h
 obtain ⟨i,j,rfl,rfl,q⟩:=h
 obtain ⟨t,rfl⟩:=rx
 obtain ⟨t',rfl⟩:=ry
 exact rule i j t t' s _ _ ⟨.bl (g i j),H,I,rfl,q⟩
def Jw (i j:Int):Prop:=0≤j∧j≤1000000∧i.natAbs < 2 ^ 64
theorem z7:OpR X (binaryOp .Add) (rI0 fun i j=>.int (i + j)):=zdi fun _ _ _ _ _ _ _ q=>add_int q
theorem Yw:OpR X (binaryOp .Sub) (rI0 fun i j=>.int (i - j)):=zdi fun _ _ _ _ _ _ _ q=>sub_int q
theorem yo:OpR X (binaryOp .Mod) (rI (fun _ j=>0 < j) fun i j=>.int (i % j)):=opI fun i j _ _ _ _ _ hc q=>by
 have h1:(0:Int) < j:=hc
 exact mod_int' (by lia) (by rw [Int.fmod_eq_emod_of_nonneg i (by lia)];exact q)
theorem za6:OpR X (binaryOp .Mod) (rI (fun _ j=>j≠0) fun i j=>.int (i.fmod j)):=opI fun _ _ _ _ _ _ _ hc q=>mod_int' hc q
theorem Yx:OpR X (binaryOp .Pow) (rI Jw fun i j=>.int (i ^ j.toNat)):=opI fun _ _ _ _ _ _ _ hc q=>pow_int_small hc.1 hc.2.1 hc.2.2 q
theorem unI {f:Value→Sem Value} {g:Int→Int}
  (rule:∀ (i:Int) (t:Tok) (s:Shared) (Q:Value→Shared→Prop) (E:Value→Shared→Prop),Q (.int (g i) s.toks) { s with toks:=s.toks + 1 }→wpAny (model X.prog X.w) X.A (f (.int i t)) Q E s) :
  UnR X f (rU fun i=>.int (g i)):=by
 intro pins s σ H x v Q I rx h
 obtain ⟨i,rfl,q⟩:=h
 obtain ⟨t,rfl⟩:=rx
 exact rule i t s _ _ ⟨.int (g i),H,I.tok _,⟨_,rfl⟩,q⟩
theorem zcw:UnR X (unaryOp .USub) (rU fun i=>.int (-i)):=unI fun _ _ _ _ _ q=>neg_int q
end
def yA:V→V→Bool
 | .non,.non=>true | .non,.int _=>true | .int _,.non=>true | .non,.bl _=>true | .bl _,.non=>true | .non,.str _=>true | .str _,.non=>true
 | .int _,.int _=>true | .bl _,.bl _=>true | .str _,.str _=>true | .byt _,.byt _=>true
 | .int _,.str _=>true | .str _,.int _=>true | .bl _,.str _=>true | .str _,.bl _=>true
 | _,_=>false
def rEq:R2:=fun x y H Q=>yA x y=true∧Q (.bl (decide (x=y))) H
def rNe:R2:=fun x y H Q=>yA x y=true∧Q (.bl (!decide (x=y))) H
theorem Kh {i j:Int}:decide (V.int i=V.int j)=(i == j):=by
 rw [Bool.eq_iff_iff]
 simp
theorem QJ {i j:Bool}:decide (V.bl i=V.bl j)=(i == j):=by
 rw [Bool.eq_iff_iff]
 simp
theorem Ki {i j:Str}:decide (V.str i=V.str j)=(i == j):=by
 rw [Bool.eq_iff_iff]
 simp
theorem Kj {i j:Array UInt8}:decide (V.byt i=V.byt j)=(i.toList == j.toList):=by
 rw [Bool.eq_iff_iff]
 cases i
 cases j
 simp
section
variable {X:Cx} {a b c:Expr} {ta tb tc:TE} {pos:Pos}
theorem ye {pins:List (Addr × Obj)} {σ:St} {H:Hp} {s:Shared} {Q:VK} {k k':Bool} (I:Inv X pins σ H s) (q:Q (.bl k) H) (e:k=k'):EP X pins σ Q (.bool k') s:=by
 subst e
 exact ⟨.bl k,H,I,rfl,q⟩
theorem yW:OpR X (compareOp .Eq) rEq:=by
 intro pins s σ H x y v u Q I rx ry h
 obtain ⟨hs,q⟩:=h
 cases x with
 | non =>
  cases rx
  cases y with
  | non=>cases ry;exact PySem.EqNone.eq_none_none (ye I q (by simp))
  | bl j=>cases ry;exact PySem.EqNone.eq_none_bool (ye I q (by simp))
  | int j=>obtain ⟨t',rfl⟩:=ry;exact PySem.EqNone.eq_none_int (ye I q (by simp))
  | str j=>obtain ⟨t',rfl⟩:=ry;exact PySem.EqNone.eq_none_str (ye I q (by simp))
  | _=>exact absurd (show false=true from hs) Bool.false_ne_true
 | bl i =>
  cases rx
  cases y with
  | non=>cases ry;exact PySem.EqNone.eq_bool_none (ye I q (by simp))
  | bl j=>cases ry;exact eq_bool (ye I q QJ)
  | str j=>obtain ⟨t',rfl⟩:=ry;exact PySem.EqMixed.eq_bool_str (ye I q (by simp))
  | _=>exact absurd (show false=true from hs) Bool.false_ne_true
 | int i =>
  obtain ⟨t,rfl⟩:=rx
  cases y with
  | non=>cases ry;exact PySem.EqNone.eq_int_none (ye I q (by simp))
  | int j=>obtain ⟨t',rfl⟩:=ry;exact eq_int (ye I q Kh)
  | str j=>obtain ⟨t',rfl⟩:=ry;exact PySem.EqMixed.eq_int_str (ye I q (by simp))
  | _=>exact absurd (show false=true from hs) Bool.false_ne_true
 | str i =>
  obtain ⟨t,rfl⟩:=rx
  cases y with
  | non=>cases ry;exact PySem.EqNone.eq_str_none (ye I q (by simp))
  | bl j=>cases ry;exact PySem.EqMixed.eq_str_bool (ye I q (by simp))
  | int j=>obtain ⟨t',rfl⟩:=ry;exact PySem.EqMixed.eq_str_int (ye I q (by simp))
  | str j=>obtain ⟨t',rfl⟩:=ry;exact eq_str (ye I q Ki)
  | _=>exact absurd (show false=true from hs) Bool.false_ne_true
 | byt i =>
  obtain ⟨t,rfl⟩:=rx
  cases y with
  | byt j=>obtain ⟨t',rfl⟩:=ry;exact W.eq_bytes (ye I q Kj)
  | _=>exact absurd (show false=true from hs) Bool.false_ne_true
 | _=>cases y <;> exact absurd (show false=true from hs) Bool.false_ne_true
theorem Yy:OpR X (compareOp .NotEq) rNe:=by
 intro pins s σ H x y v u Q I rx ry h
 obtain ⟨hs,q⟩:=h
 cases x with
 | non =>
  cases rx
  cases y with
  | non=>cases ry;exact PySem.EqNone.ne_none_none (ye I q (by simp))
  | bl j=>cases ry;exact PySem.EqNone.ne_none_bool (ye I q (by simp))
  | int j=>obtain ⟨t',rfl⟩:=ry;exact PySem.EqNone.ne_none_int (ye I q (by simp))
  | str j=>obtain ⟨t',rfl⟩:=ry;exact PySem.EqNone.ne_none_str (ye I q (by simp))
  | _=>exact absurd (show false=true from hs) Bool.false_ne_true
 | bl i =>
  cases rx
  cases y with
  | non=>cases ry;exact PySem.EqNone.ne_bool_none (ye I q (by simp))
  | bl j=>cases ry;exact ne_bool (ye I q (congrArg not QJ))
  | str j=>obtain ⟨t',rfl⟩:=ry;exact PySem.EqMixed.ne_bool_str (ye I q (by simp))
  | _=>exact absurd (show false=true from hs) Bool.false_ne_true
 | int i =>
  obtain ⟨t,rfl⟩:=rx
  cases y with
  | non=>cases ry;exact PySem.EqNone.ne_int_none (ye I q (by simp))
  | int j=>obtain ⟨t',rfl⟩:=ry;exact ne_int (ye I q (congrArg not Kh))
  | str j=>obtain ⟨t',rfl⟩:=ry;exact PySem.EqMixed.ne_int_str (ye I q (by simp))
  | _=>exact absurd (show false=true from hs) Bool.false_ne_true
 | str i =>
  obtain ⟨t,rfl⟩:=rx
  cases y with
  | non=>cases ry;exact PySem.EqNone.ne_str_none (ye I q (by simp))
  | bl j=>cases ry;exact PySem.EqMixed.ne_str_bool (ye I q (by simp))
  | int j=>obtain ⟨t',rfl⟩:=ry;exact PySem.EqMixed.ne_str_int (ye I q (by simp))
  | str j=>obtain ⟨t',rfl⟩:=ry;exact ne_str (ye I q (congrArg not Ki))
  | _=>exact absurd (show false=true from hs) Bool.false_ne_true
 | byt i =>
  obtain ⟨t,rfl⟩:=rx
  cases y with
  | byt j=>obtain ⟨t',rfl⟩:=ry;exact W.ne_bytes (ye I q (congrArg not Kj))
  | _=>exact absurd (show false=true from hs) Bool.false_ne_true
 | _=>cases y <;> exact absurd (show false=true from hs) Bool.false_ne_true
theorem ZW:OpR X (compareOp .Lt) (rI0 fun i j=>.bl (decide (i < j))):=za5 fun _ _ _ _ _ _ _ q=>lt_int q
theorem zb7:OpR X (compareOp .LtE) (rI0 fun i j=>.bl (decide (i≤j))):=za5 fun _ _ _ _ _ _ _ q=>le_int q
theorem zdj:OpR X (compareOp .Gt) (rI0 fun i j=>.bl (decide (j < i))):=za5 fun _ _ _ _ _ _ _ q=>gt_int q
theorem zdk:OpR X (compareOp .GtE) (rI0 fun i j=>.bl (decide (j≤i))):=za5 fun _ _ _ _ _ _ _ q=>ge_int q
theorem zcx:OpR X (compareOp .Is) (fun x y H Q=>y=.non∧Q (.bl (decide (x=.non))) H):=by
 intro pins s σ H x y v u Q I rx ry h
 obtain ⟨rfl,q⟩:=h
 cases ry
 refine is_none_gen (ye I q ?_)
 cases x <;> first
  | (cases rx;rfl)
  | (obtain ⟨t,rfl⟩:=rx;rfl)
theorem Kk:OpR X (compareOp .IsNot) (fun x y H Q=>y=.non∧Q (.bl (!decide (x=.non))) H):=by
 intro pins s σ H x y v u Q I rx ry h
 obtain ⟨rfl,q⟩:=h
 cases ry
 refine isnot_none_gen (ye I q ?_)
 cases x <;> first
  | (cases rx;rfl)
  | (obtain ⟨t,rfl⟩:=rx;rfl)
theorem zL (b:Expr) {op:CmpOp} (h:op≠.In:=by decide) (h2:op≠.NotIn:=by decide):behindInMarks op b=false:=by
 have e1:(op == CmpOp.In)=false:=by cases op <;> first | rfl | exact absurd rfl h
 have e2:(op == CmpOp.NotIn)=false:=by cases op <;> first | rfl | exact absurd rfl h2
 cases b <;> simp [behindInMarks,e1,e2]
theorem Zg {op:CmpOp} {r:R2} (ho:OpR X (compareOp op) r) (ha:PE X a ta) (hb:PE X b tb) (hm:behindInMarks op b=false):PE X (.Compare a [op] [b] pos) (tOp r ta tb):=by
 intro pins s σ H Q I h
 exact wpAny_Compare1 (zcv ha hb I h fun v u s2 x y H2 I2 rx ry q=>ho pins s2 σ H2 x y v u Q I2 rx ry q) hm
def zp (t:TE):TT:=fun σ H Q=>t σ H fun x H'=>∃ k,x=.bl k∧Q k H'
theorem zy {op:CmpOp} {r:R2} (ho:OpR X (compareOp op) r) (ha:PE X a ta) (hb:PE X b tb) (hm:behindInMarks op b=false):PT X (.Compare a [op] [b] pos) (zp (tOp r ta tb)):=by
 intro pins s σ H Q I h
 refine wpAny_isTrue_Compare1 (thn (ha pins s σ H _ I h) fun v s1 ⟨x,H1,I1,r1,q1⟩=>thn (hb pins s1 σ H1 _ I1 q1) fun u s2 ⟨y,H2,I2,r2,q2⟩ =>
  thn (ho pins s2 σ H2 x y v u _ I2 r1 r2 q2) fun c s3 ⟨z,H3,I3,r3,k,e,q3⟩=>?_) hm
 subst e
 cases r3
 exact wpAny_truthy_bool ⟨H3,I3,q3⟩
def Jx (r r':R2) (ta tb tc:TE):TE:=fun σ H Q=>ta σ H fun x H1=>tb σ H1 fun y H2=>r x y H2 fun z H3=>∃ k,z=.bl k ∧
 (if k=true then tc σ H3 fun w' H4=>r' y w' H4 Q else Q (.bl false) H3)
theorem QK {op op':CmpOp} {r r':R2} (ho:OpR X (compareOp op) r) (ho':OpR X (compareOp op') r') (ha:PE X a ta) (hb:PE X b tb) (hc:PE X c tc)
  (hm:lastMarks [op,op'] [b,c]=false:=by with_unfolding_all rfl):PE X (.Compare a [op,op'] [b,c] pos) (Jx r r' ta tb tc):=by
 intro pins s σ H Q I h
 refine Compare_chain (thn (ha pins s σ H _ I h) fun v s1 ⟨x,H1,I1,r1,q1⟩=>chain_link (thn (hb pins s1 σ H1 _ I1 q1) fun u s2 ⟨y,H2,I2,r2,q2⟩ =>
  thn (ho pins s2 σ H2 x y v u _ I2 r1 r2 q2) fun d s3 ⟨z,H3,I3,r3,k,e,q3⟩=>?_)) hm
 subst e
 cases r3
 refine wpAny_truthy_bool ?_
 cases k with
 | false=>exact ite_ff ⟨.bl false,H3,I3,rfl,q3⟩
 | true=>exact ite_tt (chain_last (thn (hc pins s3 σ H3 _ I3 q3) fun w' s4 ⟨z',H4,I4,r4,q4⟩=>ho' pins s4 σ H4 y z' u w' Q I4 r2 r4 q4))
theorem Wr:(sizeLine:Nat) < 2 ^ 63:=by rw [sizeLine_eq];decide
theorem j0:OpR X (binaryOp .Add) (fun x y H Q=>∃ i j,x=.str i∧y=.str j∧i.length + j.length≤sizeLine∧Q (.str (i ++ j)) H):=by
 intro pins s σ H x y v u Q I rx ry h
 obtain ⟨i,j,rfl,rfl,hz,q⟩:=h
 obtain ⟨t,rfl⟩:=rx
 obtain ⟨t',rfl⟩:=ry
 exact add_str (fun t' tk=>⟨.str (i ++ j),H,I.tok _,⟨_,rfl⟩,q⟩) hz
theorem ZX {x:V} {us:List Value} (r:Vals [x] us):∃ u,us=[u]∧RelV x u:=by
 cases r with
 | cons r1 r2=>cases r2;exact ⟨_,rfl,r1⟩
theorem zb8 {x y:V} {us:List Value} (r:Vals [x,y] us):∃ u w',us=[u,w']∧RelV x u∧RelV y w':=by
 cases r with
 | cons r1 r2 =>
  cases r2 with
  | cons r3 r4=>cases r4;exact ⟨_,_,rfl,r1,r3⟩
theorem XQ (hc:X.calm=true):ky X (.builtin "max") (fun xs H Q=>∃ i j,xs=[.int i,.int j]∧Q (.int (if j > i then j else i)) H):=by
 intro pins s σ H xs us Q I r h
 obtain ⟨i,j,rfl,q⟩:=h
 obtain ⟨u,w',rfl,⟨t,rfl⟩,⟨t',rfl⟩⟩:=zb8 r
 refine max_two_ints (I.ok.hd hc) fun h' tk k=>⟨_,H,I.kept k,?_,q⟩
 by_cases hj:j > i
 ·rw [if_pos hj,if_pos hj];exact ⟨_,rfl⟩
 ·rw [if_neg hj,if_neg hj];exact ⟨_,rfl⟩
def vS (K:W.Frag) (x:V) (H:Hp) (n:Nat):Prop :=
 match x with
 | .str y=>y.length≤sizeLine∧n=y.length
 | .byt y=>y.size≤sizeLine∧n=y.size
 | .ref p=>(∃ xs,SqL K H p xs∧n=xs.length)∨∃ xs,SqT K H p xs∧n=xs.length
 | _=>False
theorem xy:ky X (.builtin "len") (fun xs H Q=>∃ x n,xs=[x]∧vS X.K x H n∧Q (.int n) H):=by
 intro pins s σ H xs us Q I r h
 obtain ⟨x,n,rfl,e,q⟩:=h
 obtain ⟨u,rfl,rx⟩:=ZX r
 have hl:=Wr
 have hs:sizeLine=16777216:=sizeLine_eq
 cases x with
 | str y =>
  obtain ⟨t,rfl⟩:=rx
  obtain ⟨hy,e'⟩:y.length≤sizeLine∧n=y.length:=e
  subst e'
  exact len_str (by lia) ⟨.int _,H,I.tok _,⟨_,rfl⟩,q⟩
 | byt y =>
  obtain ⟨t,rfl⟩:=rx
  obtain ⟨hy,e'⟩:y.size≤sizeLine∧n=y.size:=e
  subst e'
  exact W.len_bytes (by lia) ⟨.int _,H,I.tok _,⟨_,rfl⟩,q⟩
 | ref p =>
  cases rx
  have e':(∃ xs,SqL X.K H p xs∧n=xs.length)∨∃ xs,SqT X.K H p xs∧n=xs.length:=e
  rcases e' with ⟨xs,hx,e'⟩ | ⟨xs,hx,e'⟩
  ·subst e'
   obtain ⟨its,r',pl,hz⟩:=I.list hx
   have hlen:=r'.length
   exact Calls.call_len_list pl.isList (by simp only [List.size_toArray];lia) ⟨.int xs.length,H,I.tok _,⟨_,by simp only [List.size_toArray];rw [hlen]⟩,q⟩
  ·subst e'
   obtain ⟨its,r',pl,hz⟩:=I.tuple hx
   have hlen:=r'.length
   exact len_tuple pl (by simp only [List.size_toArray];lia) ⟨.int xs.length,H,I.tok _,⟨_,by simp only [List.size_toArray];rw [hlen]⟩,q⟩
 | _=>exact (show False from e).elim
end
end L2
namespace L2
open PySem PySem.Spec PyProof.Rows
structure ObjM (h:Heap) (x dx C:Addr) (mA:Str→Option Value):Prop where
 obj:h.get? x=some (W.instObj C dx)
 ns:h.Ns1 dx mA
 ne:dx≠x
theorem Qd {h:Heap} {dx:Addr} {mA:Str→Option Value} (n:h.Ns1 dx mA):∃ od,h.get? dx=some od∧∀ name,W.lookIn name od=some (mA name):=by
 obtain ⟨o,es,ep,ho,hd,hk,_,hm⟩:=n
 refine ⟨o,ho,fun name=>?_⟩
 have e:=hm name
 unfold nsFind findBy at e
 rw [← Array.find?_toList] at e
 unfold W.lookIn
 rw [hd]
 dsimp only
 split
 ·rename_i y q
  rw [q] at e
  exact congrArg some e
 ·rename_i q
  rw [q] at e
  have a:es.toList.any (·.refKey)=false:=by
   rw [List.any_eq_false]
   intro y hy
   obtain ⟨z,t,hkey⟩:=hk y (Array.mem_toList_iff.mp hy)
   simp [DictEntry.refKey,hkey]
  have a':¬ es.toList.any (·.refKey)=true:=by rw [a];exact Bool.false_ne_true
  rw [if_neg a']
  exact congrArg some e
theorem ObjM.look {h:Heap} {x dx C:Addr} {mA:Str→Option Value} (I:ObjM h x dx C mA):∃ od,W.InstAt h x (W.instObj C dx) C (some od)∧∀ name,W.lookIn name od=some (mA name) :=
 let ⟨od,ho,hl⟩:=Qd I.ns
 ⟨od,⟨I.obj,rfl,rfl,ho⟩,hl⟩
section
variable {prog:Program} {w:World} {A:Around} {E:Value→Shared→Prop} {s:Shared} {K:W.Frag} {x dx C f:Addr} {mA:Str→Option Value} {name:Str} {v:Value}
theorem za7 {expr:Bool} {Q:Value→Shared→Prop} (X:K.In s.heap) (I:ObjM s.heap x dx C mA) (hg:W.plainGet K C name=true) (hh:W.hasDictIn K C=true)
  (ha:W.findIn K (.ref C) name=some none) (hv:mA name=some v) (hv':W.handedIn v=true) (h:Q v { s with toks:=s.toks + 1 }) :
  wpAny (model prog w) A (getAttr (.ref x) name expr) Q E s:=by
 obtain ⟨od,J,hl⟩:=I.look
 exact W.get_value X J (W.plainGet_of hg).1 (W.findObj_own hh ha rfl (by rw [hl,hv])) hv' h
theorem QL {pl:Sem Bool} {Q:Value × List Value→Shared→Prop} (X:K.In s.heap) (I:ObjM s.heap x dx C mA) (hg:W.plainGet K C name=true)
  (hf:W.findIn K (.ref C) name=some (some (.ref f))) (ht:W.isFn K (.ref f)=true) (hv:mA name=none) (h:Q (.ref f,[.ref x]) s) :
  wpAny (model prog w) A (getMethod (.ref x) name pl) Q E s:=by
 obtain ⟨od,J,hl⟩:=I.look
 exact W.method_fn X J (W.plainGet_of hg).1 (W.plainGet_of hg).2 hf (beq_iff_eq.mp ht) (by show (W.lookIn name od).map (·.isSome)=some false;rw [hl,hv];rfl) h
theorem za8 {ns:List Str} {Q:Unit→Shared→Prop} (X:K.In s.heap) (I:ObjM s.heap x dx C mA)
  (hs:W.findIn K (.ref C) "__setattr__"=some (some (.builtin "object.__setattr__"))) (hp:W.plainOver K C=true) (ht:W.takerIn K C name=some none) (hh:W.hasDictIn K C=true)
  (hw:PySem.Within mA ns) (hsz:ns.length≤sizeLine)
  (h:∀ h',ObjM h' x dx C (fun y=>if y=name then some v else mA y)→Heap.SameBut dx s.heap h'→Q () { s with heap:=h',toks:=s.toks + 2 }) :
  wpAny (model prog w) A (setAttr (.ref x) name v) Q E s:=by
 obtain ⟨od,J,hl⟩:=I.look
 refine W.set_plain X J hs (W.osa_open (s:={ s with toks:=s.toks + 1 }) (r:=none) X J hp ht fun b=>?_)
 obtain ⟨cd,hc,hd'⟩:=W.any_some hh
 have hx:s.heap.get? x=some ⟨.ref C,some dx,.plain,#[]⟩:=I.obj
 refine wpAny_bind (wpAny_pure (wpAny_bind (wpAny_bind (wpAny_loadPart hx (wpAny_bind (W.Looks.here (s:={ s with toks:=s.toks + 1 }) (W.looks_clsIn X hc) ?_))))))
 rw [hd']
 refine wpAny_pure (a:=some dx) (wpAny_bind (wpAny_pure (wpAny_bind ?_)))
 refine wpAny_nsSet1 (s:={ s with toks:=s.toks + 1 }) I.ns fun h' hn2 hs2=>?_
 obtain ⟨oD,esD,epD,hoD,hdD,hcD⟩:=hn2.count (PySem.Within.cons name v hw)
 refine wpAny_bind (wpAny_lookBehind hoD (by rw [hdD];exact pastItsLine_dict (Nat.le_trans hcD (by rw [List.length_cons];lia))) ?_)
 exact wpAny_pure (h _ ⟨(hs2.2 _ (Ne.symm I.ne)).trans I.obj,hn2,I.ne⟩ hs2)
theorem QM {R:Result→Shared→Prop} {vs:List Value} {kw:List (Str × Value)} (X:K.In s.heap) (hm:W.makesIn K C=true)
  (hi:W.findIn K (.ref C) "__init__"=some (some (.ref f))) (hf:W.typeIn K (.ref f)=some (.type "function"))
  (h:codeAny (model prog w) (A.under (.builtin "type.__call__" ⟨.ref C :: vs,kw⟩)) (.call (.ref f) ⟨.ref (s.heap.objs.size + 1) :: vs,kw⟩) (W.InitBack (s.heap.objs.size + 1) R)
   { s with heap:=(s.heap.push W.emptyDict).push (W.instObj C s.heap.objs.size) }) :
  codeAny (model prog w) A (.call (.ref C) ⟨vs,kw⟩) R s:=by
 obtain ⟨hh,g,d,t,os⟩:=s
 exact W.make_core (W.makes_of X hm) (W.looks_findIn X hi) (fun self=>W.bind_fn X self hf) (.inl rfl) h
end
def zZ (f:Str) (v:V):List (Str × V)→List (Str × V)
 | []=>[(f,v)]
 | (g,x) :: r=>if g=f then (g,v) :: r else (g,x) :: zZ f v r
theorem ZY (f g:Str) (v:V):∀ fs:List (Str × V),(zZ f v fs).lookup g=if g=f then some v else fs.lookup g
 | []=>by
  show List.lookup g [(f,v)]=_
  by_cases h:g=f
  ·have hb:(g == f)=true:=beq_iff_eq.mpr h
   simp only [List.lookup,hb,if_pos h]
  ·have hb:(g == f)=false:=beq_eq_false_iff_ne.mpr h
   simp only [List.lookup,hb,if_neg h]
 | (k,x) :: r=>by
  have ih:=ZY f g v r
  rw [show zZ f v ((k,x) :: r)=(if k=f then (k,v) :: r else (k,x) :: zZ f v r) from rfl]
  by_cases hk:k=f
  ·rw [if_pos hk]
   by_cases h:g=k
   ·have hb:(g == k)=true:=beq_iff_eq.mpr h
    simp only [List.lookup,hb,if_pos (h.trans hk)]
   ·have hb:(g == k)=false:=beq_eq_false_iff_ne.mpr h
    simp only [List.lookup,hb,if_neg (fun e:g=f=>h (e.trans hk.symm))]
  ·rw [if_neg hk]
   by_cases h:g=k
   ·have hb:(g == k)=true:=beq_iff_eq.mpr h
    simp only [List.lookup,hb,if_neg (fun e:g=f=>hk (h.symm.trans e))]
   ·have hb:(g == k)=false:=beq_eq_false_iff_ne.mpr h
    simp only [List.lookup,hb]
    exact ih
theorem ZF (f:Str) (v:V):∀ fs:List (Str × V),f∈(zZ f v fs).map (·.1)∧∀ g,g∈fs.map (·.1)→g∈(zZ f v fs).map (·.1)
 | []=>⟨by simp [zZ],fun g h=>by simp at h⟩
 | (k,x) :: r=>by
  obtain ⟨i1,i2⟩:=ZF f v r
  rw [show zZ f v ((k,x) :: r)=(if k=f then (k,v) :: r else (k,x) :: zZ f v r) from rfl]
  by_cases hk:k=f
  ·rw [if_pos hk]
   subst hk
   exact ⟨by simp,fun g h=>by simpa using h⟩
  ·rw [if_neg hk]
   refine ⟨?_,fun g h=>?_⟩
   ·rw [List.map_cons]
    exact List.mem_cons_of_mem _ i1
   ·rw [List.map_cons] at h ⊢
    rcases List.mem_cons.mp h with e | e
    ·exact List.mem_cons.mpr (.inl e)
    ·exact List.mem_cons_of_mem _ (i2 g e)
theorem ZZ (f:Str) (v:V):∀ fs:List (Str × V),(zZ f v fs).length≤fs.length + 1
 | []=>by simp [zZ]
 | (k,x) :: r=>by
  have ih:=ZZ f v r
  rw [show zZ f v ((k,x) :: r)=(if k=f then (k,v) :: r else (k,x) :: zZ f v r) from rfl]
  by_cases hk:k=f
  ·rw [if_pos hk,List.length_cons,List.length_cons];lia
  ·rw [if_neg hk,List.length_cons,List.length_cons];lia
theorem RelO.some_of {v:V} {o:Option Value} (r:RelO (some v) o):∃ u,o=some u∧RelV v u:=by
 cases o with
 | none=>exact (show False from r).elim
 | some u=>exact ⟨u,rfl,r⟩
theorem RelO.none_of {o:Option Value} (r:RelO none o):o=none:=by
 cases o with
 | none=>rfl
 | some u=>exact (show False from r).elim
theorem Qe {v:V} {u:Value} (r:RelV v u):W.handedIn u=true:=by
 cases v with
 | non=>cases (show u=Value.none from r);rfl
 | bl b=>cases (show u=Value.bool b from r);rfl
 | int i=>obtain ⟨t,e⟩:=(show ∃ t,u=Value.int i t from r);cases e;rfl
 | str x=>obtain ⟨t,e⟩:=(show ∃ t,u=Value.str x t from r);cases e;rfl
 | byt b=>obtain ⟨t,e⟩:=(show ∃ t,u=Value.bytes b t from r);cases e;rfl
 | flt b=>obtain ⟨t,e⟩:=(show ∃ t,u=Value.float b t from r);cases e;rfl
 | ref a=>cases (show u=Value.ref a from r);rfl
 | ty n=>cases (show u=Value.type n from r);rfl
section
variable {P:Program} {w:World} {H H':Hp} {h h':Heap} {a C dx:Addr} {fs fs':List (Str × V)}
theorem Yk (hok:HOk P w H h) (e:H a=some (.ins C dx fs)):∃ mA,ObjM h a dx C mA∧(∀ f,RelO (fs.lookup f) (mA f))∧PySem.Within mA (fs.map (·.1))∧fs.length≤1000∧H dx=some (.own a):=by
 obtain ⟨d,z,ne,ob,mA,n,r,q⟩:=(show ObjOk P w H h a (.ins C dx fs) from hok a _ e)
 exact ⟨mA,⟨ob,n,ne⟩,r,q,z,d⟩
end
structure Cls (K:W.Frag) (C:Addr):Prop where
 pg:W.plainGet K C Str.empty=true
 hd:W.hasDictIn K C=true
 po:W.plainOver K C=true
 sa:W.findIn K (.ref C) "__setattr__"=some (some (.builtin "object.__setattr__"))
theorem Cls.get {K:W.Frag} {C:Addr} (c:Cls K C) (f:Str):W.plainGet K C f=true:=c.pg
def NoAttr (K:W.Frag) (C:Addr) (f:Str):Prop:=W.findIn K (.ref C) f=some none
theorem NoAttr.taker {K:W.Frag} {C:Addr} {f:Str} (n:NoAttr K C f):W.takerIn K C f=some none:=by
 unfold W.takerIn
 rw [show W.findIn K (.ref C) f=some none from n]
 rfl
structure qC (K:W.Frag) (C:Addr) (m:Str) (f:Addr):Prop where
 at_:W.findIn K (.ref C) m=some (some (.ref f))
 fn:W.isFn K (.ref f)=true
 kp:W.keepIn K (.ref f)=true
section
variable {X:Cx} {pins:List (Addr × Obj)} {σ:St} {H:Hp} {s:Shared} {a C dx:Addr} {fs:List (Str × V)} {f:Str} {v:V} {A:Around} {E:Value→Shared→Prop}
theorem Jy {b:Bool} {Q:Value→Shared→Prop} (I:Inv X pins σ H s) (e:H a=some (.ins C dx fs)) (c:Cls X.K C) (n:NoAttr X.K C f) (l:fs.lookup f=some v)
  (h:∀ u s',Inv X pins σ H s'→RelV v u→Q u s'):wpAny (model X.prog X.w) A (getAttr (.ref a) f b) Q E s:=by
 obtain ⟨mA,O,r,_,_,_⟩:=Yk I.hok e
 obtain ⟨u,hu,ru⟩:=RelO.some_of (v:=v) (o:=mA f) (by rw [← l];exact r f)
 exact za7 I.kIn O (c.get f) c.hd n hu (Qe ru) (h u _ (I.tok _) ru)
theorem qQ {m:Str} {g:Addr} {pl:Sem Bool} {Q:Value × List Value→Shared→Prop} (I:Inv X pins σ H s) (e:H a=some (.ins C dx fs)) (c:Cls X.K C) (k:qC X.K C m g) (l:fs.lookup m=none)
  (h:Q (.ref g,[.ref a]) s):wpAny (model X.prog X.w) A (getMethod (.ref a) m pl) Q E s:=by
 obtain ⟨mA,O,r,_,_,_⟩:=Yk I.hok e
 have hn:mA m=none:=RelO.none_of (by rw [← l];exact r m)
 exact QL I.kIn O (c.get m) k.at_ k.fn hn h
theorem Yz {y:V} {u:Value} {Q:Unit→Shared→Prop} (I:Inv X pins σ H s) (e:H a=some (.ins C dx fs)) (c:Cls X.K C) (n:NoAttr X.K C f) (hl:fs.length < 1000) (ry:RelV y u)
  (h:∀ s',Inv X pins σ (upd H a (.ins C dx (zZ f y fs))) s'→Q () s'):wpAny (model X.prog X.w) A (setAttr (.ref a) f u) Q E s:=by
 obtain ⟨mA,O,r,wi,_,ho⟩:=Yk I.hok e
 have hz:(fs.map (·.1)).length≤sizeLine:=by rw [List.length_map,sizeLine_eq];lia
 refine za8 I.kIn O c.sa c.po n.taker c.hd wi hz fun h' O' sb=>h _ ?_
 have hd:∃ o,h'.get? dx=some o:=let ⟨o,_,_,e',_⟩:=O'.ns;⟨o,e'⟩
 refine I.write (x:=a) (e:=dx) (by rw [e];exact True.intro) (.inr ho) (fun b q hb z=>(sb.2 b hb).trans z) hd ?_
 refine ⟨by rw [zk O.ne];exact ho,?_,O.ne,O'.obj,_,O'.ns,fun g=>?_,fun g hg=>?_⟩
 ·have:=ZZ f y fs;lia
 ·show RelO ((zZ f y fs).lookup g) (if g=f then some u else mA g)
  rw [ZY]
  by_cases q:g=f
  ·rw [if_pos q,if_pos q];exact ry
  ·rw [if_neg q,if_neg q];exact r g
 ·by_cases q:g=f
  ·rw [q];exact (ZF f y fs).1
  ·refine (ZF f y fs).2 g (wi g fun z=>hg ?_)
   show (if g=f then some u else mA g)=none
   rw [if_neg q];exact z
theorem Inv.made (I:Inv X pins σ H s):Inv X pins σ (upd (upd H s.heap.objs.size (.own (s.heap.objs.size + 1))) (s.heap.objs.size + 1) (.ins C s.heap.objs.size []))
  { s with heap:=(s.heap.push W.emptyDict).push (W.instObj C s.heap.objs.size) }:=by
 have e1:(s.heap.push W.emptyDict).get? s.heap.objs.size=some W.emptyDict:=Heap.get?_push_size s.heap rfl
 have e2:((s.heap.push W.emptyDict).push (W.instObj C s.heap.objs.size)).get? (s.heap.objs.size + 1)=some (W.instObj C s.heap.objs.size):=by
  have:=Heap.get?_push_size (s.heap.push W.emptyDict) (o:=W.instObj C s.heap.objs.size) rfl
  rwa [Heap.size_push] at this
 have e3:(s.heap.push W.emptyDict).Ns s.heap.objs.size (fun _=>none):=⟨W.emptyDict,#[],_,e1,rfl,(fun e he=>absurd he (by simp)),fun _=>rfl⟩
 have I1:=I.laid (a:=s.heap.objs.size) (o:=.own (s.heap.objs.size + 1)) (h':=s.heap.push W.emptyDict) (t':=s.toks) (fun b u q=>Heap.get?_push_of_some _ q) (Nat.le_refl _) ⟨_,e1⟩
 refine I1.laid (a:=s.heap.objs.size + 1) (o:=.ins C s.heap.objs.size []) (t':=s.toks) (fun b u q=>Heap.get?_push_of_some _ q) (Nat.le_of_eq (Heap.size_push _ _)) ?_
 have ne:s.heap.objs.size≠s.heap.objs.size + 1:=Nat.ne_of_lt (Nat.lt_succ_self _)
 refine ⟨by rw [zk ne,zd],Nat.zero_le _,ne,e2,fun _=>none,(Heap.Ns1.of_empty e3).at fun o q=>Heap.get?_push_of_some _ q,fun _=>True.intro,fun y hy=>absurd rfl hy⟩
theorem za9 {prog:Program} {w:World} {env:Env} {e:Expr} {f:Str} {pos:Pos} {s:Shared} {Q:Value→Shared→Prop} (hb:attributeBase e f env (eval e env)=eval e env)
  (h:wpAny (model prog w) A (eval e env) (fun o s₁=>wpAny (model prog w) A (getAttr o f true) Q E s₁) E s):wpAny (model prog w) A (eval (.Attribute e f pos) env) Q E s :=
 Attribute_any_ h (by rw [arm_eval_Attribute,hb])
end
def yb (K:W.Frag) (ta:TE) (f:Str):TE:=fun σ H Q=>ta σ H fun x H1=>∃ a C dx fs v,x=.ref a∧H1 a=some (.ins C dx fs)∧Cls K C∧NoAttr K C f∧fs.lookup f=some v∧Q v H1
def ji (K:W.Frag) (ta tv:TE) (f:Str):TS:=fun D σ H=>tv σ H fun y H1=>ta σ H1 fun x H2=>∃ a C dx fs,x=.ref a∧H2 a=some (.ins C dx fs)∧Cls K C∧NoAttr K C f∧fs.length < 1000 ∧
 D.nx σ (upd H2 a (.ins C dx (zZ f y fs)))
def zdI (K:W.Frag) (ta tv:TE) (rd:V→V→Hp→VK→Prop) (f:Str):TS:=fun D σ H=>ta σ H fun x H1=>∃ a C dx fs v,x=.ref a∧H1 a=some (.ins C dx fs)∧Cls K C∧NoAttr K C f∧fs.lookup f=some v ∧
 tv σ H1 fun y H2=>rd v y H2 fun z H3=>∃ dx' fs',H3 a=some (.ins C dx' fs')∧fs'.length < 1000∧D.nx σ (upd H3 a (.ins C dx' (zZ f z fs')))
section
variable {X:Cx} {o e value:Expr} {f:Str} {pos pos' tpos:Pos} {ta tv:TE}
theorem z5 (he:PE X e ta) (hb:attributeBase e f X.env (eval e X.env)=eval e X.env):PE X (.Attribute e f pos) (yb X.K ta f):=by
 intro pins s σ H Q I h
 refine za9 hb (thn (he pins s σ H _ I h) fun u s1 ⟨x,H1,I1,rx,a,C,dx,fs,v,ex,ea,c,n,l,q⟩=>?_)
 subst ex
 obtain rfl:u=Value.ref a:=rx
 exact Jy I1 ea c n l fun u' s2 I2 ru=>⟨v,H1,I2,ru,q⟩
theorem wA (ha:PE X o ta) (hv:PE X value tv) (hs:swapsWith value (some (.Attribute o f pos')) pos.line X.env=pure false):PS X (.Assign [.Attribute o f pos'] value pos) (ji X.K ta tv f):=by
 intro pins s σ H D I h
 refine plainObj_wpAny_Assign_Attribute (thn (hv pins s σ H _ I h) fun u s1 ⟨y,H1,I1,ry,q⟩=>thn (ha pins s1 σ H1 _ I1 q) fun ov s2 ⟨x,H2,I2,rx,a,C,dx,fs,ex,ea,c,n,l,q2⟩=>?_) hs
 subst ex
 obtain rfl:ov=Value.ref a:=rx
 exact Yz I2 ea c n l ry fun s3 I3=>⟨σ,_,I3,q2⟩
def zey:V→V→Hp→VK→Prop:=fun x y H Q=>∃ i j,x=.int i∧y=.int j∧Q (.int (i + j)) H
end
section
variable {X:Cx} {pins:List (Addr × Obj)} {σ:St} {H:Hp} {s:Shared} {A:Around} {E:Value→Shared→Prop} {Q:Value→Shared→Prop} {c:Value} {b:Bool}
inductive Zh (K:W.Frag) (H:Hp):V→Value→Prop where
 | non:Zh K H .non (.type "NoneType")
 | bl (x:Bool):Zh K H (.bl x) (.type "bool")
 | int (i:Int):Zh K H (.int i) (.type "int")
 | str (x:Str):Zh K H (.str x) (.type "str")
 | flt (x:UInt64):Zh K H (.flt x) (.type "float")
 | lst {a:Addr} {xs:List V} (e:H a=some (.lst xs)):Zh K H (.ref a) (.type "list")
 | frz {a:Addr} {o:Obj} {xs:List V} (e:H a=some (.frz o (.lst xs))):Zh K H (.ref a) (.type "list")
 | tup {a:Addr} {xs:List V} (e:H a=some (.tup xs)):Zh K H (.ref a) (.type "tuple")
 | dK {a:Addr} {kvs:List (Key × V)} (e:H a=some (.dK kvs)):Zh K H (.ref a) (.type "dict")
 | dT {a:Addr} {kvs:List (List Key × V)} (e:H a=some (.dT kvs)):Zh K H (.ref a) (.type "dict")
 | ins {a C dx:Addr} {fs:List (Str × V)} (e:H a=some (.ins C dx fs)) (cl:Cls K C) (ha:W.findIn K (.ref C) "__class__"=some (some (.builtin "object.__class__")))
   (hn:W.specialIn K (.builtin "object.__class__") "__get__"=some (some (.builtin "getset_descriptor.__get__"))) (htk:W.takesIn K (.builtin "object.__class__")=some true)
   (hm:W.mroIn K C (.type "object")=some true):Zh K H (.ref a) (.ref C)
theorem Qf {x:V} {u t:Value} (I:Inv X pins σ H s) (rx:RelV x u) (ty:Zh X.K H x t) (e:W.kitOne X.K t c=some b) (h:∀ tk,Q (.bool b) { s with toks:=tk }) :
  wpAny (model X.prog X.w) A (call (.builtin "isinstance") [u,c]) Q E s:=by
 cases ty with
 | non=>cases (show u=Value.none from rx);exact W.kia_one W.kitx_none I.kIn True.intro e (fun z=>nomatch z) h
 | bl y=>cases (show u=Value.bool y from rx);exact W.kia_one W.kitx_bool I.kIn True.intro e (fun z=>nomatch z) h
 | int i=>obtain ⟨t,q⟩:=(show ∃ t,u=Value.int i t from rx);cases q;exact W.kia_one W.kitx_int I.kIn True.intro e (fun z=>nomatch z) h
 | str y=>obtain ⟨t,q⟩:=(show ∃ t,u=Value.str y t from rx);cases q;exact W.kia_one W.kitx_str I.kIn True.intro e (fun z=>nomatch z) h
 | flt y=>obtain ⟨t,q⟩:=(show ∃ t,u=Value.float y t from rx);cases q;exact W.kia_one W.kitx_float I.kIn True.intro e (fun z=>nomatch z) h
 | @lst a xs ea =>
  cases (show u=Value.ref a from rx)
  obtain ⟨_,_,n,_,h1⟩:=(show ObjOk X.prog X.w H s.heap a (.lst xs) from I.hok a _ ea)
  exact W.kia_one W.kitx_list I.kIn ⟨_,h1,rfl⟩ e (fun z=>nomatch z) h
 | @frz a ob xs ea =>
  cases (show u=Value.ref a from rx)
  obtain ⟨_,_,_,n,_,h1⟩:=(show ObjOk X.prog X.w H s.heap a (.frz ob (.lst xs)) from I.hok a _ ea)
  exact W.kia_one W.kitx_list I.kIn ⟨_,h1,rfl⟩ e (fun z=>nomatch z) h
 | @tup a xs ea =>
  cases (show u=Value.ref a from rx)
  obtain ⟨_,_,_,p⟩:=(show ObjOk X.prog X.w H s.heap a (.tup xs) from I.hok a _ ea)
  obtain ⟨o,h1,h2,_⟩:=p
  exact W.kia_one W.kitx_tuple I.kIn ⟨o,h1,h2⟩ e (fun z=>nomatch z) h
 | @dK a kvs ea =>
  cases (show u=Value.ref a from rx)
  obtain ⟨_,_,vs,_,p⟩:=(show ObjOk X.prog X.w H s.heap a (.dK kvs) from I.hok a _ ea)
  obtain ⟨o,es,ep,h1,h2,_⟩:=p
  exact W.kia_one W.kitx_dict I.kIn ⟨o,h1,h2.1⟩ e (fun z=>nomatch z) h
 | @dT a kvs ea =>
  cases (show u=Value.ref a from rx)
  obtain ⟨_,_,xs,_,o,es,ep,h1,h2,_⟩:=(show ObjOk X.prog X.w H s.heap a (.dT kvs) from I.hok a _ ea)
  exact W.kia_one W.kitx_dict I.kIn ⟨o,h1,h2.1⟩ e (fun z=>nomatch z) h
 | @ins a C dx fs ea cl ha hn htk hm =>
  cases (show u=Value.ref a from rx)
  obtain ⟨mA,O,_⟩:=Yk I.hok ea
  obtain ⟨od,J,_⟩:=O.look
  exact W.kia_one (W.kitx_own (cl.get _) cl.hd ha hn htk hm) I.kIn J e (fun z=>nomatch z) h
end
end L2
namespace L2
open PySem PySem.Spec PyProof.Rows
structure Room (k:Nat) (A:Around):Prop where
 hd:A.handled=none
 dp:A.depth + 3 * k + 5 < recursionLimit
 un:A.units + 16 * k + 200 < cLine
theorem Room.mono {j k:Nat} {A:Around} (r:Room k A) (h:j≤k):Room j A:=⟨r.hd,by have:=r.dp;lia,by have:=r.un;lia⟩
theorem Room.deeper {k:Nat} {A:Around} (r:Room (k + 1) A) (env:Env):Room k (A.deeper env) :=
 ⟨r.hd,by have:=r.dp;show A.depth + 1 + 3 * k + 5 < _;lia,by have:=r.un;show A.units + 3 + 16 * k + 200 < _;lia⟩
theorem Jz {A:Around} {C:Addr} {us:List Value} {kw:List (Str × Value)}:(A.under (.builtin "type.__call__" ⟨.ref C :: us,kw⟩)).depth=A.depth + 1:=by
 first | rfl | simp [Around.under,Code.weight,Code.isCreation,Code.isGuard,Code.isCaller,Code.frames,Code.isFrame,guardIds]
theorem JA {A:Around} {C:Addr} {us:List Value} {kw:List (Str × Value)}:(A.under (.builtin "type.__call__" ⟨.ref C :: us,kw⟩)).units=A.units + 1:=by
 first | rfl | simp [Around.under,Code.cUnits,Code.frames,Code.isFrame]
theorem Room.make {k:Nat} {A:Around} (r:Room (k + 1) A) (C:Addr) (us:List Value) (kw:List (Str × Value)):Room k (A.under (.builtin "type.__call__" ⟨.ref C :: us,kw⟩)) :=
 ⟨r.hd,by have:=r.dp;rw [Jz];lia,by have:=r.un;rw [JA];lia⟩
theorem Room.depth {k:Nat} {A:Around} (r:Room k A):A.depth < recursionLimit:=by have:=r.dp;lia
theorem Room.units {k:Nat} {A:Around} (r:Room k A):A.units + 64 < cLine:=by have:=r.un;lia
def zj:TA:=fun _ H Q=>Q [] H
def zb (ta:TE) (tr:TA):TA:=fun σ H Q=>ta σ H fun x H1=>tr σ H1 fun xs H2=>Q (x :: xs) H2
section
variable {X:Cx} {e:Expr} {es:List Expr} {te:TE} {t:TA} {pos:Pos}
theorem ze:PA X [] zj:=fun _ _ _ _ H Q I h=>Calls.spliced_nil ⟨[],H,I,.nil,h⟩
theorem za (ha:PE X e te) (hr:PA X es t) (hs:starEach (e :: es) X.env=(false,eval e X.env) :: starEach es X.env:=by rfl):PA X (e :: es) (zb te t):=by
 intro pos pins s σ H Q I h
 rw [hs]
 show wpAny _ _ (spliced ((false,eval e X.env) :: backTo pos (starEach es X.env))) _ _ s
 refine Calls.spliced_cons (thn (ha pins s σ H _ I h) fun u s1 ⟨x,H1,I1,r1,q1⟩=>?_)
 exact thn (hr pos pins s1 σ H1 _ I1 q1) fun us s2 ⟨xs,H2,I2,r2,q2⟩=>⟨x :: xs,H2,I2,.cons r1 r2,q2⟩
def z0 (t:TA):TE:=fun σ H Q=>t σ H fun xs H1=>xs.length≤sizeLine∧∀ p,H1 p=none→Q (.ref p) (upd H1 p (.tup xs))
def yM (t:TA):TE:=fun σ H Q=>t σ H fun xs H1=>xs.length≤sizeLine∧∀ p,H1 p=none→Q (.ref p) (upd H1 p (.lst xs))
theorem yh {x1} (h:PA X es t):PE X (.Tuple es x1 pos) (z0 t):=by
 intro pins s σ H Q I hq
 refine wpAny_Tuple_spliced (thn (h pos pins s σ H _ I hq) fun us s1 ⟨xs,H1,I1,r,z,q⟩=>⟨by rw [← r.length];exact z,?_⟩)
 have hf:H1 s1.heap.objs.size=none:=I1.hok.fresh (Nat.le_refl _)
 refine ⟨.ref s1.heap.objs.size,upd H1 s1.heap.objs.size (.tup xs),I1.laid (t':=s1.toks) (fun b u e=>Heap.get?_push_of_some _ e) (Nat.le_refl _) ?_,rfl,q _ hf⟩
 exact ⟨z,us,r,⟨_,Heap.get?_push_size _ rfl,rfl,_,rfl⟩⟩
theorem xa (h:PA X es t):PE X (.List es pos) (yM t):=by
 intro pins s σ H Q I hq
 refine wpAny_List_spliced (thn (h pos pins s σ H _ I hq) fun us s1 ⟨xs,H1,I1,r,z,q⟩=>⟨by rw [← r.length];exact z,?_⟩)
 have hf:H1 s1.heap.objs.size=none:=I1.hok.fresh (Nat.le_refl _)
 refine ⟨.ref s1.heap.objs.size,upd H1 s1.heap.objs.size (.lst xs),I1.laid (t':=s1.toks) (fun b u e=>Heap.get?_push_of_some _ e) (Nat.le_refl _) ?_,rfl,q _ hf⟩
 exact ⟨z,us,0,r,Heap.get?_push_size _ rfl⟩
end
abbrev Sp:=List V→Hp→VK→XK→Prop
abbrev CXT:=List Env→Hp→Shared→XK→Value→Shared→Prop
structure Env0 (P:Program) (w:World) (K:W.Frag) (mg:Str→Option Value) (base:Heap) (A:Around) (outer:List Env) (s:Shared) (H:Hp):Prop where
 frames:A.frames=some outer
 mod:Mod K mg base
 bs:∀ b o,base.get? b=some o→s.heap.get? b=some o∧H b=none
 bsz:base.objs.size≤s.heap.objs.size
 funs:s.heap.FunFrames base outer
 frf:∀ b∈frs outer,H b=none
 hok:HOk P w H s.heap
 bare:AllBare s.gens
def CE (outer:List Env) (P:Program) (w:World) (H:Hp) (s:Shared) (Q:VK) (u:Value) (s':Shared):Prop :=
 ∃ v H',s'.os=s.os∧AllBare s'.gens∧Un (frs outer) [] H H' s.heap s'.heap∧HOk P w H' s'.heap∧RelV v u∧Q v H'
def CR (CX:CXT) (outer:List Env) (P:Program) (w:World) (H:Hp) (s:Shared) (Q:VK) (E:XK) (r:Result) (s':Shared):Prop :=
 match r with
 | .ok (.ret u)=>CE outer P w H s Q u s'
 | .ok _=>False
 | .error e=>CX outer H s E e s'
structure FnOk (P:Program) (w:World) (K:W.Frag) (mg:Str→Option Value) (base:Heap) (CX:CXT) (k:Nat) (f:Addr) (fd:FuncData) (ps:List Str) (sp:Sp):Prop where
 len:∀ vs H Q E,sp vs H Q E→vs.length=ps.length
 run:∀ (A:Around) (outer:List Env) (s:Shared) (H:Hp) (args:Args) (us:List Value) (vs:List V) (Q:VK) (E:XK),Room k A→Env0 P w K mg base A outer s H→BindsTo s fd args (ps.zip us)→Vals vs us→sp vs H Q E →
  codeAny (model P w) A (.call (.ref f) args) (CR CX outer P w H s Q E) s
theorem FnOk.mono {P:Program} {w:World} {K:W.Frag} {mg:Str→Option Value} {base:Heap} {CX:CXT} {j k:Nat} {f:Addr} {fd:FuncData} {ps:List Str} {sp:Sp} (F:FnOk P w K mg base CX j f fd ps sp) (h:j≤k) :
  FnOk P w K mg base CX k f fd ps sp:=⟨F.len,fun A outer s H args us vs Q E hr=>F.run A outer s H args us vs Q E (hr.mono h)⟩
theorem Env0.make {P:Program} {w:World} {K:W.Frag} {mg:Str→Option Value} {base:Heap} {A:Around} {outer:List Env} {s:Shared} {H:Hp} (e:Env0 P w K mg base A outer s H) (C:Addr) (us:List Value) (kw:List (Str × Value)) :
  Env0 P w K mg base (A.under (.builtin "type.__call__" ⟨.ref C :: us,kw⟩)) outer s H:=⟨by first | exact e.frames | (simpa [Around.under,Code.envs,Code.isFrame,pushEnvs] using e.frames),e.mod,e.bs,e.bsz,e.funs,e.frf,e.hok,e.bare⟩
section
variable {X:Cx} {pins:List (Addr × Obj)} {σ:St} {H:Hp} {s s':Shared}
theorem Inv.env0 (I:Inv X pins σ H s):Env0 X.prog X.w X.K X.mg X.base X.A X.stack s H :=
 ⟨I.ok.frames,I.ok.mod,I.bs,Nat.le_trans I.ok.bsz I.sz,I.stack,I.stkFree,I.hok,I.bare⟩
theorem Inv.after {Q:VK} {u:Value} (I:Inv X pins σ H s) (h:CE X.stack X.prog X.w H s Q u s'):EP X pins σ Q u s':=by
 obtain ⟨v,H',os,bare,un,hok,r,q⟩:=h
 obtain ⟨hh,g,d,t,os'⟩:=s'
 obtain rfl:os'=s.os:=os
 exact ⟨v,H',I.call (h':=hh) (g':=g) (d':=d) (t':=t) (ch:=[]) un hok bare (fun b z=>absurd z (by simp)),r,q⟩
end
def zo (sp:Sp) (dvs:List V) (E:XK) (t:TA):TE:=fun σ H Q=>t σ H fun vs H1=>sp (vs ++ dvs) H1 Q E
def zT (C:Addr) (m:Str) (sp:Sp) (dvs:List V) (E:XK) (ta:TE) (t:TA):TE:=fun σ H Q=>ta σ H fun x H1=>∃ a dx fs,x=.ref a∧H1 a=some (.ins C dx fs)∧fs.lookup m=none ∧
 t σ H1 fun vs H2=>sp (x :: (vs ++ dvs)) H2 Q E
def XR (C:Addr) (sp:Sp) (dvs:List V) (E:XK) (t:TA):TE:=fun σ H Q=>t σ H fun vs H1=>∀ x dx,H1 x=none→H1 dx=none→dx≠x →
 sp (.ref x :: (vs ++ dvs)) (upd (upd H1 dx (.own x)) x (.ins C dx [])) (fun v H2=>v=.non∧Q (.ref x) H2) E
def Binds (K:W.Frag) (fd:FuncData) (ps:List Str) (ds:List Value):Prop :=
 ∀ (s:Shared) (us:List Value),K.In s.heap→(us ++ ds).length=ps.length→BindsTo s fd ⟨us,[]⟩ (ps.zip (us ++ ds))
theorem Binds.all {K:W.Frag} {fd:FuncData} {ps:List Str} (h:∀ us:List Value,us.length=ps.length→bindArgs fd ⟨us,[]⟩=pure (ps.zip us)):Binds K fd ps []:=fun s us _ hl=>by
 rw [List.append_nil] at hl ⊢
 exact .of_eq (h us hl)
def kM (CX:CXT) (X:Cx) (E:XK):Prop:=∀ (pins:List (Addr × Obj)) (σ:St) (H:Hp) (s:Shared) (e:Value) (s':Shared),Inv X pins σ H s→CX X.stack H s E e s'→X.xe e s'
section
variable {X:Cx} {CX:CXT} {k:Nat} {f C:Addr} {fd:FuncData} {ps:List Str} {sp:Sp} {dvs:List V} {ds:List Value} {E:XK} {x m:Str} {p pos apos:Pos} {e o:Expr} {es:List Expr} {ta:TE} {t:TA}
theorem JB {pins:List (Addr × Obj)} {σ:St} {H:Hp} {s:Shared} {Q:VK} {us:List Value} {vs:List V} (F:FnOk X.prog X.w X.K X.mg X.base CX k f fd ps sp) (hr:Room k X.A) (hb:Binds X.K fd ps ds) (hd:Vals dvs ds) (hx:kM CX X E)
  (I:Inv X pins σ H s) (r:Vals vs us) (h:sp (vs ++ dvs) H Q E):wpAny (model X.prog X.w) X.A (call (.ref f) us) (EP X pins σ Q) X.xe s:=by
 have r2:Vals (vs ++ dvs) (us ++ ds):=r.append hd
 have hl:(us ++ ds).length=ps.length:=by rw [← r2.length];exact F.len _ _ _ _ h
 refine wpAny_call (codeAny_mono (F.run X.A X.stack s H ⟨us,[]⟩ (us ++ ds) (vs ++ dvs) Q E hr I.env0 (hb s us I.kIn hl) r2 h) fun r s' hq=>?_)
 cases r with
 | error e=>exact hx pins σ H s e s' I hq
 | ok fl =>
  cases fl with
  | ret u=>exact I.after hq
  | next=>exact False.elim hq
  | brk=>exact False.elim hq
  | cont=>exact False.elim hq
theorem zq (F:FnOk X.prog X.w X.K X.mg X.base CX k f fd ps sp) (hr:Room k X.A) (hg:Gl X x) (hm:X.mg x=some (.ref f)) (hk:W.keepIn X.K (.ref f)=true) (hb:Binds X.K fd ps ds) (hd:Vals dvs ds) (hx:kM CX X E)
  (ha:PA X (e :: es) t) (hdb:(x == ("__debug__":Str))=false:=by decide) (he:starEach (e :: es) X.env=(false,eval e X.env) :: starEach es X.env:=by rfl) (hpl:(backTo pos (starEach es X.env)).any (·.1)=false:=by rfl) :
  PE X (.Call (.Name x p) (e :: es) [] pos) (zo sp dvs E t):=by
 intro pins s σ H Q I h
 refine wpAny_Call_Name_kw (vD I hg hm ?_ hdb)
 refine W.callWith_K (h₀:=X.base) I.ok.mod.kin hk (thn (ha pos pins s σ H _ I h) fun us s1 ⟨vs,H1,I1,r,q⟩=>⟨I1.kIn,?_⟩) he hpl
 exact JB F hr hb hd hx I1 r q
theorem yv {pl:Sem Bool} (he:PE X o ta) (c:Cls X.K C) (hm:qC X.K C m f) (F:FnOk X.prog X.w X.K X.mg X.base CX k f fd ps sp) (hr:Room k X.A) (hb:Binds X.K fd ps ds) (hd:Vals dvs ds) (hx:kM CX X E) (ha:PA X (e :: es) t)
  (hst:starEach (e :: es) X.env=(false,eval e X.env) :: starEach es X.env:=by rfl) (hpl:(backTo pos (starEach es X.env)).any (·.1)=false:=by rfl)
  (ht:eval (.Call (.Attribute o m apos) (e :: es) [] pos) X.env=(do
   let ov ← eval o X.env
   standAt apos.atName
   let (f,first) ← holding [ov] (getMethod ov m pl)
   callWith pos f first (backTo pos (starEach (e :: es) X.env)) (backToKw pos (keywordEach [] X.env))):=by rfl) :
  PE X (.Call (.Attribute o m apos) (e :: es) [] pos) (zT C m sp dvs E ta t):=by
 intro pins s σ H Q I h
 refine W.methodCall_KW (pl:=pl) (thn (he pins s σ H _ I h) fun u s1 ⟨x,H1,I1,rx,a,dx,fs,ex,ea,l,q⟩=>?_) ht
 subst ex
 obtain rfl:u=Value.ref a:=rx
 refine qQ I1 ea c hm l ?_
 refine W.callWith_K (first:=[.ref a]) (h₀:=X.base) I.ok.mod.kin hm.kp (thn (ha pos pins s1 σ H1 _ I1 q) fun us s2 ⟨vs,H2,I2,r,q2⟩=>⟨I2.kIn,?_⟩) hst hpl
 exact JB (us:=.ref a :: us) (vs:=.ref a :: vs) F hr hb hd hx I2 (.cons rfl r) q2
theorem jK {pl:Sem Bool} (he:PE X o ta) (c:Cls X.K C) (hm:qC X.K C m f) (F:FnOk X.prog X.w X.K X.mg X.base CX k f fd ps sp) (hr:Room k X.A) (hb:Binds X.K fd ps ds) (hd:Vals dvs ds) (hx:kM CX X E)
  (ht:eval (.Call (.Attribute o m apos) [] [] pos) X.env=(do
   let ov ← eval o X.env
   standAt apos.atName
   let (f,first) ← holding [ov] (getMethod ov m pl)
   callWith pos f first (backTo pos (starEach [] X.env)) (backToKw pos (keywordEach [] X.env))):=by rfl) :
  PE X (.Call (.Attribute o m apos) [] [] pos) (zT C m sp dvs E ta zj):=by
 intro pins s σ H Q I h
 refine W.methodCall_KW (pl:=pl) (thn (he pins s σ H _ I h) fun u s1 ⟨x,H1,I1,rx,a,dx,fs,ex,ea,l,q⟩=>?_) ht
 subst ex
 obtain rfl:u=Value.ref a:=rx
 refine qQ I1 ea c hm l ?_
 exact W.callWith_K0 (first:=[.ref a]) I1.kIn hm.kp (JB (us:=[.ref a]) (vs:=[.ref a]) F hr hb hd hx I1 (.cons rfl .nil) q)
structure Mk (K:W.Frag) (C f:Addr):Prop where
 makes:W.makesIn K C=true
 init:W.findIn K (.ref C) "__init__"=some (some (.ref f))
 fn:W.isFn K (.ref f)=true
 kp:W.keepIn K (.ref C)=true
theorem QN {pins:List (Addr × Obj)} {σ:St} {H:Hp} {s:Shared} {Q:VK} {us:List Value} {vs:List V} (M:Mk X.K C f) (F:FnOk X.prog X.w X.K X.mg X.base CX k f fd ps sp) (hr:Room (k + 1) X.A) (hb:Binds X.K fd ps ds) (hd:Vals dvs ds)
  (hx:kM CX X E) (I:Inv X pins σ H s) (r:Vals vs us)
  (h:∀ x dx,H x=none→H dx=none→dx≠x→sp (.ref x :: (vs ++ dvs)) (upd (upd H dx (.own x)) x (.ins C dx [])) (fun v H2=>v=.non∧Q (.ref x) H2) E) :
  wpAny (model X.prog X.w) X.A (call (.ref C) us) (EP X pins σ Q) X.xe s:=by
 have hq:=h (s.heap.objs.size + 1) s.heap.objs.size (I.hok.fresh (Nat.le_succ _)) (I.hok.fresh (Nat.le_refl _)) (Nat.ne_of_lt (Nat.lt_succ_self _))
 have I2:=Inv.made (C:=C) I
 have r2:Vals (V.ref (s.heap.objs.size + 1) :: (vs ++ dvs)) (Value.ref (s.heap.objs.size + 1) :: (us ++ ds)):=.cons rfl (r.append hd)
 have hl:(Value.ref (s.heap.objs.size + 1) :: us ++ ds).length=ps.length:=by
  have e:=r2.length
  rw [F.len _ _ _ _ hq] at e
  exact e.symm
 refine wpAny_call (QM (f:=f) I.kIn M.makes M.init (beq_iff_eq.mp M.fn) (codeAny_mono (F.run _ X.stack _ _ ⟨Value.ref (s.heap.objs.size + 1) :: us,[]⟩ (Value.ref (s.heap.objs.size + 1) :: (us ++ ds)) _ _ E (hr.make C us [])
  (I2.env0.make C us []) (hb _ (Value.ref (s.heap.objs.size + 1) :: us) I2.kIn hl) r2 hq) fun r s' hq'=>?_))
 cases r with
 | error e=>exact hx pins σ _ _ e s' I2 hq'
 | ok fl =>
  cases fl with
  | ret u =>
   obtain ⟨v,H',I3,rv,ev,q3⟩:=I2.after hq'
   subst ev
   exact ⟨rv,⟨V.ref (s.heap.objs.size + 1),H',I3,rfl,q3⟩⟩
  | next=>exact False.elim hq'
  | brk=>exact False.elim hq'
  | cont=>exact False.elim hq'
theorem Kl (M:Mk X.K C f) (F:FnOk X.prog X.w X.K X.mg X.base CX k f fd ps sp) (hr:Room (k + 1) X.A) (hg:Gl X x) (hm:X.mg x=some (.ref C)) (hb:Binds X.K fd ps ds) (hd:Vals dvs ds) (hx:kM CX X E)
  (ha:PA X (e :: es) t) (hdb:(x == ("__debug__":Str))=false:=by decide) (he:starEach (e :: es) X.env=(false,eval e X.env) :: starEach es X.env:=by rfl) (hpl:(backTo pos (starEach es X.env)).any (·.1)=false:=by rfl) :
  PE X (.Call (.Name x p) (e :: es) [] pos) (XR C sp dvs E t):=by
 intro pins s σ H Q I h
 refine wpAny_Call_Name_kw (vD I hg hm ?_ hdb)
 refine W.callWith_K (h₀:=X.base) I.ok.mod.kin M.kp (thn (ha pos pins s σ H _ I h) fun us s1 ⟨vs,H1,I1,r,q⟩=>⟨I1.kIn,?_⟩) he hpl
 exact QN M F hr hb hd hx I1 r q
end
section
variable {X:Cx} {CX:CXT} {k:Nat} {f C:Addr} {fd:FuncData} {ps ks:List Str} {sp:Sp} {E:XK} {x m:Str} {p pos apos kpos:Pos} {e o:Expr} {es:List Expr} {kws:List Keyword} {te ta:TE} {t tk:TA} {nm:Option Str}
variable {g:List Value→List Value→List Value} {gV:List V→List V→List V}
end
structure zC (N P:List Str) (sc:Scope):Prop where
 kind:sc.kind=.function
 co:sc.isCoroutine=false
 gen:sc.isGenerator=false
 nd:N.Nodup
 pre:N.take P.length=P
 par:∀ x∈P,sc.names.lookup x=some .local∨sc.names.lookup x=some .cell
 nofree:∀ y∈sc.names,y.2≠.free
theorem XS {kindOf:Str→Option NameKind} {x:Str}:∀ {binds:List (Str × Value)} {m:Str→Option Value},(∀ v,(x,v) ∉ binds)→bindL kindOf binds m x=m x
 | [],_,_=>rfl
 | (n,v) :: r,m,h=>by
  unfold bindL
  rw [XS fun w hw=>h w (List.mem_cons_of_mem _ hw)]
  split
  ·have:x≠n:=by rintro rfl;exact h v List.mem_cons_self
   simp [this]
  ·rfl
theorem XT {kindOf:Str→Option NameKind} {x:Str}:∀ {binds:List (Str × Value)} {m:Str→Option Value},(∀ v,(x,v) ∉ binds)→bindC kindOf binds m x=m x
 | [],_,_=>rfl
 | (n,v) :: r,m,h=>by
  unfold bindC
  rw [XT fun w hw=>h w (List.mem_cons_of_mem _ hw)]
  split
  ·rfl
  ·have:x≠n:=by rintro rfl;exact h v List.mem_cons_self
   simp [this]
theorem XU {kindOf:Str→Option NameKind} {x:Str} {v:Value}:∀ {P:List Str} {vs:List Value} {i:Nat} {m:Str→Option Value},P.Nodup→P[i]?=some x→vs[i]?=some v→kindOf x=some .local →
  bindL kindOf (P.zip vs) m x=some v
 | [],_,_,_,_,h,_,_=>by simp at h
 | _ :: _,[],_,_,_,_,h,_=>by simp at h
 | p :: P,w :: vs,0,m,nd,h1,h2,hk=>by
  simp at h1 h2;subst h1;subst h2
  show bindL kindOf ((p,w) :: P.zip vs) m p=_
  unfold bindL
  rw [XS fun v hv=>(List.nodup_cons.mp nd).1 (List.of_mem_zip hv).1,if_pos hk]
  simp
 | p :: P,w :: vs,i + 1,m,nd,h1,h2,hk=>by
  show bindL kindOf ((p,w) :: P.zip vs) m x=_
  unfold bindL
  exact XU (i:=i) (List.nodup_cons.mp nd).2 (by simpa using h1) (by simpa using h2) hk
theorem XV {kindOf:Str→Option NameKind} {x:Str} {v:Value}:∀ {P:List Str} {vs:List Value} {i:Nat} {m:Str→Option Value},P.Nodup→P[i]?=some x→vs[i]?=some v→kindOf x≠some .local →
  bindC kindOf (P.zip vs) m x=some v
 | [],_,_,_,_,h,_,_=>by simp at h
 | _ :: _,[],_,_,_,_,h,_=>by simp at h
 | p :: P,w :: vs,0,m,nd,h1,h2,hk=>by
  simp at h1 h2;subst h1;subst h2
  show bindC kindOf ((p,w) :: P.zip vs) m p=_
  unfold bindC
  rw [XT fun v hv=>(List.nodup_cons.mp nd).1 (List.of_mem_zip hv).1,if_neg hk]
  simp
 | p :: P,w :: vs,i + 1,m,nd,h1,h2,hk=>by
  show bindC kindOf ((p,w) :: P.zip vs) m x=_
  unfold bindC
  exact XV (i:=i) (List.nodup_cons.mp nd).2 (by simpa using h1) (by simpa using h2) hk
def start (N:List Str) (vs:List V):St:=vs.map some ++ List.replicate (N.length - vs.length) none
def kH (CX:CXT) (P:Program) (w:World) (K:W.Frag) (mg:Str→Option Value) (base:Heap) (N:List Str) (qual:Str) (scope:Scope) (f:Addr) (cd:Value) (A:Around) (outer:List Env) (s:Shared) (H:Hp) (E:XK):Cx where
 prog:=P
 w:=w
 K:=K
 mg:=mg
 base:=base
 A:=A.deeper (envOfC qual scope s.heap.objs.size f cd)
 N:=N
 s₀:=s
 H₀:=H
 env:=envOfC qual scope s.heap.objs.size f cd
 outer:=outer
 stack:=envOfC qual scope s.heap.objs.size f cd :: outer
 ex:=[]
 calm:=true
 fn:=fun _=>true
 pn:=[]
 xe:=fun e s'=>wpAny (model P w) (A.deeper (envOfC qual scope s.heap.objs.size f cd)) (leaving (envOfC qual scope s.heap.objs.size f cd) e) (fun _ s''=>CX outer H s E e s'') (fun e' s''=>CX outer H s E e' s'') s'
theorem Vl {sc:Scope} {n:Nat} {x:Str} (h:sc.names.lookup x=some .cell):∃ c,(cellsFrom n sc.names []).lookup x=some c:=by
 have q:=W.cellsFrom_some sc.names n [] (.inl h)
 exact Option.isSome_iff_exists.mp q
theorem XW {CX:CXT} {P:Program} {w:World} {K:W.Frag} {mg:Str→Option Value} {base:Heap} {N ps:List Str} {qual:Str} {scope:Scope} {f:Addr} {cd:Value} {A:Around} {outer:List Env} {s s1:Shared} {H:Hp} {E:XK} {us:List Value} {vs:List V}
  (S:zC N ps scope) (hd:A.handled=none) (e0:Env0 P w K mg base A outer s H) (hl:vs.length=ps.length) (r:Vals vs us)
  (x:InCallC s s.heap.objs.size (bindL (envOfC qual scope s.heap.objs.size f cd).kindOf (ps.zip us) fun _=>none) (cellsFrom (s.heap.objs.size + 1) scope.names []) (bindC (envOfC qual scope s.heap.objs.size f cd).kindOf (ps.zip us) fun _=>none) s1) :
  Inv (kH CX P w K mg base N qual scope f cd A outer s H E) [] (start N vs) H s1:=by
 have hpl:ps.length≤N.length:=by have:=congrArg List.length S.pre;rw [List.length_take] at this;lia
 obtain ⟨h1,tk,rfl,hk⟩:=x.done
 have noA:∀ b:Addr,b ∉ (kH CX P w K mg base N qual scope f cd A outer s H E).ex:=fun b z=>absurd (show b∈([]:List Addr) from z) (by simp)
 refine ⟨⟨e0.mod,S.kind,rfl,rfl,Nat.le_refl _,fun y z c h1 h2=>?_,fun y hy=>?_,fun y c _ h=>?_,fun _=>hd,Around.frames_deeper e0.frames,.inr ⟨rfl,rfl⟩,fun b z=>absurd z (noA b),e0.bs,e0.bsz,fun b _ _=>noA b,fun b z=>absurd z (noA b),e0.funs,e0.frf⟩,
  rfl,e0.bare,Un.kept hk,⟨_,x.toInCall.ns,fun i y v h1 h2 h3=>?_⟩,fun y c h=>⟨_,x.cell y c h⟩,e0.hok.fresh (Nat.le_refl _),fun y c h=>?_,fun p hp=>absurd (show p∈([]:List (Addr × Obj)) from hp) (by simp),e0.hok.kept hk,?_⟩
 ·exact name_of_addr x.apart (PySem.mem_of_lookup h1) (PySem.mem_of_lookup h2)
 ·have hy:scope.names.lookup y=some .cell∨scope.names.lookup y=some .free:=hy
  rcases hy with hy | hy
  ·exact Vl hy
  ·exact absurd rfl (S.nofree _ (PySem.mem_of_lookup hy))
 ·exact Nat.le_of_lt (x.above y c (PySem.mem_of_lookup h))
 ·have hi:i < vs.length:=by
   unfold start at h2
   by_cases hi:i < vs.length
   ·exact hi
   ·rw [List.getElem?_append_right (by simpa using hi)] at h2
    rw [List.getElem?_replicate] at h2
    split at h2 <;> cases h2
  have ha:vs[i]?=some v:=by
   unfold start at h2
   rw [List.getElem?_append_left (by simpa using hi),List.getElem?_map] at h2
   cases e:vs[i]? with
   | none=>rw [e] at h2;cases h2
   | some a=>rw [e] at h2;cases h2;rfl
  obtain ⟨u,hu,rv⟩:=r.get ha
  have hp:ps[i]?=some y:=by
   rw [← S.pre,List.getElem?_take_of_lt (by lia)];exact h1
  have ndP:ps.Nodup:=by rw [← S.pre];exact S.nd.sublist (List.take_sublist _ _)
  refine ⟨u,rv,?_⟩
  rcases S.par y (List.mem_of_getElem? hp) with k | k
  ·exact .inl ⟨k,XU ndP hp hu k⟩
  ·obtain ⟨c,e⟩:=Vl (n:=s.heap.objs.size + 1) k
   refine .inr ⟨.inl k,c,e,?_⟩
   have q:=x.cell y c e
   rw [XV ndP hp hu (by show scope.names.lookup y≠_;rw [k];decide)] at q
   exact q
 ·exact e0.hok.fresh (Nat.le_of_lt (x.above y c (PySem.mem_of_lookup h)))
 ·unfold start
  show _=N.length
  rw [List.length_append,List.length_map,List.length_replicate]
  lia
theorem zb9 {CX:CXT} {P:Program} {w:World} {K:W.Frag} {mg:Str→Option Value} {base:Heap} {k:Nat} {f:Addr} {name qual:Str} {params:Arguments} {body:List Stmt} {scope:Scope} {dV kV doc pm cdv ct oc:Value} {an od:Option Addr}
  {osl:Array (Option Value)} {N ps:List Str} {sp:Sp} (lk:K.lookup f=some ⟨oc,od,.func (W.fnOf name qual params body scope dV kV doc pm an cdv ct),osl⟩) (hcd:W.codeIn K cdv qual=true) (S:zC N ps scope)
  (len:∀ vs H Q E,sp vs H Q E→vs.length=ps.length)
  (hbody:∀ (A:Around) (outer:List Env) (s:Shared) (H:Hp) (vs:List V) (Q:VK) (E:XK),Room k (A.deeper (envOfC qual scope s.heap.objs.size f cdv))→sp vs H Q E →
   ∃ t,PSs (kH CX P w K mg base N qual scope f cdv A outer s H E) body t∧t { nx:=fun _ H'=>Q .non H',rt:=Q } (start N vs) H) :
  FnOk P w K mg base CX (k + 1) f (W.fnOf name qual params body scope dV kV doc pm an cdv ct) ps sp:=by
 refine ⟨len,fun A outer s H args us vs Q E hr e0 hb r hsp=>?_⟩
 have hl:=len _ _ _ _ hsp
 have KX:K.In s.heap:=e0.mod.kin.keeps fun b o e=>(e0.bs b o e).1
 have lim:s.heap.NoLimit:=e0.mod.nolimit.keeps fun b o e=>(e0.bs b o e).1
 have hkind:∀ y∈ps.zip us,scope.names.lookup y.1=some .local∨(scope.names.lookup y.1=some .cell∧((cellsFrom (s.heap.objs.size + 1) scope.names []).lookup y.1).isSome=true):=fun ⟨n,v⟩ hy=>by
  rcases S.par n (List.of_mem_zip hy).1 with q | q
  ·exact .inl q
  ·exact .inr ⟨q,W.cellsFrom_some _ _ _ (.inl q)⟩
 refine codeAny_call_function hr.depth (KX _ _ lk) rfl S.co S.gen rfl (W.codeRec_of KX hcd) (hb _ _ _ _ ?_)
 refine wpAny_newFunctionEnv_cells S.kind hkind fun env he s1 x=>?_
 subst he
 refine ⟨lim.keeps x.toInCall.keep,codeAny_func ?_⟩
 obtain ⟨t,ht,hq⟩:=hbody A outer s H vs Q E (hr.deeper _) hsp
 have I:Inv (kH CX P w K mg base N qual scope f cdv A outer s H E) [] (start N vs) H s1:=XW S hr.hd e0 hl r x
 refine wpAny_mono (ht [] s1 (start N vs) H _ I hq) (fun fl s' hs=>?_) fun e s' hs=>hs
 have fin:∀ {σ':St} {H':Hp} {v:V} {u:Value},Inv (kH CX P w K mg base N qual scope f cdv A outer s H E) [] σ' H' s'→RelV v u→Q v H'→CE outer P w H s Q u s' :=
  fun {σ' H' v u} J rv q=>⟨v,H',J.os,J.bare,J.base,J.hok,rv,q⟩
 cases fl with
 | ret u =>
  obtain ⟨v,σ',H',J,rv,q⟩:=hs
  exact fin J rv q
 | next =>
  obtain ⟨σ',H',J,q⟩:=hs
  exact fin (v:=V.non) (u:=Value.none) J rfl q
 | brk =>
  obtain ⟨_,_,_,q⟩:=hs
  exact False.elim q
 | cont =>
  obtain ⟨_,_,_,q⟩:=hs
  exact False.elim q
end L2
namespace L2
open PySem PySem.Spec PyProof.Rows
section
variable {X:Cx} {x:Str} {p pos:Pos} {e:Expr} {es:List Expr} {t:TA} {id T:String} {r:List V→Hp→VK→Prop}
def tCB (r:List V→Hp→VK→Prop) (t:TA):TE:=fun σ H Q=>t σ H fun vs H1=>r vs H1 Q
theorem ya (hc:ky X (.builtin id) r) (hg:Gl X x) (hm:X.mg x=none) (hv:bootBuiltins x=some (.builtin id)) (ha:PA X (e :: es) t) (hn:x≠"__name__":=by decide) (hdb:(x == ("__debug__":Str))=false:=by decide)
  (he:starEach (e :: es) X.env=(false,eval e X.env) :: starEach es X.env:=by rfl) (hpl:(backTo pos (starEach es X.env)).any (·.1)=false:=by rfl):PE X (.Call (.Name x p) (e :: es) [] pos) (tCB r t):=by
 intro pins s σ H Q I h
 refine wpAny_Call_Name_kw (Yt I hg hm hv ?_ hn hdb)
 exact PyProof.Rows.callWith_builtin1 (thn (ha pos pins s σ H _ I h) fun us s1 ⟨vs,H1,I1,r1,q1⟩=>hc pins s1 σ H1 vs us Q I1 r1 q1) he hpl
theorem yY (hc:ky X (.type T) r) (hg:Gl X x) (hm:X.mg x=none) (hv:bootBuiltins x=some (.type T)) (ha:PA X (e :: es) t) (hn:x≠"__name__":=by decide) (hdb:(x == ("__debug__":Str))=false:=by decide)
  (he:starEach (e :: es) X.env=(false,eval e X.env) :: starEach es X.env:=by rfl) (hpl:(backTo pos (starEach es X.env)).any (·.1)=false:=by rfl):PE X (.Call (.Name x p) (e :: es) [] pos) (tCB r t):=by
 intro pins s σ H Q I h
 refine wpAny_Call_Name_kw (Yt I hg hm hv ?_ hn hdb)
 exact PyProof.Rows.callWith_type1 (thn (ha pos pins s σ H _ I h) fun us s1 ⟨vs,H1,I1,r1,q1⟩=>hc pins s1 σ H1 vs us Q I1 r1 q1) he hpl
end
end L2
namespace HT
open PySem PyProof.Rows
def zdl:List Int→List Int→Bool
 | [],[]=>false
 | [],_ :: _=>true
 | _ :: _,[]=>false
 | x :: xs,y :: ys=>if x=y then zdl xs ys else decide (x < y)
theorem rcLt_int (A:Around) (s:Shared) (a:Int) (t:Tok) (c:Int) (u:Tok) (prog:Program) (w:World) (E:Value→Shared→Prop) (Q:Value→Shared→Prop) (h:Q (.bool (decide (a < c))) s) :
  wpAny (model prog w) A (richCompare .Lt (.int a t) (.int c u)) Q E s :=
 (PyProof.Rows.lt_int h:wpAny (model prog w) A (compareOp .Lt (.int a t) (.int c u)) Q E s)
section
open PySem.SeqAt
open PySem.AutoSeq1 (wpAny_loadPart')
open PySem.MeetsSeq PySem.MeetsSeq2 PySem.MeetsSeq3
end
section
variable {prog:Program} {w:World} {A:Around} {E:Value→Shared→Prop} {s:Shared}
def sIx (n d:Nat):Option Int→Nat
 | none=>d
 | some v=>if v < 0 then (v + (n:Int)).toNat else min v.toNat n
theorem sIx_none (n d:Nat):sIx n d none=d:=rfl
theorem sIx_nat (n d k:Nat):sIx n d (some (k:Int))=min k n:=by
 show (if (k:Int) < 0 then ((k:Int) + (n:Int)).toNat else min (k:Int).toNat n)=min k n
 rw [if_neg (by lia),Int.toNat_natCast]
theorem sIx_le (n d:Nat) (hd:d≤n) (o:Option Int):sIx n d o≤n:=by
 cases o with
 | none=>exact hd
 | some v =>
  show (if v < 0 then (v + (n:Int)).toNat else min v.toNat n)≤n
  by_cases hv:v < 0
  ·rw [if_pos hv];lia
  ·rw [if_neg hv];exact Nat.min_le_right _ _
end
end HT
namespace L2
open PySem PySem.Spec PyProof.Rows
abbrev TO:=St→Hp→(Option Int→Hp→Prop)→Prop
def PO (X:Cx) (e:Option Expr) (t:TO):Prop :=
 ∀ (pins:List (Addr × Obj)) (s:Shared) (σ:St) (H:Hp) (Q:Option Int→Hp→Prop),Inv X pins σ H s→t σ H Q →
  wpAny (model X.prog X.w) X.A (evalPart e X.env) (fun u s'=>∃ o H',Inv X pins σ H' s'∧IsPart u o∧Q o H') X.xe s
def yr:TO:=fun _ H Q=>Q none H
def xh (t:TE):TO:=fun σ H Q=>t σ H fun x H1=>∃ i,x=.int i∧Q (some i) H1
section
variable {X:Cx} {e:Expr} {te:TE} {lo hi:Option Expr} {tl th:TO} {pos p2:Pos}
theorem j2:PO X none yr:=by
 intro pins s σ H Q I h
 rw [evalPart_none]
 exact wpAny_pure ⟨none,H,I,.none,h⟩
theorem vF (h:PE X e te):PO X (some e) (xh te):=by
 intro pins s σ H Q I hw
 rw [evalPart_some]
 refine thn (h pins s σ H _ I hw) fun u s1 ⟨x,H1,I1,r1,q1⟩=>?_
 obtain ⟨i,rfl,q⟩:=q1
 obtain ⟨t,rfl⟩:=r1
 exact ⟨some i,H1,I1,.int i t,q⟩
def SlR (X:Cx) (r:V→Option Int→Option Int→Hp→VK→Prop):Prop :=
 ∀ (pins:List (Addr × Obj)) (s:Shared) (σ:St) (H:Hp) (x:V) (v vl vu:Value) (lo hi:Option Int) (sl:Addr) (Q:VK),Inv X pins σ H s→RelV x v→s.heap.IsSliceOf sl vl vu .none→IsPart vl lo→IsPart vu hi→r x lo hi H Q →
  ∃ T id,typeLookup (.type T) "__getitem__"=pure (some (.builtin id))∧s.TypeIs v T∧wpAny (model X.prog X.w) X.A (getItem v (.ref sl)) (EP X pins σ Q) X.xe s
def tSl (r:V→Option Int→Option Int→Hp→VK→Prop) (te:TE) (tl th:TO):TE:=fun σ H Q=>te σ H fun x H1=>tl σ H1 fun l H2=>th σ H2 fun u H3=>r x l u H3 Q
theorem wS {r:V→Option Int→Option Int→Hp→VK→Prop} (hr:SlR X r) (he:PE X e te) (hl:PO X lo tl) (hu:PO X hi th):PE X (.Subscript e (.Slice lo hi none p2) pos) (tSl r te tl th):=by
 intro pins s σ H Q I h
 refine Subscript_ (thn (he pins s σ H _ I h) fun v s1 ⟨x,H1,I1,r1,q1⟩=>?_)
 refine wpAny_Slice (thn (hl pins s1 σ H1 _ I1 q1) fun vl s2 ⟨l,H2,I2,pl,q2⟩=>thn (hu pins s2 σ H2 _ I2 q2) fun vu s3 ⟨u,H3,I3,pu,q3⟩=>?_)
 rw [evalPart_none]
 refine wpAny_pure ?_
 have I4:Inv X pins σ H3 { s3 with heap:=s3.heap.push { cls:=.type "slice",data:=.fields #[vl,vu,.none] } }:=I3.kept (t':=s3.toks) fun b ob q=>Heap.get?_push_of_some _ q
 obtain ⟨T,id,hT,ht,hg⟩:=hr pins { s3 with heap:=s3.heap.push { cls:=.type "slice",data:=.fields #[vl,vu,.none] } } σ H3 x v vl vu l u s3.heap.objs.size Q I4 r1 (Heap.IsSliceOf.new ..) pl pu q3
 show wpAny (model X.prog X.w) X.A (subscriptTail e (.Slice lo hi none p2) v (.ref s3.heap.objs.size)) (EP X pins σ Q) X.xe { s3 with heap:=s3.heap.push { cls:=.type "slice",data:=.fields #[vl,vu,.none] } }
 exact tail_any (ops:=[.ref s3.heap.objs.size,v]) ht hT hg (by with_unfolding_all rfl)
def Z7 (xs:List V) (lo hi:Option Int):List V:=(xs.drop (HT.sIx xs.length 0 lo)).take (HT.sIx xs.length xs.length hi - HT.sIx xs.length 0 lo)
theorem Vm (xs:List V) (lo hi:Option Int):(Z7 xs lo hi).length≤xs.length:=by
 unfold Z7
 rw [List.length_take,List.length_drop]
 lia
def zec (K:W.Frag):R2:=fun x y H Q=>∃ a b xs ys,x=.ref a∧y=.ref b∧SqT K H a xs∧SqT K H b ys∧xs≠[]∧xs.length + ys.length≤sizeLine ∧
 (ys=[]→Q (.ref a) H)∧(ys≠[]→∀ p,H p=none→Q (.ref p) (upd H p (.tup (xs ++ ys))))
end
end L2
namespace L2
open PySem PySem.Spec PyProof.Rows
def ixN (n:Nat) (i:Int):Option Nat:=if 0≤i then (if i < n then some i.toNat else none) else if -(n:Int)≤i then some (i + n).toNat else none
def atI {α:Type} (xs:List α) (i:Int):Option α:=(ixN xs.length i).bind fun j=>xs[j]?
theorem zba {n:Nat} {i:Int} {j:Nat} (h:ixN n i=some j):seqIndex? i n=some j∧j < n∧-(n:Int)≤i∧i < n:=by
 unfold ixN at h
 by_cases h0:0≤i
 ·rw [if_pos h0] at h
  by_cases h1:i < n
  ·rw [if_pos h1] at h
   have e:i.toNat=j:=Option.some.inj h
   exact ⟨by rw [seqIndex_of h0 h1,e],by lia,by lia,h1⟩
  ·rw [if_neg h1] at h;cases h
 ·rw [if_neg h0] at h
  by_cases h1:-(n:Int)≤i
  ·rw [if_pos h1] at h
   have e:(i + n).toNat=j:=Option.some.inj h
   exact ⟨by rw [seqIndex_neg (by lia) h1,e],by lia,h1,by lia⟩
  ·rw [if_neg h1] at h;cases h
theorem Ws {α:Type} {xs:List α} {i:Int} {v:α} (h:atI xs i=some v):∃ j,seqIndex? i xs.length=some j∧xs[j]?=some v∧j < xs.length∧-(xs.length:Int)≤i∧i < xs.length:=by
 unfold atI at h
 cases e:ixN xs.length i with
 | none=>rw [e] at h;cases h
 | some j =>
  rw [e] at h
  obtain ⟨h1,h2,h3,h4⟩:=zba e
  exact ⟨j,h1,h,h2,h3,h4⟩
theorem qp {α:Type} {xs:List α} {j:Nat} {v:α} (h:xs[j]?=some v):atI xs (j:Int)=some v:=by
 have hj:j < xs.length:=(List.getElem?_eq_some_iff.mp h).1
 have e:ixN xs.length (j:Int)=some j:=by
  unfold ixN
  rw [if_pos (by lia),if_pos (by lia)];simp
 unfold atI;rw [e];exact h
def zbb (b:Expr):Prop:=∀ o i,subscripted b false o i=operate [o,i] (getItem o i)
def IxR (X:Cx) (r:R2):Prop :=
 ∀ (value slice:Expr) (pins:List (Addr × Obj)) (s:Shared) (σ:St) (H:Hp) (x y:V) (v u:Value) (Q:VK),Inv X pins σ H s→RelV x v→RelV y u→r x y H Q →
  subscripted slice false v u=operate [v,u] (getItem v u)→wpAny (model X.prog X.w) X.A (subscriptTail value slice v u) (EP X pins σ Q) X.xe s
def MtR (X:Cx) (id:String) (r:V→List V→Hp→VK→Prop):Prop :=
 ∀ (pins:List (Addr × Obj)) (s:Shared) (σ:St) (H:Hp) (x:V) (xs:List V) (v:Value) (us:List Value) (Q:VK),Inv X pins σ H s→RelV x v→Vals xs us→r x xs H Q →
  wpAny (model X.prog X.w) X.A (call (.builtin id) (v :: us)) (EP X pins σ Q) X.xe s
section
variable {X:Cx} {a b:Expr} {ta tb:TE} {pos:Pos}
theorem zO {r:R2} (hr:IxR X r) (ha:PE X a ta) (hb:PE X b tb) (hs:zbb b):PE X (.Subscript a b pos) (tOp r ta tb):=by
 intro pins s σ H Q I h
 exact Subscript_ (zcv ha hb I h fun v u s2 x y H2 I2 rx ry q=>hr a b pins s2 σ H2 x y v u Q I2 rx ry q (hs _ _))
def xz (K:W.Frag):R2:=fun x y H Q=>∃ p xs i v,x=.ref p∧y=.int i∧SqL K H p xs∧atI xs i=some v∧Q v H
def zv (K:W.Frag):R2:=fun x y H Q=>∃ p xs i v,x=.ref p∧y=.int i∧SqT K H p xs∧atI xs i=some v∧Q v H
def Wt:R2:=fun x y H Q=>∃ z i c,x=.str z∧y=.int i∧z.length≤sizeLine∧atI z.cps.toList i=some c∧Q (.str ⟨#[c]⟩) H
theorem xC:IxR X (xz X.K):=by
 intro value slice pins s σ H x y v u Q I rx ry h hs
 obtain ⟨p,xs,i,z,rfl,rfl,hq,he,q⟩:=h
 cases rx
 obtain ⟨t,rfl⟩:=ry
 obtain ⟨its,r,pl,hz⟩:=I.list hq
 obtain ⟨j,h1,h2,h3,h4,h5⟩:=Ws he
 obtain ⟨w,ew,rw'⟩:=r.get h2
 have hl:=r.length
 have hn:=Wr
 have fin:EP X pins σ Q w s:=⟨z,H,I,rw',q⟩
 by_cases h0:0≤i
 ·have hj:i.toNat=j:=by
   rw [seqIndex_of h0 h5] at h1
   exact Option.some.inj h1
  exact item_listR pl.isList h0 (by lia) (by rw [hj];simpa using ew) fin hs
 ·have hj:(i + (its.toArray.size:Int)).toNat=j:=by
   rw [seqIndex_neg (by lia) h4] at h1
   rw [List.size_toArray,← hl]
   exact Option.some.inj h1
  exact subscriptTail_builtinR (x:=w) pl.isList.typeIs slot_list_getitem.lookup
   (wpAny_getItem_list_neg (Q:=fun r s'=>r=w∧EP X pins σ Q r s') pl.isList (by lia) (by rw [List.size_toArray] <;> lia) (by lia) (by rw [hj];simpa using ew) ⟨rfl,fin⟩) hs
theorem zM:IxR X (zv X.K):=by
 intro value slice pins s σ H x y v u Q I rx ry h hs
 obtain ⟨p,xs,i,z,rfl,rfl,hq,he,q⟩:=h
 cases rx
 obtain ⟨t,rfl⟩:=ry
 obtain ⟨its,r,pl,hz⟩:=I.tuple hq
 obtain ⟨j,h1,h2,h3,h4,h5⟩:=Ws he
 obtain ⟨w,ew,rw'⟩:=r.get h2
 have hl:=r.length
 have hn:=Wr
 have fin:EP X pins σ Q w s:=⟨z,H,I,rw',q⟩
 exact subscriptTail_builtinR (x:=w) pl.typeIs slot_tuple_getitem.lookup
  (getItem_tuple (j:=j) (Q:=fun r s'=>r=w∧EP X pins σ Q r s') pl (by lia) (by lia) (by rw [List.size_toArray,← hl];exact h1) (by simpa using ew) ⟨rfl,fin⟩) hs
theorem QO:IxR X Wt:=by
 intro value slice pins s σ H x y v u Q I rx ry h hs
 obtain ⟨z,i,c,rfl,rfl,hz,he,q⟩:=h
 obtain ⟨t,rfl⟩:=rx
 obtain ⟨t',rfl⟩:=ry
 obtain ⟨j,h1,h2,h3,h4,h5⟩:=Ws he
 have hl:z.cps.toList.length=z.length:=by simp [Str.length]
 rw [hl] at h1 h4 h5
 have hn:=Wr
 exact tail_any (typeIs_str s z t) slot_str_getitem.lookup (getItem_str (c:=c) (by
  have e1:decide (i < -(2 ^ 63:Int))=false:=decide_eq_false (by lia)
  have e2:decide (i ≥ 2 ^ 63)=false:=decide_eq_false (by lia)
  rw [e1,e2,Bool.or_false]) (by rw [h1];simpa using h2) ⟨.str ⟨#[c]⟩,H,I.tok _,⟨_,rfl⟩,q⟩) hs
theorem Wu (lo hi:Option Int) (n:Nat):(sliceBounds lo hi none n).1=((HT.sIx n 0 lo:Nat):Int)∧(sliceBounds lo hi none n).2.1=((HT.sIx n n hi:Nat):Int)∧(sliceBounds lo hi none n).2.2=1:=by
 refine ⟨?_,?_,rfl⟩
 ·cases lo with
  | none=>simp [sliceBounds,HT.sIx]
  | some i =>
   simp only [sliceBounds,HT.sIx,Option.getD_none,show (1:Int) > 0 by decide,if_true]
   by_cases h:i < 0
   ·simp only [h,if_true] <;> lia
   ·simp only [h,if_false] <;> lia
 ·cases hi with
  | none=>simp [sliceBounds,HT.sIx]
  | some i =>
   simp only [sliceBounds,HT.sIx,Option.getD_none,show (1:Int) > 0 by decide,if_true]
   by_cases h:i < 0
   ·simp only [h,if_true] <;> lia
   ·simp only [h,if_false] <;> lia
theorem Xs (its:List Value) (lo hi:Option Int):slicePick its.toArray lo hi none=((its.drop (HT.sIx its.length 0 lo)).take (HT.sIx its.length its.length hi - HT.sIx its.length 0 lo)).toArray:=by
 obtain ⟨h1,h2,h3⟩:=Wu lo hi its.toArray.size
 unfold slicePick
 rw [h1,h2,h3]
 simp only [sliceRange_one,pick_run,List.size_toArray] <;> rfl
def Zi (K:W.Frag):V→Option Int→Option Int→Hp→VK→Prop:=fun x lo hi H Q=>∃ a xs,x=.ref a∧SqL K H a xs∧∀ p,H p=none→Q (.ref p) (upd H p (.lst (Z7 xs lo hi)))
theorem Yl:SlR X (Zi X.K):=by
 intro pins s σ H x v vl vu lo hi sl Q I rx hs pl pu h
 obtain ⟨a,xs,rfl,hx,q⟩:=h
 cases rx
 obtain ⟨its,r,ht,hz⟩:=I.list hx
 have hlen:=r.length
 refine ⟨"list",_,slot_list_getitem.lookup,ht.isList.typeIs,?_⟩
 refine wpAny_getItem_list_slice ht.isList hs pl pu .none (by simp) ?_ (by rw [List.size_toArray] <;> lia)
 rw [Xs,← hlen]
 refine ⟨.ref s.heap.objs.size,_,I.laid (t':=s.toks) (o:=.lst (Z7 xs lo hi)) (fun b ob q=>Heap.get?_push_of_some _ q) (Nat.le_refl _) ?_,rfl,q _ (I.hok.fresh (Nat.le_refl _))⟩
 exact ⟨Nat.le_trans (Vm xs lo hi) hz,_,0,(r.drop (HT.sIx xs.length 0 lo)).take (HT.sIx xs.length xs.length hi - HT.sIx xs.length 0 lo),Heap.get?_push_size _ rfl⟩
def Zj:V→Bool
 | .non=>true
 | .bl _=>true
 | .int _=>true
 | .str _=>true
 | _=>false
def eqV:V→V→Bool
 | .non,.non=>true
 | .bl a,.bl b=>a == b
 | .bl a,.int b=>(if a then 1 else 0) == b
 | .int a,.bl b=>a == (if b then 1 else 0)
 | .int a,.int b=>a == b
 | .str a,.str b=>a == b
 | _,_=>false
theorem zcy {A:Around} {s:Shared} {y x:V} {u v:Value} (ry:RelV y u) (rx:RelV x v) (fy:Zj y=true) (fx:Zj x=true):SeqAt.EqAt A s u v (eqV y x):=by
 cases y with
 | non =>
  cases ry
  cases x with
  | non=>cases rx;exact SeqAt.EqAt.same _
  | bl b=>cases rx;exact SeqAt.EqAt.none_bool b
  | int b=>obtain ⟨t,rfl⟩:=rx;exact SeqAt.EqAt.none_int b t
  | str b=>obtain ⟨t,rfl⟩:=rx;exact SeqAt.EqAt.none_str b t
  | _=>exact absurd (show false=true from fx) Bool.false_ne_true
 | bl a =>
  cases ry
  cases x with
  | non=>cases rx;exact SeqAt.EqAt.bool_none a
  | bl b=>cases rx;exact SeqAt.EqAt.bool_bool a b
  | int b=>obtain ⟨t,rfl⟩:=rx;exact SeqAt.EqAt.bool_int a b t
  | str b=>obtain ⟨t,rfl⟩:=rx;exact SeqAt.EqAt.bool_str a b t
  | _=>exact absurd (show false=true from fx) Bool.false_ne_true
 | int a =>
  obtain ⟨t',rfl⟩:=ry
  cases x with
  | non=>cases rx;exact SeqAt.EqAt.int_none a t'
  | bl b=>cases rx;exact SeqAt.EqAt.int_bool a t' b
  | int b=>obtain ⟨t,rfl⟩:=rx;exact SeqAt.EqAt.int_int a t' b t
  | str b=>obtain ⟨t,rfl⟩:=rx;exact SeqAt.EqAt.int_str a t' b t
  | _=>exact absurd (show false=true from fx) Bool.false_ne_true
 | str a =>
  obtain ⟨t',rfl⟩:=ry
  cases x with
  | non=>cases rx;exact SeqAt.EqAt.str_none a t'
  | bl b=>cases rx;exact SeqAt.EqAt.str_bool a t' b
  | int b=>obtain ⟨t,rfl⟩:=rx;exact SeqAt.EqAt.str_int a t' b t
  | str b=>obtain ⟨t,rfl⟩:=rx;exact SeqAt.EqAt.str_str a t' b t
  | _=>exact absurd (show false=true from fx) Bool.false_ne_true
 | _=>exact absurd (show false=true from fy) Bool.false_ne_true
def eqU (x:V) (u:Value):Bool:=match u with
 | .none=>eqV .non x
 | .bool b=>eqV (.bl b) x
 | .int i _=>eqV (.int i) x
 | .str z _=>eqV (.str z) x
 | _=>false
theorem QP {x y:V} {u:Value} (r:RelV y u) (f:Zj y=true):eqU x u=eqV y x:=by
 cases y with
 | non=>cases r;rfl
 | bl b=>cases r;rfl
 | int i=>obtain ⟨t,rfl⟩:=r;rfl
 | str z=>obtain ⟨t,rfl⟩:=r;rfl
 | _=>exact absurd (show false=true from f) Bool.false_ne_true
theorem Wv {x:V}:∀ {xs:List V} {us:List Value},Vals xs us→xs.all Zj=true→us.any (eqU x)=xs.any fun y=>eqV y x
 | _,_,.nil,_=>rfl
 | y :: xs,u :: us,.cons r t,f=>by
  rw [List.all_cons,Bool.and_eq_true] at f
  rw [List.any_cons,List.any_cons,QP r f.1,Wv t f.2]
theorem YA {A:Around} {s:Shared} {x:V} {v:Value} (rx:RelV x v) (fx:Zj x=true):∀ {xs:List V} {us:List Value},Vals xs us→xs.all Zj=true→∀ u∈us,SeqAt.EqAt A s u v (eqU x u)
 | _,_,.nil,_=>fun u hu=>by cases hu
 | y :: xs,u :: us,.cons r t,f=>fun u' hu=>by
  rw [List.all_cons,Bool.and_eq_true] at f
  rcases List.mem_cons.mp hu with rfl | hu
  ·rw [QP r f.1];exact zcy r rx f.1 fx
  ·exact YA rx fx t f.2 u' hu
def inV (x:V) (xs:List V):Bool:=xs.any fun y=>eqV y x
def rIn (K:W.Frag) (neg:Bool):R2:=fun x y H Q=>∃ p xs,y=.ref p∧(SqL K H p xs∨SqT K H p xs)∧Zj x=true∧xs.all Zj=true∧Q (.bl (if neg then !inV x xs else inV x xs)) H
theorem XX:OpR X (compareOp .In) (rIn X.K false):=by
 intro pins s σ H x y v u Q I rx ry h
 obtain ⟨p,xs,rfl,hq,fx,fs,q⟩:=h
 cases ry
 rcases hq with hq | hq
 ·obtain ⟨its,r,pl,hz⟩:=I.list hq
  refine SeqAt.in_listAt (eqU x) pl.isList (fun w hw=>YA rx fx r fs w (by simpa using hw)) ⟨.bl _,H,I,rfl,?_⟩
  rw [show its.toArray.any (eqU x)=its.any (eqU x) by simp,Wv r fs]
  exact q
 ·obtain ⟨its,r,pl,hz⟩:=I.tuple hq
  refine SeqAt.in_tupleAt (eqU x) pl (fun w hw=>YA rx fx r fs w (by simpa using hw)) ⟨.bl _,H,I,rfl,?_⟩
  rw [show its.toArray.any (eqU x)=its.any (eqU x) by simp,Wv r fs]
  exact q
theorem j3:ky X (.type "list") (fun xs H Q=>∃ p ys,xs=[.ref p]∧(SqL X.K H p ys∨SqT X.K H p ys)∧∀ l,H l=none→Q (.ref l) (upd H l (.lst ys))):=by
 intro pins s σ H xs us Q I r h
 obtain ⟨p,ys,rfl,hq,q⟩:=h
 obtain ⟨u,rfl,rx⟩:=ZX r
 cases rx
 have fin:∀ (its:List Value),Vals ys its→ys.length≤sizeLine→∀ (h':Heap) (c':Nat),(∀ b o',s.heap.get? b=some o'→h'.get? b=some o') →
   h'.get? s.heap.objs.size=some { cls:=.type "list",dict:=none,data:=.seq its.toArray c',slots:=#[] }→EP X pins σ Q (.ref s.heap.objs.size) { s with heap:=h' }:=fun its r' hz h' c' kp e =>
  ⟨.ref s.heap.objs.size,_,I.laid (t':=s.toks) kp (Nat.le_refl _) (show ObjOk X.prog X.w _ h' _ (.lst ys) from ⟨hz,its,c',r',e⟩),rfl,q _ (I.hok.fresh (Nat.le_refl _))⟩
 rcases hq with hq | hq
 ·obtain ⟨its,r',pl,hz⟩:=I.list hq
  have hlen:=r'.length
  obtain ⟨o,ho,hc,n,hd⟩:=pl.isList
  exact call_list_seq p (.inl rfl) ho hc hd (fun h' c' kp e=>fin its r' hz h' c' kp e) (by simp only [List.size_toArray] <;> lia)
 ·obtain ⟨its,r',pl,hz⟩:=I.tuple hq
  have hlen:=r'.length
  obtain ⟨o,ho,hc,n,hd⟩:=pl
  exact call_list_seq p (.inr rfl) ho hc hd (fun h' c' kp e=>fin its r' hz h' c' kp e) (by simp only [List.size_toArray] <;> lia)
theorem qH:ky X (.type "tuple") (fun xs H Q=>∃ p ys,xs=[.ref p]∧((SqL X.K H p ys∧∀ l,H l=none→Q (.ref l) (upd H l (.tup ys)))∨(SqT X.K H p ys∧Q (.ref p) H))):=by
 intro pins s σ H xs us Q I r h
 obtain ⟨p,ys,rfl,h⟩:=h
 obtain ⟨u,rfl,rx⟩:=ZX r
 cases rx
 rcases h with ⟨hq,q⟩ | ⟨hq,q⟩
 ·obtain ⟨its,r',pl,hz⟩:=I.list hq
  have hlen:=r'.length
  refine call_tuple_list pl.isList (fun h' kp=>?_) (by simp only [List.size_toArray] <;> lia)
  have I1:Inv X pins σ H { s with heap:=h' }:=I.kept (t':=s.toks) kp
  have I2:Inv X pins σ (upd H h'.objs.size (.tup ys)) { s with heap:=h'.push { cls:=.type "tuple",data:=.seq its.toArray } } :=
   I1.laid (t':=s.toks) (fun b o e=>Heap.get?_push_of_some _ e) (Nat.le_refl _) (show ObjOk X.prog X.w _ _ _ (.tup ys) from ⟨hz,its,r',IsTup.new _ _⟩)
  exact ⟨.ref h'.objs.size,_,I2,rfl,q _ (I1.hok.fresh (Nat.le_refl _))⟩
 ·obtain ⟨its,r',pl,hz⟩:=I.tuple hq
  exact call_tuple_same pl ⟨.ref p,H,I,rfl,q⟩
def tyV (K:W.Frag) (T:String) (x:V) (H:Hp):Prop:=match x with
 | .str _=>T="str"
 | .int _=>T="int"
 | .ref p=>(T="list"∧∃ xs,SqL K H p xs)∨(T="tuple"∧∃ o,K.lookup p=some o∧o.cls=.type "tuple"∧o.dict=none) ∨
   (T="dict"∧((∃ kvs,H p=some (.dK kvs))∨∃ kvs,H p=some (.dT kvs)))∨(T="set"∧∃ S n,H p=some (.set S n))
 | _=>False
theorem QQ {pins:List (Addr × Obj)} {σ:St} {H:Hp} {s:Shared} {T:String} {x:V} {v:Value} (I:Inv X pins σ H s) (r:RelV x v) (ty:tyV X.K T x H) :
  s.TypeIs v T∧∀ a,v=.ref a→∃ ob,s.heap.get? a=some ob∧ob.dict=none:=by
 cases x with
 | str z =>
  obtain ⟨t,rfl⟩:=r
  cases (show T="str" from ty)
  exact ⟨typeIs_str s z t,fun _ e=>nomatch e⟩
 | int i =>
  obtain ⟨t,rfl⟩:=r
  cases (show T="int" from ty)
  exact ⟨typeIs_int s i t,fun _ e=>nomatch e⟩
 | ref p =>
  cases r
  rcases ty with ⟨rfl,xs,hq⟩ | ⟨rfl,o,hk,hc,hd⟩ | ⟨rfl,hk⟩ | ⟨rfl,S,n,hk⟩
  ·obtain ⟨its,_,pl,_⟩:=I.list hq
   refine ⟨pl.isList.typeIs,fun a e=>?_⟩
   cases e
   obtain ⟨o,n,e,c,hd,_⟩:=pl
   exact ⟨o,e,hd⟩
  ·refine ⟨⟨o,I.kIn p o hk,hc⟩,fun a e=>?_⟩
   cases e
   exact ⟨o,I.kIn _ o hk,hd⟩
  ·have z:∃ o,s.heap.get? p=some o∧o.ExactDict:=by
    rcases hk with ⟨kvs,hk⟩ | ⟨kvs,hk⟩
    ·obtain ⟨_,_,_,_,o,_,_,e,ex,_⟩:=I.hok p _ hk
     exact ⟨o,e,ex⟩
    ·obtain ⟨_,_,_,_,o,_,_,e,ex,_⟩:=I.hok p _ hk
     exact ⟨o,e,ex⟩
   obtain ⟨o,e,ex⟩:=z
   refine ⟨⟨o,e,ex.1⟩,fun a e2=>?_⟩
   cases e2
   exact ⟨o,e,ex.2.1⟩
  ·obtain ⟨o,_,_,_,e,ex,_⟩:=I.hok p _ hk
   refine ⟨⟨o,e,ex.1⟩,fun a e2=>?_⟩
   cases e2
   exact ⟨o,e,ex.2.1⟩
 | _=>exact False.elim ty
def Ww (K:W.Frag) (T:String) (r:V→List V→Hp→VK→Prop) (to:TE):TE:=fun σ H Q=>to σ H fun x H1=>tyV K T x H1∧r x [] H1 Q
def tBM (K:W.Frag) (T:String) (r:V→List V→Hp→VK→Prop) (to:TE) (t:TA):TE:=fun σ H Q=>to σ H fun x H1=>tyV K T x H1∧t σ H1 fun xs H2=>r x xs H2 Q
variable {o e:Expr} {es:List Expr} {to:TE} {t:TA} {name:Str} {apos cpos:Pos} {T id:String} {r:V→List V→Hp→VK→Prop}
theorem JC (pa:PlainAttrs T) (slot:Slot T name id) (hty:typeOf (.builtin id)=pure (.type "method_descriptor")) (hm:MtR X id r) (ho:PE X o to)
  (hbase:attributeBase o name X.env (eval o X.env)=eval o X.env:=by rfl) (hline:(apos.endLine == cpos.line)=true:=by rfl):PE X (.Call (.Attribute o name apos) [] [] cpos) (Ww X.K T r to):=by
 intro pins s σ H Q I h
 refine wpAny_Call_method0_late hbase hline (thn (ho pins s σ H _ I h) fun v s1 ⟨x,H1,I1,r1,ty,q1⟩=>?_)
 obtain ⟨h1,h2⟩:=QQ I1 r1 ty
 exact ⟨T,id,pa,slot,hty,h1,h2,Calls.callWith_builtin rfl (PySem.evalArgs_none (hm pins s1 σ H1 x [] v [] Q I1 r1 .nil q1))⟩
theorem XY (pa:PlainAttrs T) (slot:Slot T name id) (hty:typeOf (.builtin id)=pure (.type "method_descriptor")) (hm:MtR X id r) (ho:PE X o to) (ha:PA X (e :: es) t)
  (hbase:attributeBase o name X.env (eval o X.env)=eval o X.env:=by rfl)
  (hfew:((backTo cpos (starEach (e :: es) X.env)).all (fun x=>!x.1) && (backToKw cpos (keywordEach [] X.env)).all (fun x=>x.1.isSome)
   && decide ((e :: es).length + ([]:List Keyword).length + (if ([]:List Keyword).isEmpty then 0 else 1) < 30))=true:=by rfl)
  (hline:(apos.endLine == cpos.line)=true:=by rfl) (hs:starEach (e :: es) X.env=(false,eval e X.env) :: starEach es X.env:=by rfl) (hplain:(backTo cpos (starEach es X.env)).any (·.1)=false:=by rfl) :
  PE X (.Call (.Attribute o name apos) (e :: es) [] cpos) (tBM X.K T r to t):=by
 intro pins s σ H Q I h
 refine wpAny_Call_method_late hbase hfew hline rfl (thn (ho pins s σ H _ I h) fun v s1 ⟨x,H1,I1,r1,ty,q1⟩=>?_)
 obtain ⟨h1,h2⟩:=QQ I1 r1 ty
 refine ⟨T,id,pa,slot,hty,h1,h2,?_⟩
 have hA:=ha cpos pins s1 σ H1 _ I1 q1
 rw [hs] at hA ⊢
 refine Calls.callWith_builtin (by show (false || (backTo cpos (starEach es X.env)).any (·.1))=false;rw [hplain] <;> rfl) (Calls.evalArgs_plain ?_)
 exact thn hA fun us s2 ⟨vs,H2,I2,r2,q2⟩=>hm pins s2 σ H2 x vs v us Q I2 r1 r2 q2
end
end L2
namespace L2
open PySem PySem.Spec PyProof.Rows
def MtM (X:Cx) (id:String) (r:V→List V→Hp→VK→Prop):Prop :=
 ∀ (pins:List (Addr × Obj)) (s:Shared) (σ:St) (H:Hp) (x:V) (xs:List V) (v:Value) (us:List Value) (Q:VK),Inv X pins σ H s→RelV x v→Vals xs us→r x xs H Q →
  wpAny (model X.prog X.w) X.A (call (.builtin id) (v :: us)) (EP X pins σ Q) X.xe s
theorem Vals.one:∀ {x:V} {us:List Value},Vals [x] us→∃ u,us=[u]∧RelV x u
 | _,_,.cons r .nil=>⟨_,rfl,r⟩
theorem Vals.zero:∀ {us:List Value},Vals [] us→us=[]
 | _,.nil=>rfl
theorem Vals.dropLast {xs:List V} {us:List Value} (h:Vals xs us):Vals xs.dropLast us.dropLast:=by
 induction h with
 | nil=>exact .nil
 | cons r t ih =>
  cases t with
  | nil=>exact .nil
  | cons q t'=>exact .cons r ih
theorem JD {α:Type} (l:List α):l.eraseIdx (l.length - 1)=l.dropLast:=by
 induction l with
 | nil=>rfl
 | cons a r ih =>
  cases r with
  | nil=>rfl
  | cons b r =>
   have e:(a :: b :: r).length - 1=((b :: r).length - 1) + 1:=by
    have h1:(a :: b :: r).length=r.length + 2:=rfl
    have h2:(b :: r).length=r.length + 1:=rfl
    lia
   rw [e,List.eraseIdx_cons_succ,ih]
   all_goals rfl
section
variable {X:Cx} {pins:List (Addr × Obj)} {σ:St} {H:Hp} {s:Shared} {l b:Addr} {xs ys zs:List V}
theorem Inv.lset {its its':List Value} {n:Nat} {f:Array Value→Array Value} {t':Nat} (I:Inv X pins σ H s) (hH:H l=some (.lst xs))
  (e:s.heap.get? l=some { cls:=.type "list",data:=.seq its.toArray n }) (hf:f its.toArray=its'.toArray) (hv:Vals ys its') (hz:ys.length≤sizeLine) :
  Inv X pins σ (upd H l (.lst ys)) { s with heap:=s.heap.update l (Obj.mapSeq f),toks:=t' }:=by
 have q:=PySem.IsL.update e f
 rw [hf] at q
 refine I.write (x:=l) (e:=l) (by rw [hH];exact trivial) (.inl rfl) (fun b' u hb hu=>(Heap.get?_update_other s.heap (Obj.mapSeq f) (Ne.symm hb)).trans hu) ⟨_,q⟩ ?_
 exact ⟨hz,its',_,hv,q⟩
theorem Inv.lnew {its:List Value} {t':Nat} (I:Inv X pins σ H s) (hv:Vals ys its) (hz:ys.length≤sizeLine) :
  Inv X pins σ (upd H s.heap.objs.size (.lst ys)) { s with heap:=s.heap.push { cls:=.type "list",data:=.seq its.toArray },toks:=t' } :=
 I.laid (fun _ _ q=>Heap.get?_push_of_some _ q) (Nat.le_refl _) ⟨hz,its,0,hv,Heap.get?_push_size _ rfl⟩
theorem Inv.fresh (I:Inv X pins σ H s):H s.heap.objs.size=none:=I.hok.fresh (Nat.le_refl _)
theorem Inv.lstM (I:Inv X pins σ H s) (hH:H l=some (.lst xs)):xs.length≤sizeLine∧∃ (its:List Value) (n:Nat),Vals xs its∧xs.length=its.length∧s.heap.get? l=some { cls:=.type "list",data:=.seq its.toArray n }:=by
 obtain ⟨z,its,n,r,e⟩:=I.hok l _ hH
 exact ⟨z,its,n,r,r.length,e⟩
theorem QR {n:Nat} (h:n≤sizeLine):Builtin.List.listTooLong n=false:=by
 unfold Builtin.List.listTooLong
 exact decide_eq_false (by lia)
end
section
variable {X:Cx}
def yn:V→List V→Hp→VK→Prop:=fun x vs H Q=>∃ l xs y,x=.ref l∧vs=[y]∧H l=some (.lst xs)∧xs.length < sizeLine∧Q .non (upd H l (.lst (xs ++ [y])))
theorem vK:MtM X "list.append" yn:=by
 intro pins s σ H x vs v us Q I rx rv h
 obtain ⟨l,xs,y,rfl,rfl,hH,hz,q⟩:=h
 cases rx
 obtain ⟨u,rfl,ru⟩:=rv.one
 obtain ⟨z,its,n,r,hl,e⟩:=I.lstM hH
 refine call_meets F.slot_list_append ⟨_,e,rfl⟩ F.entry_list_append (F.args_list_append_2 _ _) (PySem.list_append l its.toArray n u (by rw [List.size_toArray];lia)) ⟨e,?_⟩
 refine ⟨.non,_,I.lset (its':=its ++ [u]) hH e (by simp) (r.append (.cons ru .nil)) ?_,rfl,q⟩
 rw [List.length_append,List.length_singleton]
 lia
def Ym:V→List V→Hp→VK→Prop:=fun x vs H Q=>∃ l b xs zs,x=.ref l∧vs=[.ref b]∧H l=some (.lst xs)∧H b=some (.lst zs)∧xs.length + zs.length≤sizeLine∧Q .non (upd H l (.lst (xs ++ zs)))
theorem Qg:MtM X "list.extend" Ym:=by
 intro pins s σ H x vs v us Q I rx rv h
 obtain ⟨l,b,xs,zs,rfl,rfl,hH,hB,hz,q⟩:=h
 cases rx
 obtain ⟨u,rfl,ru⟩:=rv.one
 cases ru
 obtain ⟨z,its,n,r,hl,e⟩:=I.lstM hH
 obtain ⟨z2,its2,n2,r2,hl2,e2⟩:=I.lstM hB
 have hsz:its.toArray.size + its2.toArray.size≤sizeLine:=by rw [List.size_toArray,List.size_toArray];lia
 have hlong:¬ (!its.toArray.isEmpty && Builtin.List.listTooLong (its.toArray.size + its2.toArray.size))=true:=by
  rw [QR hsz,Bool.and_false]
  exact Bool.false_ne_true
 refine call_meets F.slot_list_extend ⟨_,e,rfl⟩ F.entry_list_extend (F.args_list_extend_2 _ _)
  (AutoSeq1.list_extend_list_list_0 l its.toArray n b its2.toArray n2 hlong (by rw [List.size_toArray];lia) (by lia)) ⟨e,e2,?_⟩
 refine ⟨.non,_,I.lset (its':=its ++ its2) hH e (by simp) (r.append r2) ?_,rfl,q⟩
 rw [List.length_append]
 lia
def JE:V→List V→Hp→VK→Prop:=fun x vs H Q=>∃ l xs y,x=.ref l∧vs=[]∧H l=some (.lst xs)∧xs[xs.length - 1]?=some y∧Q y (upd H l (.lst xs.dropLast))
theorem JF:MtM X "list.pop" JE:=by
 intro pins s σ H x vs v us Q I rx rv h
 obtain ⟨l,xs,y,rfl,rfl,hH,hy,q⟩:=h
 cases rx
 have hus:=rv.zero
 subst hus
 obtain ⟨z,its,n,r,hl,e⟩:=I.lstM hH
 obtain ⟨u,hu,ru⟩:=r.get hy
 have hy':its.toArray[its.toArray.size - 1]?=some u:=by
  show its.toArray[its.length - 1]?=some u
  rw [← Array.getElem?_toList,← hl]
  exact hu
 refine call_meets F.slot_list_pop ⟨_,e,rfl⟩ F.entry_list_pop (F.args_list_pop_1 _) (MeetsSeq.list_pop_last l its.toArray n u hy' (by rw [List.size_toArray];lia)) ⟨e,?_⟩
 refine ⟨y,_,I.lset (its':=its.dropLast) hH e ?_ r.dropLast ?_,ru,q⟩
 ·show its.toArray.eraseIdxIfInBounds (its.toArray.size - 1)=its.dropLast.toArray
  rw [List.size_toArray,List.eraseIdxIfInBounds_toArray,JD]
 ·rw [List.length_dropLast]
  lia
def zcz:V→List V→Hp→VK→Prop:=fun x vs H Q=>∃ l xs,x=.ref l∧vs=[]∧H l=some (.lst xs)∧Q .non (upd H l (.lst []))
def xA:R2:=fun x y H Q=>∃ l b xs zs,x=.ref l∧y=.ref b∧H l=some (.lst xs)∧H b=some (.lst zs)∧xs.length + zs.length≤sizeLine∧∀ p,H p=none→Q (.ref p) (upd H p (.lst (xs ++ zs)))
theorem kN:OpR X (binaryOp .Add) xA:=by
 intro pins s σ H x y v u Q I rx ry h
 obtain ⟨l,b,xs,zs,rfl,rfl,hH,hB,hz,q⟩:=h
 cases rx
 cases ry
 obtain ⟨z,its,n,r,hl,e⟩:=I.lstM hH
 obtain ⟨z2,its2,n2,r2,hl2,e2⟩:=I.lstM hB
 refine PySem.P.add_list e e2 ?_ (by rw [List.size_toArray,List.size_toArray];lia)
 have ea:its.toArray ++ its2.toArray=(its ++ its2).toArray:=by simp
 rw [ea]
 exact ⟨.ref _,_,I.lnew (t':=s.toks) (r.append r2) (by rw [List.length_append];lia),rfl,q _ I.fresh⟩
def zez:R2:=fun x y H Q=>∃ l k xs,x=.ref l∧y=.int k∧H l=some (.lst xs)∧-(2 ^ 63)≤k∧k < 2 ^ 63∧xs.length * k.toNat≤sizeLine ∧
 ∀ p,H p=none→Q (.ref p) (upd H p (.lst (List.replicate k.toNat xs).flatten))
end
section
variable {prog:Program} {w:World} {A:Around} {E:Value→Shared→Prop} {s:Shared}
set_option maxRecDepth 100000 in
end
section
variable {X:Cx}
end
end L2
namespace L2
open PySem PySem.Spec PyProof.Rows
section
variable {κ:Type} [DecidableEq κ]
def yN (kvs:List (κ × V)) (k:κ):Option V:=(kvs.find? fun kv=>decide (kv.1=k)).map (·.2)
def yD (kvs:List (κ × V)) (k:κ) (v:V):List (κ × V) :=
 if (kvs.any fun kv=>decide (kv.1=k))=true then kvs.map (fun kv=>if kv.1=k then (kv.1,v) else kv) else kvs ++ [(k,v)]
def XZ (kvs:List (κ × V)) (k:κ):List (κ × V):=kvs.filter fun kv=>decide (kv.1≠k)
theorem YB {k:κ}:yN ([]:List (κ × V)) k=none:=rfl
theorem xi {p:κ × V} {r:List (κ × V)} {k:κ} (e:p.1=k):yN (p :: r) k=some p.2:=by simp [yN,List.find?_cons,e]
theorem xj {p:κ × V} {r:List (κ × V)} {k:κ} (e:¬ p.1=k):yN (p :: r) k=yN r k:=by simp [yN,List.find?_cons,e]
theorem wT (k:κ):∀ kvs:List (κ × V),(kvs.any fun kv=>decide (kv.1=k))=(yN kvs k).isSome
 | []=>rfl
 | p :: r=>by
  rw [List.any_cons]
  by_cases e:p.1=k
  ·simp only [xi e,decide_eq_true e,Bool.true_or,Option.isSome_some]
  ·rw [xj e,decide_eq_false e,Bool.false_or];exact wT k r
theorem Vn (k j:κ) (y:V):∀ kvs:List (κ × V),yN (kvs.map fun kv=>if kv.1=k then (kv.1,y) else kv) j=(yN kvs j).map fun x=>if j=k then y else x
 | []=>rfl
 | p :: r=>by
  have ih:=Vn k j y r
  rw [List.map_cons]
  by_cases h:p.1=k
  ·rw [if_pos h]
   by_cases e:p.1=j
   ·rw [xi (p:=(p.1,y)) e,xi e,Option.map_some,if_pos (e.symm.trans h)]
   ·rw [xj (p:=(p.1,y)) e,xj e,ih]
  ·rw [if_neg h]
   by_cases e:p.1=j
   ·rw [xi (p:=p) e,xi e,Option.map_some,if_neg (fun z=>h (e.trans z))]
   ·rw [xj (p:=p) e,xj e,ih]
theorem X0 (k j:κ) (y:V):∀ kvs:List (κ × V),yN kvs k=none→yN (kvs ++ [(k,y)]) j=if j=k then some y else yN kvs j
 | [],_=>by
  by_cases e:k=j
  ·rw [if_pos e.symm];exact xi (p:=(k,y)) e
  ·rw [if_neg (fun z=>e z.symm)];exact xj (p:=(k,y)) e
 | p :: r,hn=>by
  rw [List.cons_append]
  have hk:¬ p.1=k:=fun z=>by rw [xi z] at hn;cases hn
  rw [xj hk] at hn
  have ih:=X0 k j y r hn
  by_cases e:p.1=j
  ·rw [xi e,xi e,if_neg (fun z=>hk (e.trans z))]
  ·rw [xj e,xj e,ih]
theorem YC (kvs:List (κ × V)) (k j:κ) (y:V):yN (yD kvs k y) j=if j=k then some y else yN kvs j:=by
 unfold yD
 by_cases a:(kvs.any fun kv=>decide (kv.1=k))=true
 ·rw [if_pos a,Vn]
  rw [wT] at a
  by_cases e:j=k
  ·obtain ⟨x,hx⟩:=Option.isSome_iff_exists.mp a
   rw [if_pos e,e,hx,Option.map_some,if_pos rfl]
  ·rw [if_neg e]
   cases yN kvs j with
   | none=>rfl
   | some x=>rw [Option.map_some,if_neg e]
 ·rw [if_neg a]
  refine X0 k j y kvs ?_
  rw [wT] at a
  cases q:yN kvs k with
  | none=>rfl
  | some x=>rw [q] at a;exact (a rfl).elim
theorem xB (kvs:List (κ × V)) (k:κ) (v:V):(yD kvs k v).length≤kvs.length + 1:=by
 unfold yD
 split
 ·rw [List.length_map];lia
 ·rw [List.length_append,List.length_cons,List.length_nil];lia
theorem YD {kvs:List (κ × V)} {k:κ} (v:V) (h:yN kvs k=none):yD kvs k v=kvs ++ [(k,v)]:=by
 unfold yD
 rw [wT,h]
 exact if_neg (by decide)
theorem RelO.isSome_eq {o:Option V} {u:Option Value} (r:RelO o u):o.isSome=u.isSome:=by
 cases o with
 | none=>cases u with
  | none=>rfl
  | some _=>exact (show False from r).elim
 | some _=>cases u with
  | none=>exact (show False from r).elim
  | some _=>rfl
theorem RelO.getD {o:Option V} {u:Option Value} {d:V} {d':Value} (r:RelO o u) (rd:RelV d d'):RelV (o.getD d) (u.getD d'):=by
 cases o with
 | none=>cases u with
  | none=>exact rd
  | some _=>exact (show False from r).elim
 | some _=>cases u with
  | none=>exact (show False from r).elim
  | some _=>exact r
theorem KV.val {kvs:List (κ × V)} {vs:List (κ × Value)} (r:KV kvs vs) (k:κ):RelO (yN kvs k) (valueAt vs k):=by
 unfold KV at r
 induction r with
 | nil=>exact True.intro
 | @cons p q ps qs h t ih =>
  obtain ⟨h1,h2⟩:=h
  by_cases e:p.1=k
  ·have e':q.1=k:=h1.symm.trans e
   have b:valueAt (q :: qs) k=some q.2:=by simp [valueAt,List.find?_cons,e']
   rw [xi e,b];exact h2
  ·have e':¬ q.1=k:=fun z=>e (h1.trans z)
   have b:valueAt (q :: qs) k=valueAt qs k:=by simp [valueAt,List.find?_cons,e']
   rw [xj e,b];exact ih
theorem KV.any {kvs:List (κ × V)} {vs:List (κ × Value)} (r:KV kvs vs) (k:κ):(kvs.any fun kv=>decide (kv.1=k))=vs.any fun kv=>decide (kv.1=k):=by
 unfold KV at r
 induction r with
 | nil=>rfl
 | cons h t ih=>rw [List.any_cons,List.any_cons,ih,h.1]
theorem KV.repl {kvs:List (κ × V)} {vs:List (κ × Value)} (r:KV kvs vs) (k:κ) {y:V} {u:Value} (ry:RelV y u) :
  KV (kvs.map fun kv=>if kv.1=k then (kv.1,y) else kv) (vs.map fun kv=>if kv.1=k then (kv.1,u) else kv):=by
 unfold KV at r ⊢
 induction r with
 | nil=>exact .nil
 | @cons p q ps qs h t ih =>
  rw [List.map_cons,List.map_cons]
  refine .cons ?_ ih
  obtain ⟨h1,h2⟩:=h
  by_cases e:p.1=k
  ·rw [if_pos e,if_pos (h1.symm.trans e)];exact ⟨h1,ry⟩
  ·rw [if_neg e,if_neg (fun z=>e (h1.trans z))];exact ⟨h1,h2⟩
theorem KV.put {kvs:List (κ × V)} {vs:List (κ × Value)} (r:KV kvs vs) (k:κ) {y:V} {u:Value} (ry:RelV y u):KV (yD kvs k y) (stored vs k u):=by
 unfold yD stored
 rw [r.any k]
 by_cases e:(vs.any fun kv=>decide (kv.1=k))=true
 ·rw [if_pos e,if_pos e];exact r.repl k ry
 ·rw [if_neg e,if_neg e];exact Paired.snoc r ⟨rfl,ry⟩
theorem KV.length {kvs:List (κ × V)} {vs:List (κ × Value)} (r:KV kvs vs):kvs.length=vs.length:=Paired.length r
end
theorem X1 {P:Program} {w:World} {k:Key} {u:Value} (r:RelV (kV k) u):(yT P w).is k u=true:=by
 cases k with
 | inl i=>obtain ⟨t,e⟩:=(show ∃ t,u=Value.int i t from r);subst e;exact Vg P w i t
 | inr x=>obtain ⟨t,e⟩:=(show ∃ t,u=Value.str x t from r);subst e;exact Vh P w x t
theorem ZG {P:Program} {w:World}:∀ {ks:List Key} {us:List Value},Vals (ks.map kV) us→ItemsAre (yT P w) ks us
 | [],_,r=>by rw [List.map_nil] at r;cases r;exact .nil
 | k :: ks,_,r=>by
  rw [List.map_cons] at r
  cases r with
  | cons h t=>exact .cons (X1 h) (ZG t)
abbrev KT (H:Hp):List (List Key × V)→List (List Key × Addr × Value)→Prop:=Paired fun p q=>p.1=q.1∧H q.2.1=some (.tup (p.1.map kV))∧RelV p.2 q.2.2
theorem KT.val {H:Hp} {kvs:List (List Key × V)} {xs:List (List Key × Addr × Value)} (r:KT H kvs xs) (k:List Key):RelO (yN kvs k) ((atKey xs k).map (·.2)):=by
 induction r with
 | nil=>exact True.intro
 | @cons p q ps qs h t ih =>
  obtain ⟨h1,_,h2⟩:=h
  by_cases e:p.1=k
  ·have e':q.1=k:=h1.symm.trans e
   have b:atKey (q :: qs) k=some q.2:=by simp [atKey,List.find?_cons,e']
   rw [xi e,b];exact h2
  ·have e':¬ q.1=k:=fun z=>e (h1.trans z)
   have b:atKey (q :: qs) k=atKey qs k:=by simp [atKey,List.find?_cons,e']
   rw [xj e,b];exact ih
theorem KT.repl {H:Hp} {kvs:List (List Key × V)} {xs:List (List Key × Addr × Value)} (r:KT H kvs xs) (k:List Key) {y:V} {u:Value} (ry:RelV y u) :
  KT H (kvs.map fun kv=>if kv.1=k then (kv.1,y) else kv) (xs.map (putAt k u)):=by
 induction r with
 | nil=>exact .nil
 | @cons p q ps qs h t ih =>
  rw [List.map_cons,List.map_cons]
  refine .cons ?_ ih
  obtain ⟨h1,h2,h3⟩:=h
  unfold putAt
  by_cases e:p.1=k
  ·rw [if_pos e,if_pos (h1.symm.trans e)];exact ⟨h1,h2,ry⟩
  ·rw [if_neg e,if_neg (fun z=>e (h1.trans z))];exact ⟨h1,h2,h3⟩
theorem KT.put {H:Hp} {kvs:List (List Key × V)} {xs:List (List Key × Addr × Value)} (r:KT H kvs xs) (k:List Key) {b:Addr} {y:V} {u:Value} (hb:H b=some (.tup (k.map kV))) (ry:RelV y u) :
  KT H (yD kvs k y) (storedH xs k b u):=by
 have e:(kvs.any fun kv=>decide (kv.1=k))=(atKey xs k).isSome:=by
  rw [wT,(r.val k).isSome_eq,Option.isSome_map]
 unfold yD storedH
 rw [e]
 by_cases q:(atKey xs k).isSome=true
 ·rw [if_pos q,if_pos q];exact r.repl k ry
 ·rw [if_neg q,if_neg q];exact Paired.snoc r ⟨rfl,hb,ry⟩
theorem KT.keeps {H H':Hp} {kvs:List (List Key × V)} {xs:List (List Key × Addr × Value)} (r:KT H kvs xs) (ht:∀ b ys,H b=some (.tup ys)→H' b=some (.tup ys)):KT H' kvs xs :=
 Paired.mapP r fun _ _ z=>⟨z.1,ht _ _ z.2.1,z.2.2⟩
section
variable {P:Program} {w:World} {H:Hp} {h:Heap} {a:Addr}
theorem zca {u:HO} (ok:HOk P w H h) (e:Rd H a u):ObjOk P w H h a u:=e.ok ok
theorem YE {kvs:List (Key × V)} (ok:HOk P w H h) (e:Rd H a (.dK kvs)):kvs.length≤sizeLine∧(a == sysModules)=false∧∃ vs,KV kvs vs∧h.DictOf (yT P w) a vs :=
 show ObjOk P w H h a (.dK kvs) from zca ok e
theorem zdm {kvs:List (Key × V)} (ok:HOk P w H h) (e:H a=some (.dK kvs)):kvs.length≤sizeLine∧(a == sysModules)=false∧∃ vs,KV kvs vs∧h.DictOf (yT P w) a vs:=YE ok (.inl e)
theorem qR {ks:List Key} (ok:HOk P w H h) (e:H a=some (.tup (ks.map kV))):(tupleKind (yT P w)).is h ks a:=by
 obtain ⟨_,its,r,o,h1,h2,n,h3⟩:=(show ObjOk P w H h a (.tup (ks.map kV)) from ok a _ e)
 exact ⟨o,its.toArray,n,h1,h2,h3,by simpa using ZG r⟩
theorem YF {kvs:List (List Key × V)} (ok:HOk P w H h) (e:Rd H a (.dT kvs)):kvs.length≤sizeLine∧(a == sysModules)=false ∧
  ∃ xs,KT H kvs xs∧h.DictOfH (tupleKind (yT P w)) a xs:=by
 obtain ⟨z,y,xs,r,o,es,ep,h1,h2,h3,h4,h5⟩:=(show ObjOk P w H h a (.dT kvs) from zca ok e)
 refine ⟨z,y,xs,r,o,es,ep,h1,h2,h3,h4,fun x hx=>?_,h5⟩
 have all:∀ {l:List (List Key × V)} {m:List (List Key × Addr × Value)},KT H l m→∀ x∈m,(tupleKind (yT P w)).is h x.1 x.2.1:=by
  intro l m q
  induction q with
  | nil=>intro x hx;exact nomatch hx
  | @cons p q ps qs hq t ih =>
   intro x hx
   rcases List.mem_cons.mp hx with e | hx
   ·subst e
    exact qR ok (by rw [← hq.1];exact hq.2.1)
   ·exact ih x hx
 exact all r x hx
theorem zcb {kvs:List (List Key × V)} (ok:HOk P w H h) (e:H a=some (.dT kvs)):kvs.length≤sizeLine∧(a == sysModules)=false ∧
  ∃ xs,KT H kvs xs∧h.DictOfH (tupleKind (yT P w)) a xs:=YF ok (.inl e)
end
def DGet (H:Hp) (a:Addr) (y:V) (r:Option V):Prop :=
 (∃ kvs k,Rd H a (.dK kvs)∧y=kV k∧r=yN kvs k)∨∃ kvs k b,Rd H a (.dT kvs)∧y=.ref b∧H b=some (.tup (k.map kV))∧r=yN kvs k
def DPut (H:Hp) (a:Addr) (y v:V) (H':Hp):Prop :=
 (∃ kvs k,H a=some (.dK kvs)∧y=kV k∧kvs.length < sizeLine∧H'=upd H a (.dK (yD kvs k v))) ∨
 ∃ kvs k b,H a=some (.dT kvs)∧y=.ref b∧H b=some (.tup (k.map kV))∧kvs.length < sizeLine∧H'=upd H a (.dT (yD kvs k v))
theorem DGet.k {H:Hp} {a:Addr} {kvs:List (Key × V)} {k:Key} (e:H a=some (.dK kvs)):DGet H a (kV k) (yN kvs k):=.inl ⟨kvs,k,.inl e,rfl,rfl⟩
theorem DGet.t {H:Hp} {a b:Addr} {kvs:List (List Key × V)} {k:List Key} (e:H a=some (.dT kvs)) (eb:H b=some (.tup (k.map kV))):DGet H a (.ref b) (yN kvs k):=.inr ⟨kvs,k,b,.inl e,rfl,eb,rfl⟩
theorem DPut.k {H:Hp} {a:Addr} {kvs:List (Key × V)} {k:Key} {v:V} (e:H a=some (.dK kvs)) (hl:kvs.length < sizeLine):DPut H a (kV k) v (upd H a (.dK (yD kvs k v))):=.inl ⟨kvs,k,e,rfl,hl,rfl⟩
theorem DPut.t {H:Hp} {a b:Addr} {kvs:List (List Key × V)} {k:List Key} {v:V} (e:H a=some (.dT kvs)) (eb:H b=some (.tup (k.map kV))) (hl:kvs.length < sizeLine) :
  DPut H a (.ref b) v (upd H a (.dT (yD kvs k v))):=.inr ⟨kvs,k,b,e,rfl,eb,hl,rfl⟩
section
variable {X:Cx} {pins:List (Addr × Obj)} {σ:St} {H:Hp} {s:Shared} {a:Addr} {y v:V} {u r:Value} {o:Option V} {A:Around} {E:Value→Shared→Prop}
theorem Inv.big (I:Inv X pins σ H s):sysModules < s.heap.objs.size:=by
 have h:mainGlobals < s.heap.objs.size:=(I.mod.glob.keeps I.bk).lt
 exact Nat.lt_trans (by decide) h
theorem Qh {Q:Value→Shared→Prop} (hu:A.units + 1 < cLine) (I:Inv X pins σ H s) (g:DGet H a y (some v)) (ry:RelV y u) (h:∀ w' s',Inv X pins σ H s'→RelV v w'→Q w' s') :
  wpAny (model X.prog X.w) A (getItem (.ref a) u) Q E s:=by
 rcases g with ⟨kvs,k,e,ey,l⟩ | ⟨kvs,k,b,e,ey,eb,l⟩
 ·subst ey
  obtain ⟨z,hd,vs,rel,dd⟩:=YE I.hok e
  obtain ⟨w',hw,rw'⟩:=RelO.some_of (v:=v) (o:=valueAt vs k) (by rw [l];exact rel.val k)
  exact wpAny_getItem_of (X1 ry) dd.mapOf hw (h w' _ (I.tok _) rw')
 ·subst ey
  cases (show u=Value.ref b from ry)
  obtain ⟨z,hd,xs,rel,dd⟩:=YF I.hok e
  obtain ⟨w',hw,rw'⟩:=RelO.some_of (v:=v) (o:=(atKey xs k).map (·.2)) (by rw [l];exact rel.val k)
  obtain ⟨p,hp,hp2⟩:=Option.map_eq_some_iff.mp hw
  refine wpAny_getItem_heap (tupleKind_room_in1 hu) (qR I.hok eb) dd hp ?_
  rw [hp2]
  exact h w' _ (I.tok _) rw'
theorem zdP {Q:Value→Shared→Prop} (hu:A.units + 1 < cLine) (I:Inv X pins σ H s) (g:DGet H a y o) (ry:RelV y u) (h:∀ s',Inv X pins σ H s'→Q (.bool o.isSome) s') :
  wpAny (model X.prog X.w) A (compareOp .In u (.ref a)) Q E s:=by
 rcases g with ⟨kvs,k,e,ey,l⟩ | ⟨kvs,k,b,e,ey,eb,l⟩
 ·subst ey
  obtain ⟨z,hd,vs,rel,dd⟩:=YE I.hok e
  refine wpAny_in_of (X1 ry) hd dd.mapOf ?_
  rw [← (rel.val k).isSome_eq,← l]
  exact h _ (I.tok _)
 ·subst ey
  cases (show u=Value.ref b from ry)
  obtain ⟨z,hd,xs,rel,dd⟩:=YF I.hok e
  refine wpAny_in_heap (tupleKind_room_in1 hu) (qR I.hok eb) hd dd ?_
  have q:=(rel.val k).isSome_eq
  rw [Option.isSome_map] at q
  rw [← q,← l]
  exact h _ (I.tok _)
theorem zbc {Q:Value→Shared→Prop} (hu:A.units + 1 < cLine) (I:Inv X pins σ H s) (g:DGet H a y o) (ry:RelV y u) (h:∀ s',Inv X pins σ H s'→Q (.bool (!o.isSome)) s') :
  wpAny (model X.prog X.w) A (compareOp .NotIn u (.ref a)) Q E s:=by
 rcases g with ⟨kvs,k,e,ey,l⟩ | ⟨kvs,k,b,e,ey,eb,l⟩
 ·subst ey
  obtain ⟨z,hd,vs,rel,dd⟩:=YE I.hok e
  refine wpAny_notIn_of (X1 ry) hd dd.mapOf ?_
  rw [← (rel.val k).isSome_eq,← l]
  exact h _ (I.tok _)
 ·subst ey
  cases (show u=Value.ref b from ry)
  obtain ⟨z,hd,xs,rel,dd⟩:=YF I.hok e
  refine wpAny_notIn_heap (tupleKind_room_in1 hu) (qR I.hok eb) hd dd ?_
  have q:=(rel.val k).isSome_eq
  rw [Option.isSome_map] at q
  rw [← q,← l]
  exact h _ (I.tok _)
theorem Wx {h':Heap} {t':Nat} {ob:HO} (I:Inv X pins σ H s) (mu:Mut (H a)) (hs:Heap.SameBut a s.heap h') (he:∃ q,h'.get? a=some q) (new:ObjOk X.prog X.w (upd H a ob) h' a ob) :
  Inv X pins σ (upd H a ob) { s with heap:=h',toks:=t' } :=
 I.write (x:=a) (e:=a) mu (.inl rfl) (fun b q hb z=>(hs.2 b hb).trans z) he new
theorem zcA {P:Program} {w:World} {H':Hp} {h':Heap} {kvs:List (Key × V)} {vs:List (Key × Value)} (z:kvs.length≤sizeLine) (hd:(a == sysModules)=false) (rel:KV kvs vs) (dd:h'.DictOf (yT P w) a vs) :
  ObjOk P w H' h' a (.dK kvs):=⟨z,hd,vs,rel,dd⟩
theorem Qi {H':Hp} {Q:Unit→Shared→Prop} (hu:A.units + 1 < cLine) (I:Inv X pins σ H s) (g:DPut H a y v H') (ry:RelV y u) (rv:RelV v r) (h:∀ s',Inv X pins σ H' s'→Q () s') :
  wpAny (model X.prog X.w) A (setItem (.ref a) u r) Q E s:=by
 rcases g with ⟨kvs,k,e,ey,l,eH⟩ | ⟨kvs,k,b,e,ey,eb,l,eH⟩
 ·subst ey eH
  obtain ⟨z,hd,vs,rel,dd⟩:=zdm I.hok e
  have hz:vs.length≤sizeLine:=by rw [← rel.length];exact z
  have hl:(yD kvs k v).length≤sizeLine:=by have:=xB kvs k v;lia
  refine wpAny_setItem_pairs (hsz:=hz) (X1 ry) dd fun h' dd' hs=>h _ ?_
  have he:∃ q,h'.get? a=some q:=let ⟨q,_,_,hq,_⟩:=dd';⟨q,hq⟩
  exact Wx I (by rw [e];exact True.intro) hs he (zcA hl hd (rel.put k rv) dd')
 ·subst ey eH
  cases (show u=Value.ref b from ry)
  obtain ⟨z,hd,xs,rel,dd⟩:=zcb I.hok e
  have hz:xs.length≤sizeLine:=by rw [← Paired.length rel];exact z
  have hl:(yD kvs k v).length≤sizeLine:=by have:=xB kvs k v;lia
  refine wpAny_setItem_heap (hsz:=hz) (tupleKind_room_in1 hu) (qR I.hok eb) dd fun h' dd' hs=>h _ ?_
  obtain ⟨q,es,ep,hq,h2,h3,h4,_,h5⟩:=dd'
  refine Wx I (by rw [e];exact True.intro) hs ⟨q,hq⟩ ⟨hl,hd,_,(rel.put k eb rv).keeps fun c ys ec=>?_,q,es,ep,hq,h2,h3,h4,h5⟩
  rw [zk (yq ec e (fun z=>nomatch z))]
  exact ec
end
section
variable {X:Cx} {pins:List (Addr × Obj)} {σ:St} {H:Hp} {s:Shared} {a:Addr} {kvs:List (Key × V)} {k:Key} {u:Value} {A:Around} {E:Value→Shared→Prop}
end
def zdn (i:Expr):Prop:=∀ ov iv,subscripted i false ov iv=operate [ov,iv] (getItem ov iv)
theorem zbd {prog:Program} {w:World} {A:Around} {E:Value→Shared→Prop} {s:Shared} {env:Env} {value slice:Expr} {pos:Pos} {T id:String} {Q:Value→Shared→Prop}
  (hl:typeLookup (.type T) "__getitem__"=pure (some (.builtin id))) (hs:zdn slice)
  (h:wpAny (model prog w) A (eval value env) (fun o s₁=>wpAny (model prog w) A (eval slice env) (fun i s₂=>s₂.TypeIs o T∧wpAny (model prog w) A (getItem o i) Q E s₂) E s₁) E s) :
  wpAny (model prog w) A (eval (.Subscript value slice pos) env) Q E s:=by
 refine Subscript_ (wpAny_mono h (fun o s₁ h₁=>wpAny_mono h₁ (fun i s₂ h₂=>?_) fun _ _ x=>x) fun _ _ x=>x)
 obtain ⟨hT,h₂⟩:=h₂
 unfold subscriptTail
 refine wpAny_bind ?_
 rw [getitemInPython_of_ne hT.not_modules]
 refine wpAny_bind (wpAny_specialOf hT hl ?_)
 have fin:wpAny (model prog w) A (subscripted slice false o i) (fun r s₃=>wpAny (model prog w) A (letTemporaryGo value o r >>= fun _=>pure r) Q E s₃) E s₂:=by
  rw [hs o i]
  exact wpAny_operating (wpAny_mono h₂ (fun r s₃ h₃=>wpAny_bind (wpAny_letTemporaryGo (wpAny_pure h₃))) fun _ _ x=>x)
 first
  | exact wpAny_pure (wpAny_bind fin)
  | exact wpAny_bind (wpAny_pure (wpAny_bind fin))
  | exact wpAny_bind fin
theorem Vo {X:Cx} {pins:List (Addr × Obj)} {σ:St} {H:Hp} {s:Shared} {a:Addr} {y:V} {o:Option V} (I:Inv X pins σ H s) (g:DGet H a y o):s.TypeIs (.ref a) "dict":=by
 rcases g with ⟨kvs,k,e,_,_⟩ | ⟨kvs,k,b,e,_,_,_⟩
 ·obtain ⟨_,_,vs,_,dd⟩:=YE I.hok e
  exact dd.typeIs
 ·obtain ⟨_,_,xs,_,dd⟩:=YF I.hok e
  exact dd.typeIs
def vT (td ty:TE):TE:=fun σ H Q=>td σ H fun x H1=>ty σ H1 fun y H2=>∃ a v,x=.ref a∧DGet H2 a y (some v)∧Q v H2
def yg (td ty tv:TE):TS:=fun D σ H=>tv σ H fun v H1=>td σ H1 fun x H2=>ty σ H2 fun y H3=>∃ a H4,x=.ref a∧DPut H3 a y v H4∧D.nx σ H4
section
variable {X:Cx} {o i e value:Expr} {pos pos' tpos:Pos} {td ty tv:TE}
theorem Zk (hu:X.A.units + 1 < cLine) (ho:PE X o td) (hi:PE X i ty) (hs:zdn i):PE X (.Subscript o i pos) (vT td ty):=by
 intro pins s σ H Q I h
 refine zbd PySem.F.slot_dict_getitem.lookup hs (thn (ho pins s σ H _ I h) fun u s1 ⟨x,H1,I1,rx,q1⟩=>thn (hi pins s1 σ H1 _ I1 q1) fun iv s2 ⟨y,H2,I2,ry,a,v,ex,g,q2⟩=>?_)
 subst ex
 obtain rfl:u=Value.ref a:=rx
 exact ⟨Vo I2 g,Qh hu I2 g ry fun w' s3 I3 rw'=>⟨v,H2,I3,rw',q2⟩⟩
theorem xR (hu:X.A.units + 1 < cLine) (ho:PE X o td) (hi:PE X i ty) (hv:PE X value tv) (hs:swapsWith value (some (.Subscript o i pos')) pos.line X.env=pure false) :
  PS X (.Assign [.Subscript o i pos'] value pos) (yg td ty tv):=by
 intro pins s σ H D I h
 refine wpAny_Assign_Subscript (thn (hv pins s σ H _ I h) fun r s1 ⟨v,H1,I1,rv,q1⟩=>thn (ho pins s1 σ H1 _ I1 q1) fun u s2 ⟨x,H2,I2,rx,q2⟩=>thn (hi pins s2 σ H2 _ I2 q2) fun iv s3 ⟨y,H3,I3,ry,a,H4,ex,g,q3⟩=>?_) hs
 subst ex
 obtain rfl:u=Value.ref a:=rx
 exact Qi hu I3 g ry rv fun s4 I4=>⟨σ,H4,I4,q3⟩
end
theorem QS {P:Program} {w:World} {H:Hp} (h:Heap) (hb:sysModules < h.objs.size):ObjOk P w H (h.push { cls:=.type "dict",data:=.dict #[] }) h.objs.size (.dK []) :=
 ⟨Nat.zero_le _,beq_eq_false_iff_ne.mpr (Ne.symm (Nat.ne_of_lt hb)),[],.nil,Heap.DictOf.new h⟩
theorem Vp {P:Program} {w:World} {H:Hp} (h:Heap) (hb:sysModules < h.objs.size):ObjOk P w H (h.push { cls:=.type "dict",data:=.dict #[] }) h.objs.size (.dT []) :=
 ⟨Nat.zero_le _,beq_eq_false_iff_ne.mpr (Ne.symm (Nat.ne_of_lt hb)),[],.nil,_,#[],0,Heap.get?_push_size _ rfl,⟨rfl,rfl,rfl⟩,rfl,rfl,List.nodup_nil⟩
def YG:TE:=fun _ H Q=>∀ p,H p=none→Q (.ref p) (upd H p (.dK []))
def kO:TE:=fun _ H Q=>∀ p,H p=none→Q (.ref p) (upd H p (.dT []))
section
variable {X:Cx} {pos:Pos}
theorem Vq:PE X (.Dict [] [] pos) YG:=fun pins s σ H Q I h =>
 wpAny_Dict_empty ⟨.ref s.heap.objs.size,_,I.laid (a:=s.heap.objs.size) (o:=.dK []) (t':=s.toks) (fun _ _ q=>Heap.get?_push_of_some _ q) (Nat.le_refl _) (QS s.heap I.big),rfl,h _ (I.hok.fresh (Nat.le_refl _))⟩
theorem YH:PE X (.Dict [] [] pos) kO:=fun pins s σ H Q I h =>
 wpAny_Dict_empty ⟨.ref s.heap.objs.size,_,I.laid (a:=s.heap.objs.size) (o:=.dT []) (t':=s.toks) (fun _ _ q=>Heap.get?_push_of_some _ q) (Nat.le_refl _) (Vp s.heap I.big),rfl,h _ (I.hok.fresh (Nat.le_refl _))⟩
end
def QT:List (TE × TE)→St→Hp→(List (V × V)→Hp→Prop)→Prop
 | [],_,H,Q=>Q [] H
 | (tk,tv) :: r,σ,H,Q=>tk σ H fun x H1=>tv σ H1 fun y H2=>QT r σ H2 fun ps H3=>Q ((x,y) :: ps) H3
def zcB (kvs more:List (Key × V)):List (Key × V):=more.foldl (fun acc kv=>yD acc kv.1 kv.2) kvs
def zed (trs:List (TE × TE)):TE:=fun σ H Q=>∀ p,H p=none→QT trs σ (upd H p (.dK [])) fun ps H2=>H2 p=some (.dK [])∧∃ kvs:List (Key × V),ps=kvs.map (fun kv=>(kV kv.1,kv.2))∧kvs.length≤15∧Q (.ref p) (upd H2 p (.dK (zcB [] kvs)))
structure M2 (X:Cx) (o:Expr) (m:Str) (apos:Pos) (e f:Expr) (cpos:Pos):Prop where
 base:attributeBase o m X.env (eval o X.env)=eval o X.env
 few:((backTo cpos (starEach [e,f] X.env)).all (fun x=>!x.1) && (backToKw cpos (keywordEach [] X.env)).all (fun x=>x.1.isSome)
  && decide (([e,f]:List Expr).length + ([]:List Keyword).length + (if ([]:List Keyword).isEmpty then 0 else 1) < 30))=true
 line:(apos.endLine == cpos.line)=true
 trees:backTo cpos (starEach [e,f] X.env)=[(false,eval e X.env),(false,eval f X.env)]
def IsD (H:Hp) (a:Addr):Prop:=(∃ kvs,Rd H a (.dK kvs))∨∃ kvs,Rd H a (.dT kvs)
theorem JG {X:Cx} {pins:List (Addr × Obj)} {σ:St} {H:Hp} {s:Shared} {a:Addr} (I:Inv X pins σ H s) (d:IsD H a) :
  s.TypeIs (.ref a) "dict"∧(∀ b,Value.ref a=.ref b→∃ ob,s.heap.get? b=some ob∧ob.dict=none)∧(a == sysModules)=false:=by
 rcases d with ⟨kvs,e⟩ | ⟨kvs,e⟩
 ·obtain ⟨_,hd,vs,_,dd⟩:=YE I.hok e
  refine ⟨dd.typeIs,fun b q=>?_,hd⟩
  cases q
  obtain ⟨ob,_,_,h1,h2,_⟩:=dd
  exact ⟨ob,h1,h2.2.1⟩
 ·obtain ⟨_,hd,xs,_,dd⟩:=YF I.hok e
  refine ⟨dd.typeIs,fun b q=>?_,hd⟩
  cases q
  obtain ⟨ob,_,_,h1,h2,_⟩:=dd
  exact ⟨ob,h1,h2.2.1⟩
section
variable {X:Cx} {pins:List (Addr × Obj)} {σ:St} {H:Hp} {s:Shared} {a:Addr} {y d:V} {u r:Value} {o:Option V} {A:Around} {E:Value→Shared→Prop}
theorem zcC {Q:Value→Shared→Prop} (hu:A.units + 1 < cLine) (I:Inv X pins σ H s) (g:DGet H a y o) (ry:RelV y u) (rd:RelV d r) (h:∀ w' s',Inv X pins σ H s'→RelV (o.getD d) w'→Q w' s') :
  wpAny (model X.prog X.w) A (call (.builtin "dict.get") [.ref a,u,r]) Q E s:=by
 rcases g with ⟨kvs,k,e,ey,l⟩ | ⟨kvs,k,b,e,ey,eb,l⟩
 ·subst ey
  obtain ⟨z,hd,vs,rel,dd⟩:=YE I.hok e
  refine call_meetsIn PySem.F.slot_dict_get dd.typeIs PySem.F.entry_dict_get (PySem.F.args_dict_get_3 _ _ _) (meets_dict_get_default (yT X.prog X.w) a (X1 ry) hd r) ⟨_,dd.mapOf,h _ _ (I.tok _) ?_⟩
  rw [l]
  exact (rel.val k).getD rd
 ·subst ey
  cases (show u=Value.ref b from ry)
  obtain ⟨z,hd,xs,rel,dd⟩:=YF I.hok e
  refine call_meetsIn PySem.F.slot_dict_get dd.typeIs PySem.F.entry_dict_get (PySem.F.args_dict_get_3 _ _ _) (meetsH_dict_get_default (tupleKind (yT X.prog X.w)) a b hd r) ⟨tupleKind_room_in1 hu,k,xs,qR I.hok eb,dd,h _ _ (I.tok _) ?_⟩
  rw [l]
  exact (rel.val k).getD rd
end
def z8 (td ty tx:TE):TE:=fun σ H Q=>td σ H fun x H1=>∃ a,x=.ref a∧IsD H1 a∧ty σ H1 fun y H2=>tx σ H2 fun z H3=>∃ o,DGet H3 a y o∧Q (o.getD z) H3
def zdQ (td ty tx:TE):TE:=fun σ H Q=>td σ H fun x H1=>∃ a,x=.ref a∧IsD H1 a∧ty σ H1 fun y H2=>tx σ H2 fun z H3=>∃ kvs k,H3 a=some (.dK kvs)∧y=kV k ∧
 (∀ v,yN kvs k=some v→Q v (upd H3 a (.dK (XZ kvs k))))∧(yN kvs k=none→Q z H3)
section
variable {X:Cx} {o e f:Expr} {apos cpos:Pos} {td ty tx:TE}
theorem YI (hu:X.A.units + 1 < cLine) (ho:PE X o td) (he:PE X e ty) (hf:PE X f tx) (m:M2 X o "get" apos e f cpos):PE X (.Call (.Attribute o "get" apos) [e,f] [] cpos) (z8 td ty tx):=by
 intro pins s σ H Q I h
 refine wpAny_Call_method m.base m.few m.line PySem.F.plainAttrs_dict PySem.F.slot_dict_get PySem.F.type_dict_get (thn (ho pins s σ H _ I h) fun u s1 ⟨x,H1,I1,rx,a,ex,d,q1⟩=>?_)
 subst ex
 obtain rfl:u=Value.ref a:=rx
 obtain ⟨t1,t2,_⟩:=JG I1 d
 refine ⟨t1,t2,?_⟩
 rw [m.trees]
 refine Calls.callWith_builtin rfl (Calls.evalArgs_plain (Calls.spliced_cons (thn (he pins s1 σ H1 _ I1 q1) fun iv s2 ⟨y,H2,I2,ry,q2⟩ =>
  Calls.spliced_cons (thn (hf pins s2 σ H2 _ I2 q2) fun fv s3 ⟨z,H3,I3,rz,ov,g,q3⟩=>Calls.spliced_nil ?_))))
 exact zcC hu I3 g ry rz fun w' s4 I4 rw'=>⟨_,H3,I4,rw',q3⟩
end
section
variable {X:Cx} {pins:List (Addr × Obj)} {σ:St} {H:Hp} {s:Shared} {a:Addr} {kvs:List (Key × V)} {A:Around} {E:Value→Shared→Prop}
end
section
variable {X:Cx} {pins:List (Addr × Obj)} {σ:St} {H:Hp} {s:Shared} {a:Addr} {y:V} {u:Value} {A:Around} {E:Value→Shared→Prop}
end
end L2
namespace Att
open PySem PySem.W PySem.Calls PyProof.Rows
theorem Z8 {P:Params} {h:Heap}:∀ (ns:List Int) (vs:List Value),WellAll P h vs (ns.map WData.int)→IntsAre vs ns:=by
 intro ns
 induction ns with
 | nil =>
  intro vs w
  rw [List.map_nil] at w
  cases w
  exact .nil
 | cons n ns ih =>
  intro vs w
  rw [List.map_cons] at w
  cases w with
  | cons a b =>
   cases a
   exact .cons _ _ (ih _ b)
theorem X2 {l:OpenLaw} {n:Nat} (hn:l.most=some n) {P:Params} {h:Heap} {args:List WData} {vals:List Value}
  (hpre:l.row.toRowW.claim.pre args=true) (hwl:WellAll P h vals args) :
  ∃ a vs ns,vals=[Value.ref a]∧args=[WData.list (ns.map WData.int)]∧h.get? a=some { cls:=.type "list",data:=.seq vs.toArray }∧IntsAre vs ns∧ns.length≤n:=by
 have hsh:WShape.hasAll [] args [.list .int]=true:=(pre_splitW hpre).1
 have hc:l.pre.holds [] { args:=args }=true:=(pre_splitW hpre).2
 obtain ⟨d,r,rfl,h1,h2⟩:=hasAllW_cons hsh
 obtain rfl:=hasAllW_nil h2
 obtain ⟨xs,rfl,h3⟩:=hasW_list h1
 obtain ⟨ns,rfl⟩:=items_int h3
 have hlen:ns.length≤n:=by
  unfold OpenLaw.pre at hc
  have h4:(WTm.not (.lt (.lit (.int (n:Int))) (.len (.arg 0)))).holds [] { args:=[.list (ns.map .int)] }=true:=by
   have h4:=(holds_andW hc).1
   rw [hn] at h4
   exact h4
  have h5:=condW_of h4 (w_not (w_lt w_lit (w_len_list (w_arg rfl))))
  rw [List.length_map] at h5
  refine Nat.le_of_not_lt fun q=>?_
  have q':(n:Int) < ((ns.length:Nat):Int):=by lia
  first
   | (rw [decide_eq_true q'] at h5;exact absurd h5 (by decide))
   | (simp at h5;lia)
 cases hwl with
 | cons w1 w2 =>
  cases w2
  cases w1 with
  | list ho hall=>exact ⟨_,_,ns,rfl,rfl,ho,Z8 ns _ hall,hlen⟩
theorem X3 (l:OpenLaw) (args:List WData):l.row.toRowW.claim.post args (.bool true) args=true :=
 postW_of (r:=l.row.toRowW) (X:=(true == true))
  (show WShape.has [] (.bool true) .bool=true by first | rfl | decide | simp [WShape.has,WShape.arms,WShape.armsAll])
  (show (WTm.eq .res (.lit (.bool true))).value [] { args:=args,res:=some (.bool true),after:=args }=some (.bool (true == true)) from w_eq_bool (w_res rfl) w_lit) rfl
theorem attach_call {l:OpenLaw} {n:Nat} {q:Program} {loose:List Str} {XP:(Str→Option Value)→Heap→Prop} {YP:World→Heap→Prop} {d:DefRec}
  (hn:l.most=some n) (hdf:d.params.defaults=[])
  (call:∀ (w:World) (s₀ s₁:Shared) (mg mb:Str→Option Value) (fa:Addr) (o:Obj) (pm cd doc:Value) (a:Addr) (vs:List Value) (ns:List Int),
   Ground q loose [] XP w s₀ mg mb s₁.heap→YP w s₁.heap →
   s₁.heap.get? fa=some o→o.data=.func (docDef d.name d.params d.body d.scope pm cd doc)→s₁.heap.CodeRec cd d.name→mg d.name=some (.ref fa) →
   s₁.heap.get? a=some { cls:=.type "list",data:=.seq vs.toArray }→IntsAre vs ns→ns.length≤n→s₁.gens=#[] →
   codeAny (model l.prog w) callerA (.call (.ref fa) ⟨[.ref a],[]⟩) (fun r s'=>r=.ok (.ret (.bool true))∧OldK s₁.heap s'.heap∧s'.os=s₁.os∧AllBare s'.gens) s₁) :
  WalkO q loose XP YP l.row.toRowW d [] (fun f vs=>PySem.call f vs):=by
 intro w s₀ s₁ mg mb G Y fa o pm cd doc dV kV ho hd hcd hD hmg hg args vals as hpre hlay hrd hwl hlo
 obtain rfl:dV=.none:=Dflts.none hD hdf
 obtain rfl:kV=.none:=Dflts.noKw hD
 obtain ⟨a,vs,ns,rfl,rfl,hobj,hints,hlen⟩:=X2 hn hpre hwl
 refine enter_call (codeAny_mono (call w s₀ s₁ mg mb fa o pm cd doc a vs ns G Y ho (fd_plain hd) hcd hmg hobj hints hlen hg) fun r s' hq=>?_)
 obtain ⟨rfl,h2,h3,h4⟩:=hq
 exact ⟨.inl ⟨.bool true,.bool true,[],rfl,fun _=>rfl,.bool true,X3 l _,fun _=>⟨List.Pairwise.nil,fun _ hm=>(nomatch hm)⟩⟩,h2,h3,h4⟩
section
variable {prog:Program} {w:World} {A:Around} {E:Value→Shared→Prop} {s:Shared} {K:Frag}
def zdR (h:Heap) (L d:Addr):List (Addr × Obj):=(List.range h.objs.size).filterMap fun a=>if a=L∨a=d then none else (h.get? a).map fun o=>(a,o)
end
end Att
namespace L2
open PySem PySem.Spec PyProof.Rows
theorem X4:∀ {vs:List Value} {ns:List Int},IntsAre vs ns→Vals (ns.map V.int) vs
 | _,_,.nil=>.nil
 | _,_,.cons n t h=>.cons ⟨t,rfl⟩ (X4 h)
def JH (H:Hp):Prop:=∀ b,H b=none∨∃ o xs,H b=some (.frz o (.lst xs))
theorem Vr {P:Program} {w:World} {K:W.Frag} {mg mb:Str→Option Value} {CX:CXT} {k:Nat} {fa a:Addr} {fd:FuncData} {x:Str} {sp:Sp} {s₁:Shared} {vs:List Value} {ns:List Int}
  (KX:K.In s₁.heap) (hns:s₁.heap.Ns mainGlobals mg) (hb:s₁.heap.Ns builtinsNs mb) (hbb:∀ x:Str,x≠"__name__"→mb x=bootBuiltins x) (hlim:s₁.heap.NoLimit) (hg:s₁.gens=#[])
  (ha:s₁.heap.get? a=some { cls:=.type "list",data:=.seq vs.toArray }) (hi:IntsAre vs ns) (hl:ns.length≤sizeLine) (hr:Room k callerA)
  (F:∀ base:Heap,K.In base→base.Ns mainGlobals mg→FnOk P w K mg base CX k fa fd [x] sp) (hbind:∀ (s:Shared) (u:Value),BindsTo s fd ⟨[u],[]⟩ [(x,u)])
  (hsp:∀ H:Hp,JH H→SqL K H a (ns.map V.int)→sp [.ref a] H (fun v _=>v=.bl true) fun _ _ _=>False)
  (hCX:∀ H e s',CX [] H s₁ (fun _ _ _=>False) e s'→False) :
  codeAny (model P w) callerA (.call (.ref fa) ⟨[.ref a],[]⟩) (fun r s'=>r=.ok (.ret (.bool true))∧OldK s₁.heap s'.heap∧s'.os=s₁.os∧AllBare s'.gens) s₁:=by
 have rv:=X4 hi
 have lenV:=hi.length
 -- from an abstract heap in which nothing but the script may be tracked
 have core:∀ H:Hp,JH H→SqL K H a (ns.map V.int)→HOk P w H s₁.heap→(∀ b,H b≠none→b=a)→(H a≠none→K.lookup a=none) →
   codeAny (model P w) callerA (.call (.ref fa) ⟨[.ref a],[]⟩) (fun r s'=>r=.ok (.ret (.bool true))∧OldK s₁.heap s'.heap∧s'.os=s₁.os∧AllBare s'.gens) s₁:=by
  intro H hO hS hok hA hK
  have base_of:∀ {b:Addr} {o:Obj},s₁.heap.get? b=some o→H b=none→(Wo s₁.heap H).get? b=some o:=fun e n=>QF e n
  have noA:∀ {b:Addr} {o:Obj} {es:Array DictEntry} {ep:Nat},s₁.heap.get? b=some o→o.data=.dict es ep→H b=none:=fun {b o es ep} e d=>by
   cases q:H b with
   | none=>rfl
   | some u =>
    have e':b=a:=hA b (by rw [q];simp)
    subst e'
    rw [ha] at e;cases e
    have d':Data.seq vs.toArray _=Data.dict es ep:=d
    cases d'
  have nsK:∀ {b:Addr} {m:Str→Option Value},s₁.heap.Ns b m→(Wo s₁.heap H).Ns b m:=fun {b m} ⟨o,es,ep,e,d,r⟩=>⟨o,es,ep,base_of e (noA e d),d,r⟩
  have hKb:K.In (Wo s₁.heap H):=fun b o e=>base_of (KX b o e) (by
   cases q:H b with
   | none=>rfl
   | some u =>
    have e':b=a:=hA b (by rw [q];simp)
    subst e'
    rw [hK (by rw [q];simp)] at e;cases e)
  have hM:Mod K mg (Wo s₁.heap H):=⟨hKb,nsK hns,⟨mb,nsK hb,hbb⟩,let ⟨mc,h1,h2⟩:=hlim;⟨mc,nsK h1,h2⟩⟩
  have e0:Env0 P w K mg (Wo s₁.heap H) callerA [] s₁ H:=⟨rfl,hM,fun b o e=>za1 e,Nat.le_of_eq (K8 _ _),trivial,fun b hb=>absurd (show b∈([]:List Addr) from hb) (by simp),hok,.of_eq hg⟩
  refine codeAny_mono ((F _ hKb (nsK hns)).run callerA [] s₁ H ⟨[.ref a],[]⟩ [.ref a] [.ref a] _ _ hr e0 (hbind s₁ (.ref a)) (.cons rfl .nil) (hsp H hO hS)) fun r s' h=>?_
  cases r with
  | error e=>exact (hCX H e s' h).elim
  | ok fl =>
   cases fl with
   | next=>exact False.elim h
   | brk=>exact False.elim h
   | cont=>exact False.elim h
   | ret u =>
    obtain ⟨v,H',os,bare,un,hok',r',q⟩:=h
    have q':v=.bl true:=q
    subst q'
    obtain rfl:u=Value.bool true:=r'
    refine ⟨rfl,OldK.of_keep fun b o e=>?_,os,bare⟩
    cases q:H b with
    | none=>exact un.keep b o e q (by intro z;exact absurd (show b∈([]:List Addr) from z) (by simp)) (by simp)
    | some u =>
     rcases hO b with z | ⟨ob,xs,z⟩
     ·rw [q] at z;cases z
     ·have z2:=un.frzs b ob _ z
      obtain ⟨e1,_⟩:=hok b _ z
      obtain ⟨e2,_⟩:=hok' b _ z2
      rw [e] at e1;cases e1
      exact e2
 cases hk:K.lookup a with
 | some o =>
  -- the script is one of the module's own objects
  have e:=KX a o hk
  rw [ha] at e
  cases e
  refine core (fun _=>none) (fun _=>.inl rfl) (.inr ⟨_,vs.toArray,_,hk,rfl,rfl,rfl,by rw [List.size_toArray,lenV];exact hl,by simpa using rv⟩) (fun b u z=>by have z':(none:Option HO)=some u:=z;cases z') (fun b z=>absurd rfl z) fun z=>absurd rfl z
 | none =>
  refine core (fun b=>if b=a then some (.frz { cls:=.type "list",data:=.seq vs.toArray } (.lst (ns.map V.int))) else none) (fun b=>?_) (.inl (.inr ⟨{ cls:=.type "list",data:=.seq vs.toArray },if_pos rfl⟩)) (fun b u z=>?_) (fun b z=>?_) fun _=>hk
  ·by_cases hb:b=a
   ·exact .inr ⟨_,_,if_pos hb⟩
   ·exact .inl (if_neg hb)
  ·by_cases hb:b=a
   ·have z':=(if_pos hb).symm.trans z
    cases z'
    subst hb
    exact ⟨ha,by rw [List.length_map];exact hl,vs,_,rv,ha⟩
   ·have z':=(if_neg hb).symm.trans z
    cases z'
  ·by_cases hb:b=a
   ·exact hb
   ·exact absurd (if_neg hb) z
end L2
namespace L2
open PySem PySem.Spec PyProof.Rows
abbrev KOf {K:W.Frag} {h:Heap} (_:K.In h):W.Frag:=K
theorem Km {l:W.OpenLaw} {n k:Nat} {q:Program} {loose:List Str} {XP:(Str→Option Value)→Heap→Prop} {YP:World→Heap→Prop} {d:DefRec} {K:Params→W.Frag} {CX:World→CXT} {sp:World→Sp} {x:Str}
  (hn:l.most=some n) (hn2:n≤sizeLine) (hdf:d.params.defaults=[]) (hr:Room k callerA)
  (hY:∀ (w:World) (h:Heap),YP w h→(K w.params).In h)
  (F:∀ (w:World) (mg:Str→Option Value) (fa:Addr) (h:Heap),(K w.params).In h→h.Ns mainGlobals mg→mg d.name=some (.ref fa) →
   ∃ fd:FuncData,(∀ (s:Shared) (u:Value),BindsTo s fd ⟨[u],[]⟩ [(x,u)]) ∧
    ∀ base:Heap,(K w.params).In base→base.Ns mainGlobals mg→FnOk l.prog w (K w.params) mg base (CX w) k fa fd [x] (sp w))
  (hsp:∀ (w:World) (H:Hp) (a:Addr) (ns:List Int),ns.length≤n→JH H→SqL (K w.params) H a (ns.map V.int)→sp w [.ref a] H (fun v _=>v=.bl true) fun _ _ _=>False)
  (hCX:∀ (w:World) (H:Hp) (s:Shared) (e:Value) (s':Shared),CX w [] H s (fun _ _ _=>False) e s'→False) :
  W.WalkO q loose XP YP l.row.toRowW d [] (fun f vs=>PySem.call f vs):=by
 refine Att.attach_call hn hdf fun w s₀ s₁ mg mb fa o pm cd doc a vs ns G Y ho hd hcd hmg hobj hints hlen hg=>?_
 have KX:=hY w _ Y
 obtain ⟨fd,hb,hF⟩:=F w mg fa _ KX G.T.g hmg
 exact Vr KX G.T.g G.T.b G.T.builtins G.T.nolimit hg hobj hints (Nat.le_trans hlen hn2) hr hF hb (fun H hO hS=>hsp w H a ns hlen hO hS) fun H e s'=>hCX w H s₁ e s'
theorem zdo {l:W.OpenLaw} {n k:Nat} {q:Program} {loose:List Str} {XP:(Str→Option Value)→Heap→Prop} {YP:World→Heap→Prop} {d:DefRec} {K:Params→W.Frag} {CX:CXT} {sp:W.Frag→Sp} {x:Str}
  (hn:l.most=some n) (hn2:n≤sizeLine) (hdf:d.params.defaults=[]) (hr:Room k callerA)
  (hY:∀ (w:World) (h:Heap),YP w h→(K w.params).In h)
  (F:∀ (w:World) (mg:Str→Option Value) (fa:Addr) (h:Heap),(K w.params).In h→h.Ns mainGlobals mg→mg d.name=some (.ref fa) →
   ∃ fd:FuncData,(∀ (s:Shared) (u:Value),BindsTo s fd ⟨[u],[]⟩ [(x,u)]) ∧
    ∀ base:Heap,(K w.params).In base→base.Ns mainGlobals mg→FnOk l.prog w (K w.params) mg base CX k fa fd [x] (sp (K w.params)))
  (hsp:∀ (K:W.Frag) (H:Hp) (a:Addr) (ns:List Int),ns.length≤n→JH H→SqL K H a (ns.map V.int)→sp K [.ref a] H (fun v _=>v=.bl true) fun _ _ _=>False)
  (hCX:∀ (H:Hp) (s:Shared) (e:Value) (s':Shared),CX [] H s (fun _ _ _=>False) e s'→False) :
  W.WalkO q loose XP YP l.row.toRowW d [] (fun f vs=>PySem.call f vs) :=
 Km (K:=K) (CX:=fun _=>CX) (sp:=fun w=>sp (K w.params)) hn hn2 hdf hr hY F (fun w H a ns h1 h2 h3=>hsp (K w.params) H a ns h1 h2 h3) fun _ H s e s'=>hCX H s e s'
end L2
namespace L2
open PySem PySem.Spec PyProof.Rows
def xv (s:Stmt) (j:Nat):Stmt:=match s with
 | .ClassDef _ _ _ body _ _ _ _ _ _ _=>body.getD j (.Pass ⟨0,0,0,0⟩)
 | _=>.Pass ⟨0,0,0,0⟩
def zE (s:Stmt):Arguments:=match s with
 | .FunctionDef _ a _ _ _ _ _ _ _ _=>a
 | _=>{ posonlyargs:=[],args:=[],vararg:=none,kwonlyargs:=[],kw_defaults:=[],kwarg:=none,defaults:=[] }
def zB (s:Stmt):List Stmt:=match s with
 | .FunctionDef _ _ b _ _ _ _ _ _ _=>b
 | _=>[]
def zh (s:Stmt):Scope:=match s with
 | .FunctionDef _ _ _ _ _ _ sc _ _ _=>sc
 | _=>{ kind:=.function,names:=[],isGenerator:=false,isCoroutine:=false }
abbrev CX0:CXT:=fun _ _ _ _ _ _=>False
abbrev E0:XK:=fun _ _ _=>False
structure Fun (K:W.Frag) (x qual:Str) (st:Stmt) (f:Addr) (fd:FuncData):Prop where
 ex:∃ (oc:Value) (od:Option Addr) (kV doc pm:Value) (an:Option Addr) (cdv ct:Value) (osl:Array (Option Value)),
  fd=W.fnOf x qual (zE st) (zB st) (zh st) .none kV doc pm an cdv ct∧K.lookup f=some ⟨oc,od,.func fd,osl⟩∧W.codeIn K cdv qual=true
 kp:W.keepIn K (.ref f)=true
section
variable {P:Program} {w:World} {K:W.Frag} {mg:Str→Option Value} {base:Heap}
theorem Fun.binds {x qual:Str} {st:Stmt} {f:Addr} {fd:FuncData} {ps:List Str} (F:Fun K x qual st f fd)
  (h:∀ (kV doc pm:Value) (an:Option Addr) (cdv ct:Value) (us:List Value),us.length=ps.length→bindArgs (W.fnOf x qual (zE st) (zB st) (zh st) .none kV doc pm an cdv ct) ⟨us,[]⟩=pure (ps.zip us)):Binds K fd ps []:=by
 obtain ⟨oc,od,kV,doc,pm,an,cdv,ct,osl,rfl,lk,hcd⟩:=F.ex
 exact .all (h kV doc pm an cdv ct)
theorem zW {x qual:Str} {st:Stmt} {f:Addr} {oc:Value} {od an:Option Addr} {osl:Array (Option Value)} {kV doc pm cdv ct:Value} (l:K.lookup f=some ⟨oc,od,.func (W.fnOf x qual (zE st) (zB st) (zh st) .none kV doc pm an cdv ct),osl⟩)
  (c:W.codeIn K cdv qual=true) (k:W.keepIn K (.ref f)=true):Fun K x qual st f (W.fnOf x qual (zE st) (zB st) (zh st) .none kV doc pm an cdv ct):=⟨⟨oc,od,kV,doc,pm,an,cdv,ct,osl,rfl,l,c⟩,k⟩
end
theorem xw {A:Around} {k:Nat} (hr:Room k A):A.units + 1 < cLine:=Nat.lt_of_le_of_lt (Nat.add_le_add_left (by decide:1≤64) _) hr.units
section
variable {X:Cx}
theorem pv (i:Nat) {x:Str} {pos:Pos} (hN:X.N[i]?=some x:=by rfl) (hv:Vis X.env.scope x:=by first | exact Or.inl rfl | exact Or.inr (Or.inl rfl) | exact Or.inr (Or.inr rfl)) (hd:(x == ("__debug__":Str))=false:=by decide)
  (hcd:(x == ("__classdict__":Str))=false:=by decide):PE X (.Name x pos) (zc i):=zcr hN hv hd hcd
end
theorem xN {c A B:Prop} [Decidable c] (h1:c→A) (h2:¬ c→B):if c then A else B:=by
 by_cases h:c
 ·rw [if_pos h]
  exact h1 h
 ·rw [if_neg h]
  exact h2 h
def Same (H H':Hp):Prop:=∀ b o,H b=some o→H' b=some o
theorem Same.refl (H:Hp):Same H H:=fun _ _ h=>h
theorem Same.trans {H H1 H2:Hp} (a:Same H H1) (b:Same H1 H2):Same H H2:=fun c o h=>b c o (a c o h)
end L2
namespace L2
open PySem PySem.Spec PyProof.Rows
section
variable {X:Cx}
end
section
variable {κ:Type} [DecidableEq κ]
theorem QU {kvs:List (κ × V)} {k:κ} (h:yN kvs k=none):¬ k∈kvs.map (·.1):=by
 intro m
 obtain ⟨p,hp,e⟩:=List.mem_map.mp m
 have q:(kvs.any fun kv=>decide (kv.1=k))=true:=List.any_eq_true.mpr ⟨p,hp,decide_eq_true e⟩
 rw [wT,h] at q
 exact absurd q (by simp)
theorem Kn {kvs:List (κ × V)} {k:κ} {v:V} (h:yN kvs k=some v):k∈kvs.map (·.1):=by
 have q:(kvs.any fun kv=>decide (kv.1=k))=true:=by
  rw [wT,h]
  all_goals rfl
 obtain ⟨p,hp,e⟩:=List.any_eq_true.mp q
 exact List.mem_map.mpr ⟨p,hp,of_decide_eq_true e⟩
theorem Ko:∀ {l:List κ} {k:κ},l.Nodup→¬ k∈l→(l ++ [k]).Nodup
 | [],k,_,_=>by simp
 | a :: r,k,h,hk=>by
  obtain ⟨h1,h2⟩:=List.nodup_cons.mp h
  show (a :: (r ++ [k])).Nodup
  refine List.nodup_cons.mpr ⟨fun m=>?_,Ko h2 fun m=>hk (List.mem_cons.mpr (Or.inr m))⟩
  rcases List.mem_append.mp m with q | q
  ·exact h1 q
  ·exact hk (List.mem_cons.mpr (Or.inl (List.mem_singleton.mp q).symm))
theorem zbe {kvs:List (κ × V)} {k:κ} (v:V) (hn:(kvs.map (·.1)).Nodup) (h:yN kvs k=none):((yD kvs k v).map (·.1)).Nodup:=by
 rw [YD v h,List.map_append]
 exact Ko hn (QU h)
theorem Qj {p:κ × V} {r:List (κ × V)} {k:κ} (e:¬ p.1=k):XZ (p :: r) k=p :: XZ r k:=by
 unfold XZ
 rw [List.filter_cons,if_pos (by simp [e])]
theorem QV:∀ {kvs:List (κ × V)} {k:κ},¬ k∈kvs.map (·.1)→XZ kvs k=kvs
 | [],_,_=>rfl
 | p :: r,k,h=>by
  have h':¬ k∈r.map (·.1):=fun m=>by
   obtain ⟨q,hq,e⟩:=List.mem_map.mp m
   exact h (List.mem_map.mpr ⟨q,List.mem_cons.mpr (Or.inr hq),e⟩)
  rw [Qj fun e=>h (List.mem_map.mpr ⟨p,List.mem_cons.mpr (Or.inl rfl),e⟩),QV h']
end
end L2
set_option Elab.async false
set_option linter.all false
set_option maxRecDepth 100000
set_option maxHeartbeats 4000000
namespace L2
open PySem PySem.Spec PyProof.Rows
def Cx.comp (X:Cx) (scope:Scope) (cl:List (Str × Addr)) (C:Addr) (N:List Str) (fp:List Addr) (s:Shared) (H:Hp):Cx :=
 { X with env:=compEnvC scope cl C X.env,N:=N,s₀:=s,H₀:=H,outer:=X.stack,ex:=fp,fn:=fun _=>false,pn:=[],xe:=fun _ _=>False }
structure qq (X:Cx) (scope:Scope) (cl:List (Str × Addr)) (ix:List Nat):Prop where
 clos:closureFor scope X.env=pure cl
 nocell:∀ y∈scope.names,y.2≠.cell
 kind:scope.kind=.function
 names:∀ y∈scope.names,y.2=.local→scope.names.lookup y.1=some .local
 sub:∀ y c,cl.lookup y=some c→X.env.cells.lookup y=some c
 has:∀ y,((relabel scope X.env).names.lookup y=some .cell∨(relabel scope X.env).names.lookup y=some .free)→∃ c,cl.lookup y=some c
 cap:∀ i∈ix,∃ y,X.N[i]?=some y∧(X.env.kindOf y=some .cell∨X.env.kindOf y=some .free)∧((relabel scope X.env).names.lookup y=some .cell∨(relabel scope X.env).names.lookup y=some .free)
def YJ (scope:Scope) (env:Env):List (Str × Addr):=scope.names.foldl (fun cs y=>if y.2 == .free then (y.1,(env.cells.lookup y.1).getD 0) :: cs else cs) []
def QW (osc:Scope) (N:List Str) (sc:Scope) (ix:List Nat):Bool :=
 sc.kind == .function && sc.names.all (fun y=>y.2 != .cell && (y.2 != .local || sc.names.lookup y.1 == some .local) && (y.2 != .free || osc.names.lookup y.1 == some .cell || osc.names.lookup y.1 == some .free)) &&
  ix.all fun i=>match N[i]? with
   | some y=>sc.names.lookup y == some .free
   | none=>false
theorem wU {l:List (Str × NameKind)} {y:Str} {k:NameKind} (h:l.lookup y=some k):(y,k)∈l:=PySem.mem_of_lookup h
theorem j4 {env:Env}:∀ {names:List (Str × NameKind)} {x:Str} {k:NameKind},(names.map fun (n,k)=>if (k == NameKind.free && env.scope.kind == .function && env.kindOf n == some .cell) then (n,NameKind.cell) else (n,k)).lookup x=some k →
  ∃ k',names.lookup x=some k'∧(k'=.free∨k'=k)
 | [],_,_,h=>by simp at h
 | (n,k') :: r,x,k,h=>by
  have ih:=@j4 env r x k
  rw [List.map_cons] at h
  cases hx:x == n with
  | true =>
   by_cases hc:(k' == NameKind.free && env.scope.kind == .function && env.kindOf n == some .cell)=true
   ·have e:k'=.free:=by
     have:=(Bool.and_eq_true _ _ ▸ (Bool.and_eq_true _ _ ▸ hc).1).1
     simpa using this
    exact ⟨k',by simp [List.lookup_cons,hx],.inl e⟩
   ·simp only [if_neg hc,List.lookup_cons,hx] at h
    exact ⟨k',by simp [List.lookup_cons,hx],.inr (Option.some.inj h)⟩
  | false =>
   have h':(r.map fun (n,k)=>if (k == NameKind.free && env.scope.kind == .function && env.kindOf n == some .cell) then (n,NameKind.cell) else (n,k)).lookup x=some k:=by
    by_cases hc:(k' == NameKind.free && env.scope.kind == .function && env.kindOf n == some .cell)=true
    ·simp only [if_pos hc,List.lookup_cons,hx] at h;exact h
    ·simp only [if_neg hc,List.lookup_cons,hx] at h;exact h
   obtain ⟨q,e,r'⟩:=ih h'
   exact ⟨q,by simp only [List.lookup_cons,hx];exact e,r'⟩
theorem Zl {env:Env}:∀ {names:List (Str × NameKind)} {x:Str},names.lookup x=some .free →
  ((names.map fun (n,k)=>if (k == NameKind.free && env.scope.kind == .function && env.kindOf n == some .cell) then (n,NameKind.cell) else (n,k)).lookup x=some .cell ∨
   (names.map fun (n,k)=>if (k == NameKind.free && env.scope.kind == .function && env.kindOf n == some .cell) then (n,NameKind.cell) else (n,k)).lookup x=some .free)
 | [],_,h=>by simp at h
 | (n,k') :: r,x,h=>by
  have ih:=@Zl env r x
  rw [List.map_cons]
  cases hx:x == n with
  | true =>
   simp only [List.lookup_cons,hx] at h
   cases h
   by_cases hc:(NameKind.free == NameKind.free && env.scope.kind == .function && env.kindOf n == some .cell)=true
   ·left;simp only [if_pos hc,List.lookup_cons,hx]
   ·right;simp only [if_neg hc,List.lookup_cons,hx]
  | false =>
   simp only [List.lookup_cons,hx] at h
   by_cases hc:(k' == NameKind.free && env.scope.kind == .function && env.kindOf n == some .cell)=true
   ·simp only [if_pos hc,List.lookup_cons,hx];exact ih h
   ·simp only [if_neg hc,List.lookup_cons,hx];exact ih h
theorem X5 {env:Env}:∀ (l:List (Str × NameKind)) (cs:List (Str × Addr)),(∀ y∈l,y.2=.free→∃ c,env.cells.lookup y.1=some c) →
  (∀ y c,cs.lookup y=some c→env.cells.lookup y=some c)→∀ y c,(l.foldl (fun cs y=>if y.2 == .free then (y.1,(env.cells.lookup y.1).getD 0) :: cs else cs) cs).lookup y=some c→env.cells.lookup y=some c
 | [],_,_,h,y,c,e=>h y c e
 | z :: r,cs,hl,h,y,c,e=>by
  rw [List.foldl_cons] at e
  refine X5 r _ (fun y hy=>hl y (List.mem_cons_of_mem _ hy)) (fun y' c' e'=>?_) y c e
  by_cases hz:z.2=.free
  ·obtain ⟨c0,h0⟩:=hl z List.mem_cons_self hz
   have hb:(z.2 == NameKind.free)=true:=by simpa using hz
   rw [if_pos hb,h0,List.lookup_cons] at e'
   cases hq:y' == z.1 with
   | true =>
    rw [hq] at e'
    have e2:y'=z.1:=by simpa using hq
    cases e'
    rw [e2];exact h0
   | false=>rw [hq] at e';exact h _ _ e'
  ·have hb:(z.2 == NameKind.free)=false:=by simpa using hz
   rw [hb] at e'
   exact h _ _ e'
theorem Vs {env:Env}:∀ (l:List (Str × NameKind)) (cs:List (Str × Addr)) (y:Str),((∃ c,cs.lookup y=some c)∨(y,NameKind.free)∈l) →
  ∃ c,(l.foldl (fun cs y=>if y.2 == .free then (y.1,(env.cells.lookup y.1).getD 0) :: cs else cs) cs).lookup y=some c
 | [],_,_,h=>h.elim id fun z=>nomatch z
 | z :: r,cs,y,h=>by
  rw [List.foldl_cons]
  refine Vs r _ y ?_
  rcases h with ⟨c,h⟩ | h
  ·left
   by_cases hz:(z.2 == NameKind.free)=true
   ·rw [if_pos hz,List.lookup_cons]
    cases y == z.1 with
    | true=>exact ⟨_,rfl⟩
    | false=>exact ⟨c,h⟩
   ·rw [if_neg hz];exact ⟨c,h⟩
  ·rcases List.mem_cons.mp h with h | h
   ·left
    subst h
    rw [if_pos (by rfl),List.lookup_cons]
    simp
   ·exact .inr h
theorem Wy {env:Env}:∀ (l:List (Str × NameKind)) (cs:List (Str × Addr)),(∀ y∈l,y.2=.free→∃ c,env.cells.lookup y.1=some c) →
  forIn (m:=Sem) l cs (fun x r=>match x with | (name,kind)=>if (kind == NameKind.free)=true then do let c ← cellOf env name;pure (ForInStep.yield ((name,c) :: r)) else pure (ForInStep.yield r)) =
   pure (l.foldl (fun cs y=>if y.2 == .free then (y.1,(env.cells.lookup y.1).getD 0) :: cs else cs) cs)
 | [],_,_=>rfl
 | (n,k) :: r,cs,h=>by
  rw [List.forIn_cons,List.foldl_cons]
  by_cases hz:(k == NameKind.free)=true
  ·obtain ⟨c,hc⟩:=h (n,k) List.mem_cons_self (by simpa using hz)
   have e:cellOf env n=pure c:=by unfold cellOf;rw [hc]
   simp only [hz,if_true,e,pure_bind]
   rw [Wy r _ fun y hy=>h y (List.mem_cons_of_mem _ hy)]
   simp only [hc,Option.getD_some]
  ·simp only [hz,if_false,pure_bind]
   exact Wy r _ fun y hy=>h y (List.mem_cons_of_mem _ hy)
theorem Wz {X:Cx} {osc scope:Scope} {N:List Str} {ix:List Nat} (ok:X.Ok) (h:QW osc N scope ix=true) (hs:X.env.scope=osc) (hN:X.N=N):qq X scope (YJ scope X.env) ix:=by
 subst hs hN
 unfold QW at h
 rw [Bool.and_eq_true,Bool.and_eq_true,List.all_eq_true,List.all_eq_true] at h
 obtain ⟨⟨h1,h2⟩,h3⟩:=h
 have p:∀ y∈scope.names,y.2≠.cell∧(y.2=.local→scope.names.lookup y.1=some .local)∧(y.2=.free→X.env.kindOf y.1=some .cell∨X.env.kindOf y.1=some .free):=fun y hy=>by
  have q:=h2 y hy
  rw [Bool.and_eq_true,Bool.and_eq_true] at q
  obtain ⟨⟨q1,q2⟩,q3⟩:=q
  refine ⟨by simpa using q1,fun e=>?_,fun e=>?_⟩
  ·rw [e] at q2;simpa using q2
  ·rw [e] at q3
   have q3':X.env.scope.names.lookup y.1=some .cell∨X.env.scope.names.lookup y.1=some .free:=by simpa using q3
   exact q3'
 have f:∀ y∈scope.names,y.2=.free→∃ c,X.env.cells.lookup y.1=some c:=fun y hy e=>ok.has y.1 ((p y hy).2.2 e)
 refine ⟨?_,fun y hy=>(p y hy).1,by simpa using h1,fun y hy=>(p y hy).2.1,fun y c e=>X5 scope.names [] f (fun _ _ z=>by simp at z) y c e,fun y hy=>?_,fun i hi=>?_⟩
 ·have e:=Wy scope.names [] f
  unfold closureFor YJ
  refine Eq.trans (congrArg (fun m=>m >>= fun s=>(pure s:Sem (List (Str × Addr)))) e) ?_
  rw [pure_bind]
 ·refine Vs scope.names [] y (.inr ?_)
  rcases hy with hy | hy
  ·obtain ⟨k',e,z | z⟩:=j4 hy
   ·subst z;exact wU e
   ·subst z;exact absurd rfl (p _ (wU e)).1
  ·obtain ⟨k',e,z | z⟩:=j4 hy
   ·subst z;exact wU e
   ·subst z;exact wU e
 ·have q:=h3 i hi
  cases hy:X.N[i]? with
  | none=>rw [hy] at q;cases q
  | some y =>
   rw [hy] at q
   have q':scope.names.lookup y=some .free:=by simpa using q
   exact ⟨y,rfl,(p _ (wU q')).2.2 rfl,Zl q'⟩
def qD (ix:List Nat) (σ:St):St:=ix.map fun i=>(σ[i]?).getD none
def kP (ix:List Nat) (N:List Str):List Str:=ix.map fun i=>(N[i]?).getD ""
section
variable {X:Cx} {pins:List (Addr × Obj)} {σ:St} {H:Hp} {s:Shared} {scope:Scope} {cl:List (Str × Addr)} {ix:List Nat} {fp:List Addr} {C:Addr} {xs:List Str}
theorem Inv.compOk (I:Inv X pins σ H s) (S:qq X scope cl ix) (hC:C=s.heap.objs.size) (hf:∀ b∈fp,kL X pins H b) (hl:∀ b∈fp,b < s.heap.objs.size) (N':List Str) :
  (X.comp scope cl C N' fp s H).Ok where
 mod:=I.ok.mod
 kind:=S.kind
 glob:=I.ok.glob
 blt:=I.ok.blt
 above:=Nat.le_of_eq hC.symm
 inj:=fun x y c h1 h2=>I.ok.inj x y c (S.sub x c h1) (S.sub y c h2)
 has:=fun x hx=>S.has x hx
 cab:=fun x c h1 _=>nomatch h1
 hd:=I.ok.hd
 frames:=I.ok.frames
 stk:=.inl rfl
 exf:=fun b hb=>⟨fun z=>absurd (hl b hb) (by rw [z];show ¬ C < _;rw [hC];exact Nat.lt_irrefl _),fun x c h=>(hf b hb).2.2.2.2.1 x c (S.sub x c h)⟩
 bs:=I.bs
 bsz:=Nat.le_trans I.ok.bsz I.sz
 noex:=fun b o e hb=>by
  rcases (hf b hb).2.2.2.1 with z | z
  ·exact I.ok.noex b o e z
  ·exact absurd (Nat.lt_of_lt_of_le (Heap.lt_size e) (Nat.le_trans I.ok.bsz z)) (Nat.lt_irrefl _)
 exfs:=fun b hb z=>by
  rcases List.mem_cons.mp (I.stkSub b z) with e | e
  ·exact (hf b hb).2.1 e
  ·exact (hf b hb).2.2.1 e
 funs:=I.stack
 frf:=I.stkFree
theorem Inv.comp {h₁:Heap} {m₁:Str→Option Value} {t':Nat} (I:Inv X pins σ H s) (S:qq X scope cl ix) (hC:C=s.heap.objs.size) (hf:∀ b∈fp,kL X pins H b) (hl:∀ b∈fp,b < s.heap.objs.size)
  (hn:h₁.Ns C m₁) (hk:∀ b o,s.heap.get? b=some o→h₁.get? b=some o) :
  Inv (X.comp scope cl C (xs ++ kP ix X.N) fp s H) [] (List.replicate xs.length none ++ qD ix σ) H { s with heap:=h₁,toks:=t' } where
 ok:=I.compOk S hC hf hl _
 os:=rfl
 bare:=I.bare
 base:=Un.kept hk
 loc:=by
  refine ⟨m₁,hn,fun i y v e1 e2 e3=>?_⟩
  by_cases hi:i < xs.length
  ·rw [List.getElem?_append_left (by simpa using hi),List.getElem?_replicate,if_pos hi] at e2
   cases e2
  ·have e1':(xs ++ kP ix X.N)[i]?=some y:=e1
   rw [List.getElem?_append_right (by lia)] at e1'
   rw [List.getElem?_append_right (by rw [List.length_replicate];lia),List.length_replicate] at e2
   generalize i - xs.length=j at e1' e2
   unfold kP at e1'
   unfold qD at e2
   rw [List.getElem?_map] at e1' e2
   cases hj:ix[j]? with
   | none=>rw [hj] at e1';cases e1'
   | some k =>
    rw [hj] at e1' e2
    obtain ⟨y',c1,c2,c3⟩:=S.cap k (List.mem_of_getElem? hj)
    have ey:y'=y:=by
     have q:(X.N[k]?).getD ""=y:=Option.some.inj e1'
     rw [c1] at q
     exact q
    subst ey
    have ev:σ[k]?=some (some v):=by
     have q:(σ[k]?).getD none=some v:=Option.some.inj e2
     cases hs:σ[k]? with
     | none=>rw [hs] at q;cases q
     | some o=>rw [hs] at q;exact congrArg some q
    obtain ⟨m,hm,hv⟩:=I.loc
    obtain ⟨u,r,l⟩:=hv k y' v c1 ev (c2.elim (fun z=>.inr (.inl z)) fun z=>.inr (.inr z))
    refine ⟨u,r,.inr ⟨c3,?_⟩⟩
    rcases l with ⟨l1,_⟩ | ⟨_,c,lc,⟨o,ho,hd⟩⟩
    ·rcases c2 with z | z <;> (rw [l1] at z;cases z)
    ·obtain ⟨c',hc'⟩:=S.has y' c3
     have e:=S.sub _ _ hc'
     rw [lc] at e
     cases e
     exact ⟨c,hc',o,hk _ _ ho,hd⟩
 cell:=fun x c e=>by
  obtain ⟨v,o,ho,hd⟩:=I.cell x c (S.sub x c e)
  exact ⟨v,o,hk _ _ ho,hd⟩
 free:=I.hok.fresh (Nat.le_of_eq hC.symm)
 freeC:=fun x c e=>I.freeC x c (S.sub x c e)
 pin:=fun p hp=>absurd (show p∈([]:List (Addr × Obj)) from hp) (by simp)
 hok:=I.hok.kept hk
 len:=by
  show (List.replicate xs.length none ++ qD ix σ).length=(xs ++ kP ix X.N).length
  rw [List.length_append,List.length_append,List.length_replicate,qD,kP,List.length_map,List.length_map]
theorem Inv.uncomp {s':Shared} {σ':St} {H':Hp} {N':List Str} {h':Heap} (I:Inv X pins σ H s) (hC:C=s.heap.objs.size) (hf:∀ b∈fp,kL X pins H b)
  (J:Inv (X.comp scope cl C N' fp s H) [] σ' H' s') (hb:Heap.SameBut C s'.heap h'):Inv X pins σ H' { s' with heap:=h' }:=by
 have lt:∀ b o,s.heap.get? b=some o→b≠C:=fun b o e=>by
  rw [hC];exact Nat.ne_of_lt (Heap.lt_size e)
 have B:Un (frs X.stack) fp H H' s.heap s'.heap:=J.base
 refine I.call' (s':={ s' with heap:=h' }) (ch:=fp) J.os ?_ ?_ J.bare ?_
 ·exact ⟨fun b o e n h1 h2=>(hb.2 b (lt b o e)).trans (B.keep b o e n h1 h2),fun b o e n h1 h2=>by
   obtain ⟨sl,q⟩:=B.slot b o e n h1 h2
   exact ⟨sl,(hb.2 b (lt b o e)).trans q⟩,B.free,fun b o e h1=>by
   obtain ⟨o',q⟩:=B.there b o e h1
   exact ⟨o',(hb.2 b (lt b o e)).trans q⟩,B.tups,B.frzs,B.tbls⟩
 ·intro b o e
  refine (J.hok b o e).stay (fun c u hc q=>(hb.2 c ?_).trans q) (fun _ q=>q) fun _ _ q=>q
  have hC0:H' C=none:=J.free
  rintro rfl
  rcases hc with rfl | hc
  ·rw [hC0] at e;cases e
  ·rw [hC0] at hc;cases hc
 ·intro b hb'
  obtain ⟨f0,f1,f2,f3,f4,f5⟩:=hf b hb'
  exact ⟨f3,f1,f4,f5⟩
end
def PTs (X:Cx) (ifs:List Expr) (t:TT):Prop :=
 ∀ (pins:List (Addr × Obj)) (s:Shared) (σ:St) (H:Hp) (Q:Bool→Hp→Prop),Inv X pins σ H s→t σ H Q →
  wpAny (model X.prog X.w) X.A (forIn ifs true fun c r=>if r=true then do let ok ← isTrue c X.env (eval c X.env);pure (ForInStep.yield ok) else pure (ForInStep.yield r)) (TP X pins σ Q) X.xe s
def Vt:TT:=fun _ H Q=>Q true H
theorem zbf {X:Cx}:PTs X [] Vt:=fun _ _ _ H _ I h=>wpAny_tests_nil ⟨H,I,h⟩
theorem Kq {X:Cx} {c:Expr} {t:TT} (h:PT X c t):PTs X [c] t:=fun pins s σ H Q I q=>wpAny_tests_one (h pins s σ H Q I q)
section
variable {prog:Program} {w:World} {A:Around} {R:Result→Shared→Prop} {s:Shared}
theorem WA {elt target iter:Expr} {ifs:List Expr} {scope:Scope} {pos:Pos} {it acc:Value} {env:Env} (W:Nat→Shared→Prop) {EE:Value→Shared→Prop}
  (hE:∀ e s',EE e s'→notedBy (model prog w) A env (fun e s'=>R (.error e) s') e s')
  (turn:∀ n s,W n s→wpAny (model prog w) A (pyNext it) (fun r s₁=>match r with
   | none=>R (.ok .next) s₁
   | some v=>wpAny (model prog w) A (letOwnedTupleGo target it v) (fun _ t₁=>wpAny (model prog w) A (assign target env v) (fun _ s₂ =>
     wpAny (model prog w) A (forIn ifs true fun c r=>if r=true then do let ok ← isTrue c env (eval c env);pure (ForInStep.yield ok) else pure (ForInStep.yield r)) (fun ok s₃ =>
      if ok=true then wpAny (model prog w) A (eval elt env) (fun x s₄=>wpAny (model prog w) A (call (.builtin "list.append") [acc,x]) (fun _ s₅=>∃ m,m < n∧W m s₅) EE s₄) EE s₃
      else ∃ m,m < n∧W m s₃) EE s₂) EE t₁) EE s₁) EE s)
  (n:Nat) (h:W n s):codeAny (model prog w) A (.compLoop (.ListComp elt [⟨target,iter,ifs,0⟩] scope pos) 0 it acc env) R s:=by
 refine codeAny_loop rfl W (fun n s hW=>?_) n h
 show wpAny _ A ((compTurn (.ListComp elt [⟨target,iter,ifs,0⟩] scope pos) 0 it acc env).onRaise (fun x=>do noteFrame x env;theTreesLotGoes x)) _ _ s
 refine wpAny_noted (wpAny_mono ?_ (fun _ _ q=>q) hE)
 rw [compTurn_list]
 refine wpAny_bind (wpAny_standAt (wpAny_bind (thn (turn n s hW) fun r s₁ h₁=>?_)))
 cases r with
 | none=>exact wpAny_pure h₁
 | some v =>
  refine wpAny_bind (thn h₁ fun _ t₁ k₁=>?_)
  refine wpAny_bind (thn k₁ fun _ s₂ h₂=>wpAny_bind (thn h₂ fun ok s₃ h₃=>?_))
  cases ok with
  | false=>exact wpAny_pure ⟨rfl,h₃⟩
  | true=>exact wpAny_bind (wpAny_bind (thn h₃ fun x s₄ h₄=>wpAny_bind (thn h₄ fun _ s₅ h₅=>wpAny_pure (wpAny_pure ⟨rfl,h₅⟩))))
end
def vA (wi:TI) (g:TG) (tt:TT) (te:TE) (k:Nat) (ix:List Nat):TE:=fun σ H Q=>wi σ H fun J H1=>∀ D,H1 D=none →
 ∃ W:Nat→Nat→List V→St→Hp→Prop,(∃ m,W 0 m [] (List.replicate k none ++ qD ix σ) (upd H1 D (.lst [])))∧∀ i m ys τ H,W i m ys τ H→H D=some (.lst ys) ∧
  ((J.stop i H∧Q (.ref D) H)∨(J.go i H∧ys.length < sizeLine∧∃ N:V→St→Hp→Prop,
   (∀ v τ' H',N v τ' H'→H' D=some (.lst ys)∧∃ m',m' < m∧W (i + 1) m' (ys ++ [v]) τ' (upd H' D (.lst (ys ++ [v]))))∧∃ Nf:St→Hp→Prop,(∀ τ' H',Nf τ' H'→∃ m',m' < m∧W (i + 1) m' ys τ' H') ∧
   ∀ x H',J.yld i H x H'→g x τ H' fun τ2 H2=>tt τ2 H2 fun b H3=>if b=true then te τ2 H3 fun v H4=>N v τ2 H4 else Nf τ2 H3))
section
variable {X:Cx} {elt iter tg:Expr} {ifs:List Expr} {scope:Scope} {pos:Pos} {cl:List (Str × Addr)} {ix:List Nat} {xs:List Str} {wi:TI} {g:TG} {tt:TT} {te:TE}
theorem JI (S:qq X scope cl ix) (hc:X.calm=true) (hi:PI X tg iter wi)
  (hg:∀ C fp s H,PG (X.comp scope cl C (xs ++ kP ix X.N) fp s H) tg g) (ht:∀ C fp s H,PTs (X.comp scope cl C (xs ++ kP ix X.N) fp s H) ifs tt)
  (he:∀ C fp s H,PE (X.comp scope cl C (xs ++ kP ix X.N) fp s H) elt te)
  {pins:List (Addr × Obj)} {s:Shared} {σ:St} {H:Hp} {Q:VK} (I:Inv X pins σ H s) (h:vA wi g tt te xs.length ix σ H Q) {RR:Value→Addr→Result→Shared→Prop}
  (hR:∀ v u s' C,RelV v u→(∃ H',Q v H'∧(∃ m,s'.heap.Ns C m)∧(∀ h',Heap.SameBut C s'.heap h'→Inv X pins σ H' { s' with heap:=h' })∧kL X pins H' C)→RR u C (.ok .next) s') :
  wpAny (model X.prog X.w) X.A (eval iter X.env) (fun x s₁=>wpAny (model X.prog X.w) X.A (pyIter x) (fun it s₂=>wpAny (model X.prog X.w) X.A (newList []) (fun acc s₃ =>
   wpAny (model X.prog X.w) X.A (newFunctionEnv scope X.env.globals cl [] X.env.qual none .none (some X.env)) (fun cenv s₄ =>
    codeAny (model X.prog X.w) X.A (.compStart (.ListComp elt [⟨tg,iter,ifs,0⟩] scope pos) 0 it acc { cenv with scope:=relabel scope X.env }) (RR acc cenv.locals) s₄) X.xe s₃) X.xe s₂) X.xe s₁) X.xe s:=by
 refine thn (hi pins s σ H _ I h) fun v s1 h1=>thn h1 fun itv s2 h2=>?_
 obtain ⟨it,fp,tn,J,H2,e,I2,T,st2,f2,hW⟩:=h2
 subst e
 refine wpAny_newObj_type (wpAny_newFunctionEnv S.nocell (fun y hy=>nomatch hy) (fun h₁ hns₁ hsb₁=>?_) S.kind)
 dsimp only at hns₁ hsb₁ ⊢
 obtain ⟨W,⟨m0,w0⟩,turn⟩:=hW s2.heap.objs.size I2.fresh
 have I3:=I2.lnew (t':=s2.toks) (ys:=[]) (its:=[]) .nil (Nat.zero_le _)
 have hl3:∀ b∈fp,b < s2.heap.objs.size:=fun b hb=>by
  obtain ⟨o,e,_⟩:=T.obj _ _ st2 b hb
  exact Heap.lt_size e
 generalize hs3:({ s2 with heap:=s2.heap.push { cls:=.type "list",data:=.seq ([]:List Value).toArray },toks:=s2.toks }:Shared)=s3 at I3
 have hs3h:s3.heap=s2.heap.push { cls:=.type "list",data:=.seq ([]:List Value).toArray }:=by rw [← hs3]
 have hsz:s3.heap.objs.size=s2.heap.objs.size + 1:=by rw [hs3h,Heap.size_push]
 have f3:∀ b∈fp,kL X pins (upd H2 s2.heap.objs.size (.lst [])) b:=fun b hb=>by
  obtain ⟨q0,q⟩:=f2 b hb
  exact ⟨by rw [zk (Nat.ne_of_lt (hl3 b hb))];exact q0,q⟩
 have hl3':∀ b∈fp,b < s3.heap.objs.size:=fun b hb=>by rw [hsz];exact Nat.lt_succ_of_lt (hl3 b hb)
 rw [← hs3h] at hns₁ hsb₁ ⊢
 have hk:∀ b o,s3.heap.get? b=some o→h₁.get? b=some o:=fun b o e=>(hsb₁.2 b (Nat.ne_of_lt (Heap.lt_size e))).trans (Heap.get?_push_of_some _ e)
 have hk2:∀ b o,s2.heap.get? b=some o→s3.heap.get? b=some o:=fun b o e=>by rw [hs3h];exact Heap.get?_push_of_some _ e
 have J0:=I3.comp (xs:=xs) (t':=s2.toks) (C:=s3.heap.objs.size) S rfl f3 hl3' hns₁ hk
 have st3:tn 0 h₁:=T.keep _ _ _ st2 fun b _ o e=>hk b o (hk2 b o e)
 have loop:∀ tk,codeAny (model X.prog X.w) X.A (.compLoop (.ListComp elt [⟨tg,iter,ifs,0⟩] scope pos) 0 (.ref it) (.ref s2.heap.objs.size) (compEnvC scope cl s3.heap.objs.size X.env))
   (RR (.ref s2.heap.objs.size) s3.heap.objs.size) { s3 with heap:=h₁,toks:=tk }:=by
  intro tk
  refine WA (EE:=fun _ _=>False) (fun n s'=>∃ i ys τ H',Inv (X.comp scope cl s3.heap.objs.size (xs ++ kP ix X.N) fp s3 (upd H2 s2.heap.objs.size (.lst []))) [] τ H' s'∧tn i s'.heap∧(∀ b∈fp,H' b=none)∧W i n ys τ H')
   (fun _ _ z=>z.elim) ?_ m0 ⟨0,[],_,_,J0.tok tk,st3,fun b hb=>(f3 b hb).1,w0⟩
  rintro n s' ⟨i,ys,τ,H',I',st',fr',w'⟩
  have stat:∀ {H':Hp},(∀ b∈fp,H' b=none)→∀ b∈fp,kL (X.comp scope cl s3.heap.objs.size (xs ++ kP ix X.N) fp s3 (upd H2 s2.heap.objs.size (.lst []))) [] H' b:=fun hn b hb =>
   ⟨hn b hb,(I'.ok.exf b hb).1,I'.ok.exfs b hb,.inl hb,(I'.ok.exf b hb).2,fun p hp=>absurd (show p∈([]:List (Addr × Obj)) from hp) (by simp)⟩
  obtain ⟨hD,⟨stop,q⟩ | ⟨go,hz,N,hN,Nf,hNf,step⟩⟩:=turn i n ys τ H' w'
  ·refine thn (T.done (X.comp scope cl s3.heap.objs.size (xs ++ kP ix X.N) fp s3 (upd H2 s2.heap.objs.size (.lst []))) rfl rfl rfl hc i [] s' τ H' _ I' (stat fr') st' stop) fun r s4 ⟨hr,I4⟩=>?_
   subst hr
   refine hR (.ref s2.heap.objs.size) _ s4 _ rfl ⟨H',q,?_,fun h' hb=>I3.uncomp rfl f3 I4 hb,I3.fpOk (Nat.le_refl _) I4.free⟩
   obtain ⟨m,hn,_⟩:=I4.loc
   exact ⟨m,hn⟩
  ·refine thn (T.item (X.comp scope cl s3.heap.objs.size (xs ++ kP ix X.N) fp s3 (upd H2 s2.heap.objs.size (.lst []))) rfl rfl rfl hc i [] s' τ H' _ I' (stat fr') st' go) fun r s4 ⟨u,hr,h4⟩=>?_
   subst hr
   refine thn h4 fun _ s5 ⟨x,H5,I5,r5,y5,st5,fr5⟩=>?_
   have I5':=I5.pinned (stat fr5) (T.obj _ _ st5)
   refine thn (hg _ _ _ _ _ s5 τ H5 x u _ I5' r5 (step x H5 y5)) fun _ s6 ⟨τ6,H6,I6,q6⟩=>?_
   refine thn (ht _ _ _ _ _ s6 τ6 H6 _ I6 q6) fun ok s7 ⟨H7,I7,q7⟩=>?_
   have back:∀ {s8:Shared} {H8:Hp} {m:Nat} {zs:List V},Inv (X.comp scope cl s3.heap.objs.size (xs ++ kP ix X.N) fp s3 (upd H2 s2.heap.objs.size (.lst []))) ([] ++ Yv fp s5.heap) τ6 H8 s8→W (i + 1) m zs τ6 H8 →
     ∃ i ys τ H',Inv (X.comp scope cl s3.heap.objs.size (xs ++ kP ix X.N) fp s3 (upd H2 s2.heap.objs.size (.lst []))) [] τ H' s8∧tn i s8.heap∧(∀ b∈fp,H' b=none)∧W i m ys τ H':=fun {s8 H8 m zs} I8 w8=>by
    refine ⟨i + 1,zs,τ6,H8,I8.unpinned,T.keep _ _ _ st5 fun b hb o e=>(I8.pin (b,o) (List.mem_append_right _ (List.mem_append_right _ (jZ hb e)))).1,fun b hb=>?_,w8⟩
    obtain ⟨o,e,d⟩:=T.obj _ _ st5 b hb
    exact (I8.pin (b,o) (List.mem_append_right _ (List.mem_append_right _ (jZ hb e)))).2.1
   cases ok with
   | false =>
    rw [if_neg Bool.false_ne_true] at q7 ⊢
    obtain ⟨m',hm,w7⟩:=hNf _ _ q7
    exact ⟨m',hm,back I7 w7⟩
   | true =>
    rw [if_pos rfl] at q7 ⊢
    refine thn (he _ _ _ _ _ s7 τ6 H7 _ I7 q7) fun y s8 ⟨v8,H8,I8,r8,n8⟩=>?_
    obtain ⟨hD8,m',hm,w8⟩:=hN _ _ _ n8
    refine thn (vK _ s8 τ6 H8 (.ref s2.heap.objs.size) [v8] (.ref s2.heap.objs.size) [y] (fun _ Hn=>∃ m,m < n∧W (i + 1) m (ys ++ [v8]) τ6 Hn) I8 rfl (.cons r8 .nil) ⟨_,ys,v8,rfl,rfl,hD8,hz,m',hm,w8⟩) fun _ s9 ⟨_,H9,I9,_,m9,hm9,w9⟩=>?_
    exact ⟨m9,hm9,back I9 w9⟩
 have e3:∀ tk,({ s3 with heap:=h₁,toks:=tk }:Shared)={ s2 with heap:=h₁,toks:=tk }:=fun tk=>by rw [← hs3]
 have loop':∀ tk,codeAny (model X.prog X.w) X.A (.compLoop (.ListComp elt [⟨tg,iter,ifs,0⟩] scope pos) 0 (.ref it) (.ref s2.heap.objs.size) (compEnvC scope cl s3.heap.objs.size X.env))
   (RR (.ref s2.heap.objs.size) s3.heap.objs.size) { s2 with heap:=h₁,toks:=tk }:=fun tk=>by rw [← e3];exact loop tk
 exact codeAny_compStart_list (loop' _) (T.self _ 0 _ _ _ st3 (loop' _))
theorem WB {osc:Scope} {N:List Str} (hc:X.calm=true) (hD:QW osc N scope ix=true) (hi:PI X tg iter wi)
  (hg:∀ C fp s H,PG (X.comp scope (YJ scope X.env) C (xs ++ kP ix X.N) fp s H) tg g) (ht:∀ C fp s H,PTs (X.comp scope (YJ scope X.env) C (xs ++ kP ix X.N) fp s H) ifs tt)
  (he:∀ C fp s H,PE (X.comp scope (YJ scope X.env) C (xs ++ kP ix X.N) fp s H) elt te) (hsc:X.env.scope=osc:=by rfl) (hN:X.N=N:=by rfl) (hs:∀ x,foldedSetIterable iter X.env x=pure x:=by intro _;rfl) :
  PE X (.ListComp elt [⟨tg,iter,ifs,0⟩] scope pos) (vA wi g tt te xs.length ix):=by
 intro pins s σ H Q I h
 have S:=Wz I.ok hD hsc hN
 rw [eval_ListComp]
 refine wpAny_comprehension_free (use:=none) rfl hs S.clos S.kind S.names (JI S hc hi hg ht he I h (RR:=fun acc C=>compPost (model X.prog X.w) X.A X.xe none (EP X pins σ Q) acc C) ?_)
 rintro v u s' C r ⟨H',q,⟨m,hn⟩,hI,_⟩
 exact ⟨m,hn,fun h' hb=>⟨v,H',hI h' hb,r,q⟩⟩
end
end L2
namespace L2
open PySem PySem.Spec PyProof.Rows
abbrev qI:R2:=fun x y H Q=>∃ i j,x=.str i∧y=.str j∧i.length + j.length≤sizeLine∧Q (.str (i ++ j)) H
abbrev zeA:R2:=fun x y H Q=>∃ i j,x=.str i∧y=.str j∧Q (.bl (!(Builtin.Str.occurrences j i 0 j.length 1).isEmpty)) H
abbrev zdJ:R2:=fun x y H Q=>∃ i j,x=.str i∧y=.str j∧Q (.bl (!(!(Builtin.Str.occurrences j i 0 j.length 1).isEmpty))) H
abbrev zeB:R2:=fun x y H Q=>∃ a b,x=.bl a∧y=.bl b∧Q (.bl (a == b)) H
abbrev zdK:R2:=fun x y H Q=>∃ a b,x=.bl a∧y=.bl b∧Q (.bl (a != b)) H
abbrev zcD:R2:=fun x y H Q=>y=.non∧Q (.bl (decide (x=.non))) H
abbrev Vu:R2:=fun x y H Q=>y=.non∧Q (.bl (!decide (x=.non))) H
abbrev RC:=List V→Hp→VK→Prop
abbrev xP (K:W.Frag):RC:=fun xs H Q=>∃ x n,xs=[x]∧vS K x H n∧Q (.int n) H
abbrev Zm (K:W.Frag):RC:=fun xs H Q=>∃ x c t b,xs=[x,c]∧Zh K H x t∧(∃ T,c=.ty T∧W.kitOne K t (.type T)=some b)∧Q (.bl b) H
abbrev zeC (K:W.Frag):RC:=fun xs H Q=>∃ (a:Addr) (bs:List Bool),xs=[.ref a]∧SqL K H a (bs.map V.bl)∧Q (.bl (bs.all id)) H
abbrev zeD:RC:=fun xs H Q=>∃ i,xs=[.int i]∧Q (.int (if i < 0 then -i else i)) H
abbrev zeE:RC:=fun xs H Q=>∃ i,xs=[.int i]∧i.natAbs.log2 < 1920∧Q (.str (toString i)) H
abbrev RM:=V→List V→Hp→VK→Prop
abbrev QE:RM:=fun x xs H Q=>∃ a b,x=.str a∧xs=[.str b]∧Q (.bl (0 + b.length≤a.length && Builtin.Str.subAt a b 0)) H
def spP (pre:List V→Hp→Prop) (post:List V→Hp→V→Hp→Prop):Sp:=fun vs H Q _=>pre vs H∧∀ r H',post vs H r H'→Same H H'→Q r H'
abbrev zeF:RC:=fun xs H Q=>∃ (x:Str) (n:Int),xs=[.str x]∧PySem.intText? x=some n∧x.length≤640∧Q (.int n) H
abbrev zcE:RM:=fun x xs H Q=>∃ a:Str,x=.str a∧xs=[]∧(∀ c∈a.cps.toList,c < 128)∧a.length≤sizeLine∧∀ y:Str,y.length=a.length→Q (.str y) H
theorem zbg {H:Hp} {p:Addr} {o:HO} (h:H p=none):∃ H',H'=upd H p o∧Same H H'∧H' p=some o :=
 ⟨_,rfl,fun b u e=>by rw [zk (zJ e h)];exact e,zd⟩
theorem isV (p:Addr) {H:Hp} {o:HO} (h:H p=none):Same H (upd H p o):=fun b u e=>by rw [zk (zJ e h)];exact e
theorem vU:bootBuiltins "len"=some (.builtin "len"):=by decide +kernel
theorem xm:bootBuiltins "isinstance"=some (.builtin "isinstance"):=by decide +kernel
theorem QX:bootBuiltins "max"=some (.builtin "max"):=by decide +kernel
theorem ZH:bootBuiltins "sorted"=some (.builtin "sorted"):=by decide +kernel
theorem zcF:bootBuiltins "str"=some (.type "str"):=by decide +kernel
theorem zcG:bootBuiltins "int"=some (.type "int"):=by decide +kernel
theorem zbh:bootBuiltins "bool"=some (.type "bool"):=by decide +kernel
theorem j5:bootBuiltins "list"=some (.type "list"):=by decide +kernel
theorem YK:bootBuiltins "tuple"=some (.type "tuple"):=by decide +kernel
theorem Yn:bootBuiltins "dict"=some (.type "dict"):=by decide +kernel
section
variable {X:Cx}
def big:Int:=10 ^ 200
def Kr (_ j:Int):Prop:=0 < j∧j < big
def CMulB (i j:Int):Prop:=(-big < i∧i < big)∧(-big < j∧j < big)
theorem YL {j:Int} (h:j.natAbs < 10 ^ 200):j.natAbs.log2 < 700:=by
 by_cases h0:j.natAbs=0
 ·rw [h0];decide
 ·exact (Nat.log2_lt h0).mpr (Nat.lt_of_lt_of_le h (by decide +kernel))
theorem WC {j:Int} (h:-big < j∧j < big):j.natAbs < 10 ^ 200:=by
 have e:big=((10 ^ 200:Nat):Int):=by decide +kernel
 rw [e] at h
 lia
theorem CMulB.ok {i j:Int} (h:CMulB i j):IntMulOk i j:=by
 have b:∀ k:Int,(-big < k∧k < big)→Builtin.Int.intBits k≤2 ^ 20:=fun k hk=>by
  have q:=YL (WC hk)
  unfold Builtin.Int.intBits
  split <;> lia
 exact .of_bits (b i h.1) (b j h.2)
theorem wk:OpR X (binaryOp .Mult) (rI CMulB fun i j=>.int (i * j)):=opI fun _ _ _ _ _ _ _ hc q=>mul_int q hc.ok
theorem Vv:OpR X (binaryOp .FloorDiv) (rI Kr fun i j=>.int (i / j)):=opI fun i j _ _ _ _ _ hc q=>by
 have h1:(0:Int) < j:=hc.1
 refine floordiv_int (by lia) ?_ (.inl (PyProof.noPylong_of_log2 (Nat.lt_trans (YL (WC ⟨by have:=hc.2;lia,hc.2⟩)) (by decide))))
 rw [Int.fdiv_eq_ediv_of_nonneg i (by lia)]
 exact q
theorem jL:ky X (.builtin "isinstance") (Zm X.K):=by
 intro pins s σ H xs us Q I r h
 obtain ⟨x,c,t,b,rfl,ty,⟨T,rfl,e⟩,q⟩:=h
 obtain ⟨u,w',rfl,r1,r2⟩:=zb8 r
 cases r2
 exact Qf I r1 ty e fun tk=>⟨.bl b,H,I.tok tk,rfl,q⟩
def Its (x:Str):It:=⟨fun i _=>i < x.cps.size,fun i H v H'=>H'=H∧∃ c,x.cps[i]?=some c∧v=.str ⟨#[c]⟩,fun i _=>x.cps.size≤i⟩
def zeG (tl:TE):TI:=fun σ H R=>tl σ H fun x H1=>∃ z,x=.str z∧R (Its z) H1
def YM:V→Option Int→Option Int→Hp→VK→Prop:=fun x lo hi H Q=>∃ z,x=.str z∧z.length≤sizeLine∧Q (.str (Txt.slice z lo hi)) H
theorem WD:SlR X YM:=by
 intro pins s σ H x v vl vu lo hi sl Q I rx hs pl pu h
 obtain ⟨z,rfl,hz,q⟩:=h
 obtain ⟨t,rfl⟩:=rx
 obtain ⟨o,ho,hc,hd⟩:=hs
 refine ⟨"str",_,F.slot_str_getitem.lookup,typeIs_str _ _ _,?_⟩
 obtain ⟨l,e1,e2⟩:∃ l:Option (Int × Tok),vl=partValue l∧lo=l.map (·.1):=by
  cases pl with
  | none=>exact ⟨none,rfl,rfl⟩
  | int i t=>exact ⟨some (i,t),rfl,rfl⟩
 obtain ⟨u,e3,e4⟩:∃ l:Option (Int × Tok),vu=partValue l∧hi=l.map (·.1):=by
  cases pu with
  | none=>exact ⟨none,rfl,rfl⟩
  | int i t=>exact ⟨some (i,t),rfl,rfl⟩
 subst e1 e2 e3 e4
 exact wpAny_getItem_str_slice (l:=l) (u:=u) (st:=none) ⟨o,ho,hc,hd⟩ rfl
  (post_val_or_str ⟨Nat.le_trans (Txt.slice_le z _ _) hz,fun t' k=>⟨.str (Txt.slice z (l.map (·.1)) (u.map (·.1))),H,I.tok k,⟨t',rfl⟩,q⟩⟩)
end
end L2
namespace L2
open PySem PySem.Spec PyProof.Rows
theorem ObjOk.there {P:Program} {w:World} {H:Hp} {h:Heap} {a:Addr} {o:HO} (x:ObjOk P w H h a o):∃ u,h.get? a=some u:=by
 cases o with
 | lst xs=>obtain ⟨_,_,_,_,e⟩:=x;exact ⟨_,e⟩
 | tup xs=>obtain ⟨_,_,_,o,e,_⟩:=x;exact ⟨_,e⟩
 | dK kvs=>obtain ⟨_,_,_,_,o,_,_,e,_⟩:=x;exact ⟨_,e⟩
 | dT kvs=>obtain ⟨_,_,_,_,o,_,_,e,_⟩:=x;exact ⟨_,e⟩
 | set S n=>obtain ⟨o,_,_,_,e,_⟩:=x;exact ⟨_,e⟩
 | ins C dx fs=>obtain ⟨_,_,_,e,_⟩:=x;exact ⟨_,e⟩
 | own y=>exact x
 | xd fs=>obtain ⟨_,⟨o,_,_,e,_⟩,_⟩:=x;exact ⟨_,e⟩
 | rng lo hi=>obtain ⟨_,_,_,e⟩:=x;exact ⟨_,e⟩
 | frz ob u=>obtain ⟨e,_⟩:=x;exact ⟨_,e⟩
 | tbl ps=>exact ⟨_,(show h.get? a=some _ from x)⟩
 | met f y=>exact ⟨_,(show h.get? a=some _ from x)⟩
 | ext φ=>obtain ⟨_,e,_⟩:=x;exact e
def XF (g h:Heap) (H:Hp) (e:Addr) (cls:Value):Prop :=
 ∃ oe vs a0 T oT ts,h.get? e=some oe∧(oe.cls=cls∧vs[0]?=some a0)∧oe.data=.fields vs∧vs[1]?=some (.ref T)∧T≠e∧h.get? T=some oT∧oT.data=.fields ts∧ts[3]?=some .none ∧
  g.get? e=none∧g.get? T=none∧H e=none∧H T=none
def CX1 (P:Program) (w:World):CXT:=fun outer H s E ev s'=>∃ e cls H',ev=.ref e∧s'.os=s.os∧AllBare s'.gens∧Un (frs outer) [] H H' s.heap s'.heap∧HOk P w H' s'.heap∧XF s.heap s'.heap H' e cls∧E cls none H'
theorem jM {g h:Heap} (k:∀ b o,g.get? b=some o→∃ o',h.get? b=some o') {b:Addr} (e:h.get? b=none):g.get? b=none:=by
 cases q:g.get? b with
 | none=>rfl
 | some o =>
  obtain ⟨o',z⟩:=k b o q
  rw [e] at z;cases z
theorem XF.older {g g' h:Heap} {H:Hp} {e:Addr} {cls:Value} (x:XF g h H e cls) (k:∀ b o,g'.get? b=some o→∃ o',g.get? b=some o'):XF g' h H e cls:=by
 obtain ⟨oe,vs,a0,T,oT,ts,h1,h2,h3,h4,h5,h6,h7,h8,h9,h10,h11,h12⟩:=x
 exact ⟨oe,vs,a0,T,oT,ts,h1,h2,h3,h4,h5,h6,h7,h8,jM k h9,jM k h10,h11,h12⟩
section
variable {X:Cx} {pins:List (Addr × Obj)} {σ:St} {H:Hp} {s:Shared}
theorem Inv.stackFields (J:Inv X pins σ H s) {b:Addr} (hb:b∈frs X.stack):∃ o,s.heap.get? b=some o∧∀ vs,o.data≠.fields vs:=(J.stack.mem hb).2
theorem Inv.there0 (hex:X.ex=[]) (J:Inv X pins σ H s):∀ b o,X.s₀.heap.get? b=some o→∃ o',s.heap.get? b=some o':=fun b o e=>J.base.there b o e (by rw [hex];simp)
theorem Inv.behind {h2:Heap} {cs:List Addr} (hex:X.ex=[]) (J:Inv X pins σ H s) (hcs:∀ b∈cs,H b=none∧X.s₀.heap.get? b=none)
  (hB:∀ b o,s.heap.get? b=some o→b ∉ frs X.stack→b ∉ cs→h2.get? b=some o) (hF:∀ b o,s.heap.get? b=some o→b∈frs X.stack→∃ sl,h2.get? b=some { o with slots:=sl }) :
  Un X.fs [] X.H₀ H X.s₀.heap h2∧HOk X.prog X.w H h2:=by
 have B:Un X.fs [] X.H₀ H X.s₀.heap s.heap:=by have:=J.base;rw [hex] at this;exact this
 have nL:∀ b o,X.s₀.heap.get? b=some o→b≠X.env.locals:=fun b o e=>Nat.ne_of_lt (Nat.lt_of_lt_of_le (Heap.lt_size e) J.ok.above)
 have nC:∀ b o,X.s₀.heap.get? b=some o→b ∉ cs:=fun b o e z=>by rw [(hcs b z).2] at e;cases e
 have any:∀ b o,s.heap.get? b=some o→b ∉ cs→∃ sl,h2.get? b=some { o with slots:=sl }:=fun b o e n=>by
  by_cases hb:b∈frs X.stack
  ·exact hF b o e hb
  ·exact ⟨o.slots,hB b o e hb n⟩
 refine ⟨⟨fun b o e n h1 _=>?_,fun b o e n h1 _=>?_,B.free,fun b o e h1=>?_,B.tups,B.frzs,B.tbls⟩,fun b u e=>?_⟩
 ·refine hB b o (B.keep b o e n h1 (by simp)) (fun z=>?_) (nC b o e)
  rcases List.mem_cons.mp (J.stkSub b z) with q | q
  ·exact nL b o e q
  ·exact h1 q
 ·obtain ⟨sl,q⟩:=B.slot b o e n h1 (by simp)
  obtain ⟨sl',q'⟩:=any b _ q (nC b o e)
  exact ⟨sl',q'⟩
 ·obtain ⟨o',q⟩:=B.there b o e (by simp)
  obtain ⟨sl,q'⟩:=any b o' q (nC b o e)
  exact ⟨_,q'⟩
 ·refine (J.hok b u e).stay (fun c v hc q=>?_) (fun _ q=>q) fun _ _ q=>q
  have hn:H c≠none:=by
   rcases hc with rfl | hc
   ·rw [e];simp
   ·rw [hc];simp
  exact hB c v q (fun z=>hn (J.stkFree c z)) fun z=>hn (hcs c z).1
theorem Inv.flown {B h2:Heap} {cs:List Addr} {e:Addr} {cls a0:Value} (hex:X.ex=[]) (J:Inv X pins σ H s) (hcs:∀ b∈cs,H b=none∧X.s₀.heap.get? b=none)
  (hB:∀ b o,s.heap.get? b=some o→b ∉ frs X.stack→b ∉ cs→B.get? b=some o) (hF:∀ b o,s.heap.get? b=some o→b∈frs X.stack→∃ sl,h2.get? b=some { o with slots:=sl })
  (he:H e=none) (he0:X.s₀.heap.get? e=none) (kb:B.StaysIn h2) (tr:h2.TracedW B e cls a0) :
  Un X.fs [] X.H₀ H X.s₀.heap h2∧HOk X.prog X.w H h2∧XF X.s₀.heap h2 H e cls:=by
 have hk:=J.behind (h2:=h2) hex hcs (fun b o q n1 n2=>kb b o (hB b o q n1 n2)) hF
 refine ⟨hk.1,hk.2,?_⟩
 obtain ⟨oe,vs,T,oT,ts,h1,h2',h3,h4,h5,h6,h7,h8,h9⟩:=tr
 have noT:∀ o,s.heap.get? T=some o→T∈cs:=fun o q=>by
  by_cases hb:T∈frs X.stack
  ·obtain ⟨o',q',nf⟩:=J.stackFields hb
   obtain ⟨sl,z⟩:=hF T o' q' hb
   rw [h7] at z
   have z':oT={ o' with slots:=sl }:=Option.some.inj z
   exact absurd (by rw [← h8,z']) (nf ts)
  ·by_cases hc:T∈cs
   ·exact hc
   ·rw [hB T o q hb hc] at h5;cases h5
 refine ⟨oe,vs,a0,T,oT,ts,h1,h2',h3,h4,h6,h7,h8,h9,he0,?_,he,?_⟩
 ·cases q:X.s₀.heap.get? T with
  | none=>rfl
  | some o =>
   obtain ⟨o',q'⟩:=J.there0 hex T o q
   rw [(hcs T (noT o' q')).2] at q;cases q
 ·cases q:H T with
  | none=>rfl
  | some u =>
   obtain ⟨o,z⟩:=(J.hok T u q).there
   rw [(hcs T (noT o z)).1] at q;cases q
theorem Qk {h':Heap} {e:Addr} {cls:Value} {vs:List Value} {E:XK} {EE:Value→Shared→Prop} (hst:X.stack=X.env :: X.outer∧X.env.frame=some X.env.locals) (hex:X.ex=[]) (J:Inv X pins σ H s) (hx:Heap.MadeExcOf s.heap h' e cls vs) (hE:E cls none H) :
  wpAny (model X.prog X.w) X.A (leaving X.env (.ref e)) (fun _ s2=>CX1 X.prog X.w X.outer X.H₀ X.s₀ E (.ref e) s2) EE { s with heap:=h' }:=by
 have fr:s.heap.FunFrames (W.hideAll s.heap (frs X.stack)) (X.env :: X.outer):=by
  have q:=W.funFrames_hide (as:=frs X.stack) J.stack fun env he a ha=>List.mem_filterMap.mpr ⟨env,he,ha⟩
  rw [hst.1] at q ⊢
  exact q
 refine wpAny_leaves_madeW (s:={ s with heap:=h' }) (base:=W.hideAll s.heap (frs X.stack)) (h:=s.heap) (by rw [J.ok.frames,hst.1]) hst.2 (fun b o q=>W.of_hideAll _ q) fr hx fun h2 t hfl _ _ hup=>?_
 obtain ⟨f1,f2,f3,f4⟩:=hfl
 have hF:∀ b o,s.heap.get? b=some o→b∈frs X.stack→∃ sl,h2.get? b=some { o with slots:=sl }:=fun b o q hb=>by
  obtain ⟨o',q',nf⟩:=J.stackFields hb
  rw [q] at q';cases q'
  exact hup b o (hx.keeps b o q) nf
 obtain ⟨r1,r2,r3⟩:=J.flown (cs:=[]) hex (fun b z=>nomatch z) (fun b o q n _=>W.hideAll_get _ q n) hF
  (by
   cases q:H e with
   | none=>rfl
   | some u =>
    obtain ⟨o,z⟩:=(J.hok e u q).there
    rw [hx.new] at z;cases z)
  (jM (J.there0 hex) hx.new) f1 f4
 exact ⟨e,cls,H,rfl,J.os,J.bare,r1,r2,r3,hE⟩
theorem QY {e:Addr} {cls:Value} {E:XK} {EE:Value→Shared→Prop} (hst:X.stack=X.env :: X.outer∧X.env.frame=some X.env.locals) (hex:X.ex=[]) (J:Inv X pins σ H s) (xf:XF X.s₀.heap s.heap H e cls) (hE:E cls none H) :
  wpAny (model X.prog X.w) X.A (leaving X.env (.ref e)) (fun _ s2=>CX1 X.prog X.w X.outer X.H₀ X.s₀ E (.ref e) s2) EE s:=by
 obtain ⟨oe,vs,a0,T,oT,ts,h1,h2,h3,h4,h5,h6,h7,h8,h9,h10,h11,h12⟩:=id xf
 have fr:s.heap.FunFrames (W.hideAll s.heap (frs X.stack ++ [e,T])) (X.env :: X.outer):=by
  have q:=W.funFrames_hide (as:=frs X.stack ++ [e,T]) J.stack fun env he a ha=>List.mem_append_left _ (List.mem_filterMap.mpr ⟨env,he,ha⟩)
  rw [hst.1] at q ⊢
  exact q
 refine wpAny_leaves_onW (base:=W.hideAll s.heap (frs X.stack ++ [e,T])) (a0:=a0) (by rw [J.ok.frames,hst.1]) hst.2
  ⟨fun b o q=>W.of_hideAll _ q,W.hideAll_none _ (List.mem_append_right _ (by simp)),fr,oe,vs,T,oT,ts,h1,h2,h3,h4,W.hideAll_none _ (List.mem_append_right _ (by simp)),h5,h6,h7,h8⟩ fun h2' hfl hup=>?_
 obtain ⟨f1,f2,f3,f4⟩:=hfl
 have hF:∀ b o,s.heap.get? b=some o→b∈frs X.stack→∃ sl,h2'.get? b=some { o with slots:=sl }:=fun b o q hb=>by
  obtain ⟨o',q',nf⟩:=J.stackFields hb
  rw [q] at q';cases q'
  exact hup b o q nf
 obtain ⟨r1,r2,r3⟩:=J.flown (cs:=[e,T]) hex (fun b z=>by
   have z':b=e∨b=T:=by simpa using z
   rcases z' with rfl | rfl
   ·exact ⟨h11,h9⟩
   ·exact ⟨h12,h10⟩) (fun b o q n n2=>W.hideAll_get _ q fun z=>(List.mem_append.mp z).elim n n2) hF h11 h9 f1 f4
 exact ⟨e,cls,H,rfl,J.os,J.bare,r1,r2,r3,hE⟩
end
def QZ (X:Cx) (E:XK):Prop:=∀ (pins:List (Addr × Obj)) (σ:St) (H:Hp) (s:Shared) (h':Heap) (e:Addr) (cls:Value) (vs:List Value),Inv X pins σ H s→Heap.MadeExcOf s.heap h' e cls vs→E cls none H→X.xe (.ref e) { s with heap:=h' }
section
variable {P:Program} {w:World} {K:W.Frag} {mg:Str→Option Value} {base:Heap} {N:List Str} {qual:Str} {scope:Scope} {f:Addr} {cd:Value} {A:Around} {outer:List Env} {s₀:Shared} {H₀:Hp} {E:XK}
theorem xk:kM (CX1 P w) (kH (CX1 P w) P w K mg base N qual scope f cd A outer s₀ H₀ E) E:=by
 intro pins σ H s ev s' I hcx
 obtain ⟨e,cls,H',rfl,os,bare,un,hok,xf,hE⟩:=hcx
 have J:=I.call' (ch:=[]) os un hok bare (fun b z=>nomatch z)
 exact QY (X:=kH (CX1 P w) P w K mg base N qual scope f cd A outer s₀ H₀ E) ⟨rfl,rfl⟩ rfl J (xf.older (I.there0 rfl)) hE
theorem Ks:QZ (kH (CX1 P w) P w K mg base N qual scope f cd A outer s₀ H₀ E) E:=by
 intro pins σ H s h' e cls vs I hx hE
 exact Qk (X:=kH (CX1 P w) P w K mg base N qual scope f cd A outer s₀ H₀ E) ⟨rfl,rfl⟩ rfl I hx hE
theorem zdp:PassesOwn (model P w) (kH (CX1 P w) P w K mg base N qual scope f cd A outer s₀ H₀ E).A (kH (CX1 P w) P w K mg base N qual scope f cd A outer s₀ H₀ E).env (kH (CX1 P w) P w K mg base N qual scope f cd A outer s₀ H₀ E).xe:=PassesOwn.leaving
end
abbrev Vw:List Value:=[.type "ValueError",.type "Exception",.type "BaseException",.type "object"]
abbrev ZI:String:="ValueError.__new__"
def YN (C:Addr) (ta:TA) (E:XK):TS:=fun _ σ H=>ta σ H fun vs H1=>vs.length≤sizeLine∧E (.ref C) none H1
theorem zbi {K:W.Frag} {h:Heap} {C:Addr} {bmB:List Value} {newId:String} (X:K.In h) (q:W.excIn K C bmB newId=true) :
  ∃ bm N nm qn bs hdct sn sub ab col dd k0 k1 k2 k3 k5 mN,h.get? C=some (excClassObj nm qn C N bs bm hdct sn sub ab col dd k0 k1 k2 k3 k5 newId)∧h.Ns N mN∧mN "__init__"=none∧OwnTail h bmB bm:=by
 unfold W.excIn at q
 split at q
 case h_2=>cases q
 rename_i dd cd sl ho
 split at q
 case h_2=>cases q
 rename_i C' bm k0 k1 k2 k3 n k5 hm hs
 rw [Bool.and_eq_true,Bool.and_eq_true,Bool.and_eq_true,Bool.and_eq_true,Bool.and_eq_true] at q
 obtain ⟨⟨⟨⟨⟨q1,q2⟩,q3⟩,q4⟩,q5⟩,q6⟩:=q
 obtain rfl:C'=C:=by simpa using q1
 obtain rfl:n=newId:=by simpa using q2
 obtain ⟨nm,bs,mro,ns,qn,hd,sn,sub,ab,col,del⟩:=cd
 have hdel:del=false:=by simpa using q3
 have hm':mro=.ref C' :: bm:=hm
 subst hdel hm'
 have hsl:sl=#[k0,k1,k2,k3,some (.builtin n),k5]:=by
  apply Array.ext'
  exact hs
 subst hsl
 exact ⟨bm,ns,nm,qn,bs,hd,sn,sub,ab,col,dd,k0,k1,k2,k3,k5,_,X _ _ ho,.of_isNs (W.isNs_of_in X q5),W.nsMap_none_of_in X q5 (by simpa using q6),W.tail_of_in X q4⟩
section
variable {X:Cx} {x:Str} {C:Addr} {np cpos pos:Pos} {e₀:Expr} {rest:List Expr} {ta:TA} {E:XK}
theorem Vx (hc:X.calm=true) (q:W.excIn X.K C Vw ZI=true) (hr:QZ X E) (hg:Gl X x) (hm:X.mg x=some (.ref C)) (ha:PA X (e₀ :: rest) ta)
  (he:starEach (e₀ :: rest) X.env=(false,eval e₀ X.env) :: starEach rest X.env:=by rfl) (hp:(backTo cpos (starEach rest X.env)).any (·.1)=false:=by rfl) (hd:(x == ("__debug__":Str))=false:=by decide) :
  PS X (.Raise (some (.Call (.Name x np) (e₀ :: rest) [] cpos)) none pos) (YN C ta E):=by
 intro pins s σ H D I h
 obtain ⟨tl,N,nm,qn,bs,hdct,sn,sub,ab,col,dd,k0,k1,k2,k3,k5,mN,hC,hN,hni,T⟩:=zbi I.ok.mod.kin q
 refine wpAny_Raise_call_subT (C:=C) (nm:=nm) (q:=qn) (N:=N) (bs:=bs) (bm:=tl) (hdct:=hdct) (sn:=sn) (sub:=sub) (ab:=ab) (col:=col) (dd:=dd) (k0:=k0) (k1:=k1) (k2:=k2) (k3:=k3) (k5:=k5) (newId:=ZI)
  PySem.F.excBase_ValueError (mN:=mN) (T.hasType PySem.F.excBase_ValueError.hasBase) (I.ok.hd hc) (by rw [he];exact hp) hni (vD I hg hm ⟨rfl,?_⟩ hd)
 have hA:=ha cpos pins s σ H _ I h
 rw [he] at hA ⊢
 refine Calls.evalArgs_plain (thn hA fun us s2 ⟨vs,H2,I2,r2,z2,q2⟩=>?_)
 exact ⟨rfl,by rw [← r2.length];exact z2,I2.bk _ _ hC,hN.keeps I2.bk,T.keeps I2.bk,fun h' e hm=>hr pins σ H2 s2 h' e _ _ I2 hm q2⟩
end
def Asc (x:Str):Prop:=∀ c∈x.cps.toList,c < 128
section
variable {X:Cx} {e:Expr} {te:TE} {a:Str} {j:Nat} {p1 p2 p3:Pos}
def zee (te:TE):TE:=fun σ H Q=>te σ H fun v H1=>∃ x:Str,v=.str x∧x.length≤100000∧Asc x∧∀ y:Str,Q (.str y) H1
def Vy (te:TE):TE:=fun σ H Q=>te σ H fun v H1=>∃ x:Str,v=.str x∧x.length≤100000∧∀ y:Str,Q (.str y) H1
theorem Kt (he:PE X e te) (hl:a.length≤1000:=by decide +kernel):PE X (.JoinedStr [.FormattedValue e (-1) none p2,.Constant (.str a) j p1] p3) (Vy te):=by
 intro pins s σ H Q I h
 refine wpAny_JoinedStr ?_
 show wpAny _ _ (eval (.FormattedValue e (-1) none p2) X.env) _ _ s
 refine wpAny_FormattedValue_plain (thn (he pins _ σ H _ I h) fun v s1 ⟨x,H1,I1,r1,z,ex,hz,q⟩=>?_)
 subst ex
 obtain ⟨t,rfl⟩:=r1
 have hs:sizeLine=16777216:=sizeLine_eq
 have e0:(Str.empty ++ z).length=z.length:=by rw [Str.length_append];simp [Str.empty,Str.length]
 have fin:∀ (t':Tok) (tk:Nat),∃ y u,Value.str z t'=Value.str y u∧(Str.empty ++ y).length≤sizeLine∧Joins (model X.prog X.w) X.A X.xe (evalEach [.Constant (.str a) j p1] X.env) (Str.empty ++ y) (fun out s₁=>out.length≤sizeLine∧EP X pins σ Q (.str out s₁.toks) { s₁ with toks:=s₁.toks + 1 }) { s1 with toks:=tk }:=fun t' tk=>by
  refine ⟨_,_,rfl,by rw [e0];lia,?_⟩
  show wpAny _ _ (eval (.Constant (.str a) j p1) X.env) _ _ _
  have hz2:(Str.empty ++ z ++ a).length≤sizeLine:=by rw [Str.length_append,e0];lia
  refine Calls.Constant_str ⟨a,_,rfl,hz2,hz2,.str _,H1,I1.tok _,⟨_,rfl⟩,q _⟩
 exact wpAny_formatField_str (fin _ _) (fin _ _) (by lia)
end
end L2
namespace L2
open PySem PySem.Spec PyProof.Rows
structure ExC (K:W.Frag) (C:Addr):Prop where
 ga:W.findIn K (.ref C) "__getattribute__"=some (some (.builtin "BaseException.__getattribute__"))
 gx:W.findIn K (.ref C) "__getattr__"=some none
 cl:W.findIn K (.ref C) "__class__"=some (some (.builtin "object.__class__"))
 ob:W.mroIn K C (.type "object")=some true
 be:W.mroIn K C (.type "BaseException")=some true
 ge:W.specialIn K (.builtin "object.__class__") "__get__"=some (some (.builtin "getset_descriptor.__get__"))
 tk:W.takesIn K (.builtin "object.__class__")=some true
section
variable {prog:Program} {w:World} {A:Around} {E:Value→Shared→Prop} {K:W.Frag} {e C:Addr} {s:Shared}
open PySem.Builtin PySem.Builtin.Getset_descriptor in
end
end L2
namespace L2
open PySem PySem.Spec PyProof.Rows
section
variable {X:Cx} {pins:List (Addr × Obj)} {σ:St} {H:Hp} {s:Shared}
theorem Inv.land {h2:Heap} {cs:List Addr} (hex:X.ex=[]) (I:Inv X pins σ H s) (hcs:∀ b∈cs,H b=none∧X.s₀.heap.get? b=none) (hcp:∀ b∈cs,∀ p∈X.pn ++ pins,p.1≠b)
  (hB:∀ b o,s.heap.get? b=some o→b ∉ frs X.stack→b ∉ cs→h2.get? b=some o) (sm:s.heap.UpToSlots h2):Inv X pins σ H { s with heap:=h2 }:=by
 have hF:∀ b o,s.heap.get? b=some o→b∈frs X.stack→∃ sl,h2.get? b=some { o with slots:=sl }:=fun b o q hb=>by
  obtain ⟨o',q',nf⟩:=I.stackFields hb
  rw [q] at q';cases q'
  exact sm b o q nf
 obtain ⟨r1,r2⟩:=I.behind hex hcs hB hF
 have ce:∀ c v,s.heap.IsCell c v→h2.IsCell c v:=fun c v ⟨o,ho,hd⟩=>by
  obtain ⟨sl,q⟩:=sm c o ho fun vs z=>by rw [hd] at z;cases z
  exact ⟨_,q,hd⟩
 refine ⟨I.ok,I.os,I.bare,by rw [hex];exact r1,?_,fun x c e=>?_,I.free,I.freeC,fun p hp=>?_,r2,I.len⟩
 ·obtain ⟨m,hn,hl⟩:=I.loc
  refine ⟨m,sm.ns hn,fun i x v e1 e2 e3=>?_⟩
  obtain ⟨u,r,l⟩:=hl i x v e1 e2 e3
  refine ⟨u,r,?_⟩
  rcases l with l | ⟨k,c,e,z⟩
  ·exact .inl l
  ·exact .inr ⟨k,c,e,ce c _ z⟩
 ·obtain ⟨v,z⟩:=I.cell x c e
  exact ⟨v,ce c v z⟩
 ·obtain ⟨e,n,ne,nf,d⟩:=I.pin p hp
  exact ⟨hB _ _ e (fun z=>(List.mem_cons.mp (I.stkSub _ z)).elim ne nf) fun z=>hcp _ z p hp rfl,n,ne,nf,d⟩
end
def exO (e C:Addr):HO:=.ext fun h=>∃ o,h.get? e=some o∧o.cls=.ref C
abbrev Cx.sub (X:Cx) (e:Addr):Cx:={ X with A:=X.A.mark (some (.ref e)),calm:=false,xe:=fun _ _=>False }
section
variable {X:Cx} {pins:List (Addr × Obj)} {σ:St} {H:Hp} {s:Shared} {e:Addr}
theorem Inv.toSub (I:Inv X pins σ H s):Inv (X.sub e) pins σ H s :=
 ⟨⟨I.ok.mod,I.ok.kind,I.ok.glob,I.ok.blt,I.ok.above,I.ok.inj,I.ok.has,I.ok.cab,(fun z=>nomatch z),I.ok.frames,I.ok.stk,I.ok.exf,I.ok.bs,I.ok.bsz,I.ok.noex,I.ok.exfs,I.ok.funs,I.ok.frf⟩,I.os,I.bare,I.base,I.loc,I.cell,I.free,I.freeC,I.pin,I.hok,I.len⟩
theorem Inv.ofSub {J:Inv X pins σ H s} {σ':St} {H':Hp} {s':Shared} (I:Inv (X.sub e) pins σ' H' s'):Inv X pins σ' H' s' :=
 ⟨J.ok,I.os,I.bare,I.base,I.loc,I.cell,I.free,I.freeC,I.pin,I.hok,I.len⟩
end
abbrev EXK:=Value→St→Hp→Prop
def PX (X:Cx) (pins:List (Addr × Obj)) (EX:EXK):Value→Shared→Prop:=fun ev s'=>∃ e cls σ s1 H1 H',ev=.ref e∧Inv X pins σ H1 s1∧Inv X pins σ H' s'∧XF s1.heap s'.heap H' e cls∧EX cls σ H'
def PEX (X:Cx) (ex:Expr) (t:EXK→TE):Prop :=
 ∀ (pins:List (Addr × Obj)) (s:Shared) (σ:St) (H:Hp) (Q:VK) (EX:EXK),Inv X pins σ H s→t EX σ H Q→wpAny (model X.prog X.w) X.A (eval ex X.env) (EP X pins σ Q) (PX X pins EX) s
def PSX (X:Cx) (st:Stmt) (t:EXK→TS):Prop :=
 ∀ (pins:List (Addr × Obj)) (s:Shared) (σ:St) (H:Hp) (D:ZE) (EX:EXK),Inv X pins σ H s→t EX D σ H→wpAny (model X.prog X.w) X.A (exec st X.env) (SP X pins D) (PX X pins EX) s
section
variable {X:Cx} {k:Nat} {f:Addr} {fd:FuncData} {ps:List Str} {sp:Sp} {x:Str} {p pos:Pos} {e:Expr} {es:List Expr} {t:TA}
def zdS (sp:Sp) (ta:TA) (EX:EXK):TE:=fun σ H Q=>ta σ H fun vs H1=>sp (vs ++ []) H1 Q fun cls _ H2=>EX cls σ H2
end
section
variable {X:Cx} {ex:Expr} {tx:EXK→TE} {pos p1:Pos} {i:Nat} {y:Str}
def zdT (tx:EXK→TE) (EX:EXK):TS:=fun D σ H=>tx EX σ H fun _ H1=>D.nx σ H1
def zef (tx:EXK→TE) (EX:EXK):TS:=fun D σ H=>tx EX σ H D.rt
def YO (tx:EXK→TE) (i:Nat) (EX:EXK):TS:=fun D σ H=>tx EX σ H fun v H1=>D.nx (σ.set i (some v)) H1
theorem Ku {pos':Pos} (hN:X.N.Nodup) (hi:X.N[i]?=some y) (hx:Loc X.env.scope y) (he:PEX X ex tx) (hs:swapsWith ex (some (.Name y pos')) pos.line X.env=pure false:=by rfl) (hf:X.fn y=true∨X.env.scope.names.lookup y=some .local:=by first | exact .inl rfl | exact .inr rfl | assumption) :
  PSX X (.Assign [.Name y pos'] ex pos) (YO tx i):=by
 intro pins s σ H D EX I h
 refine wpAny_Assign_Name (thn (he pins s σ H _ EX I h) fun v s1 ⟨x,H1,I1,r1,q1⟩=>?_) hs
 exact Ys I1 hN hi hx r1 (fun s2 I2=>⟨_,H1,I2,q1⟩) hf
end
structure ExK (K:W.Frag) (C:Addr):Prop extends ExC K C where
 has:(W.clsIn K C).isSome=true
def zdU (i:Nat) (D:ZE):ZE:={ nx:=fun σ H=>D.nx (σ.set i none) H,rt:=D.rt,bk:=fun σ H=>D.bk (σ.set i none) H,ct:=fun σ H=>D.ct (σ.set i none) H }
def zeH (K:W.Frag) (tb:EXK→TS) (C0:Addr) (i:Nat) (th:TS):TS:=fun D σ H=>tb (fun cls σ1 H1=>∃ C,cls=.ref C∧ExK K C∧W.exmOne K (.ref C) (.ref C0)=some true ∧
 ∀ e,H1 e=none→th (zdU i D) (σ1.set i (some (.ref e))) (upd H1 e (exO e C))) D σ H
section
variable {X:Cx} {st b₀:Stmt} {suite:List Stmt} {tb:EXK→TS} {th:TS} {c n:Str} {C0:Addr} {i:Nat} {np hpos pos:Pos}
end
end L2
namespace L2
open PySem PySem.Spec PyProof.Rows
def zdV:V→Option Value
 | .ty T=>some (.type T)
 | .ref D=>some (.ref D)
 | _=>none
abbrev zeI (K:W.Frag):RC:=fun xs H Q=>∃ a C c cv b,xs=[.ref a,c]∧H a=some (exO a C)∧ExK K C∧zdV c=some cv∧W.kitOne K (.ref C) cv=some b∧Q (.bl b) H
abbrev zeg (K:W.Frag):RC:=fun xs H Q=>∃ a C p,∃ cs:List Addr,∃ b,xs=[.ref a,.ref p]∧H a=some (exO a C)∧ExK K C∧H p=some (.tup (cs.map V.ref))∧W.kitAny K (.ref C) (cs.map Value.ref)=some b∧Q (.bl b) H
section
variable {X:Cx}
end
theorem zw {P:Program} {w:World} {X:Cx}:kM (CX1 P w) X E0:=fun _ _ _ _ _ _ _ h=>by
 obtain ⟨_,_,_,_,_,_,_,_,_,z⟩:=h
 exact z.elim
section
variable {P:Program} {w:World} {K:W.Frag} {mg:Str→Option Value} {base:Heap}
theorem Fun.ok1 {x qual:Str} {st:Stmt} {f:Addr} {fd:FuncData} {N ps:List Str} {k:Nat} {sp:Sp} (F:Fun K x qual st f fd) (S:zC N ps (zh st)) (len:∀ vs H Q E,sp vs H Q E→vs.length=ps.length)
  (hbody:∀ (cdv:Value) (A:Around) (outer:List Env) (s:Shared) (H:Hp) (vs:List V) (Q:VK) (E:XK),Room k (A.deeper (envOfC qual (zh st) s.heap.objs.size f cdv))→sp vs H Q E →
   ∃ t,PSs (kH (CX1 P w) P w K mg base N qual (zh st) f cdv A outer s H E) (zB st) t∧t { nx:=fun _ H'=>Q .non H',rt:=Q } (start N vs) H):FnOk P w K mg base (CX1 P w) (k + 1) f fd ps sp:=by
 obtain ⟨oc,od,kV,doc,pm,an,cdv,ct,osl,rfl,lk,hcd⟩:=F.ex
 exact zb9 lk hcd S len fun A outer s H vs Q E hr hsp=>hbody cdv A outer s H vs Q E hr hsp
theorem Fun.ok0 {x qual:Str} {st:Stmt} {f:Addr} {fd:FuncData} {N ps:List Str} {k:Nat} {sp:Sp} (F:Fun K x qual st f fd) (S:zC N ps (zh st)) (len:∀ vs H Q E,sp vs H Q E→vs.length=ps.length)
  (hbody:∀ (cdv:Value) (A:Around) (outer:List Env) (s:Shared) (H:Hp) (vs:List V) (Q:VK) (E:XK),Room k (A.deeper (envOfC qual (zh st) s.heap.objs.size f cdv))→sp vs H Q E →
   ∃ t,PSs (kH (CX1 P w) P w K mg base N qual (zh st) f cdv A outer s H E).nox (zB st) t∧t { nx:=fun _ H'=>Q .non H',rt:=Q } (start N vs) H):FnOk P w K mg base (CX1 P w) (k + 1) f fd ps sp :=
 F.ok1 S len fun cdv A outer s H vs Q E hr h=>let ⟨t,a,b⟩:=hbody cdv A outer s H vs Q E hr h;⟨t,a.nox,b⟩
end
theorem walk_ofX {l:W.OpenLaw} {n k:Nat} {q:Program} {loose:List Str} {XP:(Str→Option Value)→Heap→Prop} {YP:World→Heap→Prop} {d:DefRec} {K:Params→W.Frag} {sp:W.Frag→Sp} {x:Str}
  (hn:l.most=some n) (hn2:n≤sizeLine) (hdf:d.params.defaults=[]) (hr:Room k callerA)
  (hY:∀ (w:World) (h:Heap),YP w h→(K w.params).In h)
  (F:∀ (w:World) (mg:Str→Option Value) (fa:Addr) (h:Heap),(K w.params).In h→h.Ns mainGlobals mg→mg d.name=some (.ref fa) →
   ∃ fd:FuncData,(∀ (s:Shared) (u:Value),BindsTo s fd ⟨[u],[]⟩ [(x,u)]) ∧
    ∀ base:Heap,(K w.params).In base→base.Ns mainGlobals mg→FnOk l.prog w (K w.params) mg base (CX1 l.prog w) k fa fd [x] (sp (K w.params)))
  (hsp:∀ (K:W.Frag) (H:Hp) (a:Addr) (ns:List Int),ns.length≤n→JH H→SqL K H a (ns.map V.int)→sp K [.ref a] H (fun v _=>v=.bl true) fun _ _ _=>False) :
  W.WalkO q loose XP YP l.row.toRowW d [] (fun f vs=>PySem.call f vs) :=
 Km (K:=K) (CX:=fun w=>CX1 l.prog w) (sp:=fun w=>sp (K w.params)) hn hn2 hdf hr hY F (fun w H a ns h1 h2 h3=>hsp (K w.params) H a ns h1 h2 h3) fun _ _ _ _ _ z=>by
  obtain ⟨_,_,_,_,_,_,_,_,_,y⟩:=z
  exact y
end L2
namespace L2
open PySem
section
variable {σ:St} {H:Hp} {nx:St→Hp→Prop} {B:V→St→Hp→(St→Hp→Prop)→Prop}
theorem qS {lo:Int} {n:Nat} (Pv:Nat→St→Hp→Prop) (h0:Pv 0 σ H) (hs:∀ i σ H,i < n→Pv i σ H→B (.int (lo + i)) σ H (Pv (i + 1))) (hd:∀ σ H,Pv n σ H→nx σ H) :
  ∃ W:Nat→Nat→St→Hp→Prop,(∃ m,W 0 m σ H)∧∀ i m σ H,W i m σ H→((Itr lo n).stop i H∧nx σ H)∨((Itr lo n).go i H∧∃ N:St→Hp→Prop,(∀ σ' H',N σ' H'→∃ m',m' < m∧W (i + 1) m' σ' H')∧∀ x H',(Itr lo n).yld i H x H'→B x σ H' N):=by
 refine ⟨fun i m σ H=>m=n - i∧i≤n∧Pv i σ H,⟨n,by simp,Nat.zero_le _,h0⟩,?_⟩
 rintro i m σ H ⟨rfl,hi,p⟩
 by_cases hlt:i < n
 ·refine .inr ⟨hlt,Pv (i + 1),fun σ' H' p'=>⟨n - (i + 1),by lia,rfl,hlt,p'⟩,?_⟩
  rintro x H' ⟨rfl,rfl⟩
  exact hs i σ _ hlt p
 ·obtain rfl:i=n:=by lia
  exact .inl ⟨Nat.le_refl _,hd σ H p⟩
theorem vL {K:W.Frag} {a:Addr} (xs:List V) (Pv:Nat→St→Hp→Prop) (h0:Pv 0 σ H) (hl:∀ i σ H,Pv i σ H→SqL K H a xs) (hs:∀ i x σ H,xs[i]?=some x→Pv i σ H→B x σ H (Pv (i + 1))) (hd:∀ σ H,Pv xs.length σ H→nx σ H) :
  ∃ W:Nat→Nat→St→Hp→Prop,(∃ m,W 0 m σ H)∧∀ i m σ H,W i m σ H→((Itl K a).stop i H∧nx σ H)∨((Itl K a).go i H∧∃ N:St→Hp→Prop,(∀ σ' H',N σ' H'→∃ m',m' < m∧W (i + 1) m' σ' H')∧∀ x H',(Itl K a).yld i H x H'→B x σ H' N):=by
 refine ⟨fun i m σ H=>m=xs.length - i∧i≤xs.length∧Pv i σ H,⟨xs.length,by simp,Nat.zero_le _,h0⟩,?_⟩
 rintro i m σ H ⟨rfl,hi,p⟩
 have q:=hl i σ H p
 by_cases hlt:i < xs.length
 ·refine .inr ⟨⟨xs,xs[i],q,by simp [hlt]⟩,Pv (i + 1),fun σ' H' p'=>⟨xs.length - (i + 1),by lia,rfl,hlt,p'⟩,?_⟩
  rintro x H' ⟨rfl,y⟩
  exact hs i x σ _ (y xs q) p
 ·obtain rfl:i=xs.length:=by lia
  exact .inl ⟨⟨xs,q,Nat.le_refl _⟩,hd σ H p⟩
theorem Q0 {K:W.Frag} {a:Addr} (xs:List V) (Pv:Nat→St→Hp→Prop) (h0:Pv 0 σ H) (hl:∀ i σ H,Pv i σ H→SqT K H a xs) (hs:∀ i x σ H,xs[i]?=some x→Pv i σ H→B x σ H (Pv (i + 1))) (hd:∀ σ H,Pv xs.length σ H→nx σ H) :
  ∃ W:Nat→Nat→St→Hp→Prop,(∃ m,W 0 m σ H)∧∀ i m σ H,W i m σ H→((Itt K a).stop i H∧nx σ H)∨((Itt K a).go i H∧∃ N:St→Hp→Prop,(∀ σ' H',N σ' H'→∃ m',m' < m∧W (i + 1) m' σ' H')∧∀ x H',(Itt K a).yld i H x H'→B x σ H' N):=by
 refine ⟨fun i m σ H=>m=xs.length - i∧i≤xs.length∧Pv i σ H,⟨xs.length,by simp,Nat.zero_le _,h0⟩,?_⟩
 rintro i m σ H ⟨rfl,hi,p⟩
 have q:=hl i σ H p
 by_cases hlt:i < xs.length
 ·refine .inr ⟨⟨xs,xs[i],q,by simp [hlt]⟩,Pv (i + 1),fun σ' H' p'=>⟨xs.length - (i + 1),by lia,rfl,hlt,p'⟩,?_⟩
  rintro x H' ⟨rfl,y⟩
  exact hs i x σ _ (y xs q) p
 ·obtain rfl:i=xs.length:=by lia
  exact .inl ⟨⟨xs,q,Nat.le_refl _⟩,hd σ H p⟩
end
theorem Q1 {J:It} {D:Addr} {τ₀:St} {H1:Hp} {Q:Hp→Prop} {B:V→St→Hp→(V→St→Hp→Prop)→(St→Hp→Prop)→Prop} (n:Nat) (hn:n≤1000000) (C:St→Prop) (R:Nat→V→Prop) (hC:C τ₀)
  (go:∀ i H,Same H1 H→i < n→J.go i H) (stop:∀ H,Same H1 H→J.stop n H) (hD:H1 D=none)
  (hs:∀ i x τ H H',C τ→Same H1 H→i < n→J.yld i H x H'→B x τ H' (fun v τ' H4=>C τ'∧R i v∧Same H H4) (fun _ _=>False))
  (hd:∀ ys H,ys.length=n→(∀ i v,ys[i]?=some v→R i v)→Same H1 H→H D=some (.lst ys)→Q H) :
  ∃ W:Nat→Nat→List V→St→Hp→Prop,(∃ m,W 0 m [] τ₀ (upd H1 D (.lst [])))∧∀ i m ys τ H,W i m ys τ H→H D=some (.lst ys) ∧
  ((J.stop i H∧Q H)∨(J.go i H∧ys.length < sizeLine∧∃ N:V→St→Hp→Prop,
   (∀ v τ' H',N v τ' H'→H' D=some (.lst ys)∧∃ m',m' < m∧W (i + 1) m' (ys ++ [v]) τ' (upd H' D (.lst (ys ++ [v]))))∧∃ Nf:St→Hp→Prop,(∀ τ' H',Nf τ' H'→∃ m',m' < m∧W (i + 1) m' ys τ' H') ∧
   ∀ x H',J.yld i H x H'→B x τ H' N Nf)):=by
 have ext:∀ {H:Hp} {o:HO},Same H1 H→Same H1 (upd H D o):=fun {H o} h b u e=>by
  rw [zk (zJ e hD)];exact h b u e
 refine ⟨fun i m ys τ H=>m=n - i∧i≤n∧ys.length=i∧(∀ j v,ys[j]?=some v→R j v)∧Same H1 H∧H D=some (.lst ys)∧C τ,⟨n,by simp,Nat.zero_le _,rfl,by simp,ext (Same.refl _),zd,hC⟩,?_⟩
 rintro i m ys τ H ⟨rfl,hi,hl,hR,hS,hy,hc⟩
 refine ⟨hy,?_⟩
 by_cases hlt:i < n
 ·refine .inr ⟨go i H hS hlt,Nat.lt_of_le_of_lt (by lia:ys.length≤1000000) (by decide),(fun v τ' H4=>C τ'∧R i v∧Same H H4),?_,(fun _ _=>False),fun _ _ z=>z.elim,fun x H' y=>hs i x τ H H' hc hS hlt y⟩
  rintro v τ' H4 ⟨c4,r4,s4⟩
  refine ⟨s4 _ _ hy,n - (i + 1),by lia,rfl,hlt,by simp [hl],fun j u hj=>?_,ext (hS.trans s4),zd,c4⟩
  rcases Nat.lt_trichotomy j ys.length with h | h | h
  ·exact hR j u (by rwa [List.getElem?_append_left h] at hj)
  ·subst h
   simp at hj
   subst hj
   rw [hl];exact r4
  ·rw [List.getElem?_eq_none (by simp;lia)] at hj;cases hj
 ·obtain rfl:i=n:=by lia
  exact .inl ⟨stop H hS,hd ys H hl hR hS hy⟩
theorem WE (n d:Nat) (v:Int):max (0:Int) (min (if v < 0 then v + n else v) n)=((HT.sIx n d (some v):Nat):Int):=by
 show _=(((if v < 0 then (v + (n:Int)).toNat else min v.toNat n):Nat):Int)
 by_cases hv:v < 0
 ·simp only [if_pos hv];lia
 ·simp only [if_neg hv];lia
theorem zbj (a b:Nat):sliceRange (a:Int) (b:Int) 1=(List.range (b - a)).map fun k=>a + k:=by
 simp only [sliceRange,show ((1:Int) > 0)=True from by simp,if_true]
 by_cases hlt:(a:Int) < b
 ·have e3:(((b:Int) - a + 1 - 1) / 1).toNat=b - a:=by rw [Int.ediv_one];lia
  simp only [hlt,if_true,e3]
  refine List.map_congr_left fun k _=>?_
  lia
 ·have:b - a=0:=by lia
  simp [hlt,this]
theorem Q2 (lo hi:Option Int) (n:Nat):Builtin.Str.strSliceIndices lo hi 1 n=(List.range (HT.sIx n n hi - HT.sIx n 0 lo)).map fun k=>HT.sIx n 0 lo + k:=by
 rw [← zbj]
 unfold Builtin.Str.strSliceIndices
 simp only [show ((1:Int) > 0)=True from by simp,if_true]
 cases lo with
 | none =>
  cases hi with
  | none=>rfl
  | some v=>simp only [WE n n v];rfl
 | some u =>
  cases hi with
  | none=>simp only [WE n 0 u];rfl
  | some v=>simp only [WE n n v,WE n 0 u]
theorem X6 (x:Str) (lo hi:Option Int):(Txt.slice x lo hi).cps.toList=(x.cps.toList.drop (HT.sIx x.length 0 lo)).take (HT.sIx x.length x.length hi - HT.sIx x.length 0 lo):=by
 have hb:=HT.sIx_le x.length x.length (Nat.le_refl _) hi
 have hn:x.cps.toList.length=x.length:=by simp [Str.length]
 unfold Txt.slice
 rw [Q2]
 split
 ·rename_i h
  have h':HT.sIx x.length x.length hi - HT.sIx x.length 0 lo=x.length:=by simpa using h
  have e0:HT.sIx x.length 0 lo=0∨x.length=0:=by lia
  rcases e0 with e0 | e0
  ·rw [e0,List.drop_zero,List.take_of_length_le]
   lia
  ·rw [List.eq_nil_of_length_eq_zero (by lia:x.cps.toList.length=0)];simp
 ·by_cases hab:HT.sIx x.length 0 lo≤HT.sIx x.length x.length hi
  ·have h:=StrLaws.picks x.cps.toList (HT.sIx x.length x.length hi - HT.sIx x.length 0 lo) (HT.sIx x.length 0 lo) (by lia)
   simpa using h
  ·have:HT.sIx x.length x.length hi - HT.sIx x.length 0 lo=0:=by lia
   rw [this];simp
theorem YQ (x:Str) (k:Nat):(Txt.slice x (some (k:Int)) none).cps.toList=x.cps.toList.drop k:=by
 rw [X6,HT.sIx_none,HT.sIx_nat]
 have hn:x.cps.toList.length=x.length:=by simp [Str.length]
 by_cases h:k≤x.length
 ·rw [Nat.min_eq_left h,List.take_of_length_le (by rw [List.length_drop];lia)]
 ·rw [List.drop_eq_nil_of_le (by lia:x.cps.toList.length≤k),Nat.min_eq_right (by lia),List.drop_eq_nil_of_le (by lia)];simp
theorem Vz (x:Str) (k:Nat):(Txt.slice x none (some (k:Int))).cps.toList=x.cps.toList.take k:=by
 rw [X6,HT.sIx_none,HT.sIx_nat,List.drop_zero,Nat.sub_zero]
 have hn:x.cps.toList.length=x.length:=by simp [Str.length]
 by_cases h:k≤x.length
 ·rw [Nat.min_eq_left h]
 ·rw [Nat.min_eq_right (by lia),List.take_of_length_le (by lia),List.take_of_length_le (by lia)]
theorem zbk {x y:Str} (h:x.cps.toList=y.cps.toList):x=y:=by
 obtain ⟨a⟩:=x
 obtain ⟨b⟩:=y
 have:a=b:=Array.toList_inj.mp h
 rw [this]
theorem zbl (x y:Str):(x ++ y).cps.toList=x.cps.toList ++ y.cps.toList:=by
 show (x.cps ++ y.cps).toList=_
 simp
open PySem.NumText in
section
def zdW (w:Int):Str:=Str.ofString (toString w)
theorem Yo (x:Str):x.length=x.cps.toList.length:=by simp [Str.length]
def inF (c:Nat):Bool:=!(Builtin.Str.occurrences "0123456789" ⟨#[c]⟩ 0 (Str.length "0123456789") 1).isEmpty
def zdq (x:Str):Bool:=!decide (x="") && x.cps.toList.all inF
def inW (i:Int):Bool:=decide (-1000000000000000000000000000000≤i∧i≤1000000000000000000000000000000)
def zcc (x:Str):Str:=if (x.cps.toList.take 1 == [45])=true then Txt.slice x (some 1) none else x
def Q3 (x:Str):Int:=(intText? x).getD 0
def zdr (x:Str):Bool:=!(decide (31 < (zcc x).length) || !zdq (zcc x)) && (inW (Q3 x) && decide (zdW (Q3 x)=x))
end
end L2
namespace L2
open PySem PySem.Spec PyProof.Rows
def zds (x y:Str):Int:=match Builtin.Str.occurrences x y 0 x.length 1 with | i :: _=>(i:Int) | []=>-1
abbrev zdd:RM:=fun x xs H Q=>∃ a b,x=.str a∧xs=[.str b]∧Q (.int (zds a b)) H
def zdt (sep:Str):List Str→Str
 | [p]=>p
 | l=>Builtin.Str.glued sep l
def zdX (sep:Str) (ls:List Str):Nat:=ls.foldl (fun n p=>n + p.length + sep.length) 0
abbrev zde (K:W.Frag):RM:=fun x xs H Q=>∃ sep a ls,x=.str sep∧xs=[.ref a]∧SqL K H a (ls.map V.str)∧zdX sep ls≤sizeLine∧Q (.str (zdt sep ls)) H
def zdY (x:Str) (n:Int):Str:=if n < 1 then Str.empty else if (n == 1 || x.length == 0)=true then x else ⟨(List.replicate n.toNat x.cps).foldl (· ++ ·) #[]⟩
abbrev zeh:R2:=fun x y H Q=>∃ a n,x=.str a∧y=.int n∧(n < 1000000∧-1000000 < n∧a.length * n.toNat≤1000000)∧Q (.str (zdY a n)) H
section
variable {X:Cx}
end
theorem qt (x y:Str):(x ++ y).length=x.length + y.length:=Str.length_append x y
end L2
namespace L2
open PySem PySem.Spec PyProof.Rows
section
open PySem.NumText
end
end L2
namespace L2
open PySem PySem.Spec PyProof.Rows
def zcd (_ j:Int):Prop:=j≠0∧-big < j∧j < big
section
variable {X:Cx}
theorem Q4:OpR X (binaryOp .FloorDiv) (rI zcd fun i j=>.int (i.fdiv j)):=opI fun i j _ _ _ _ _ hc q =>
 floordiv_int hc.1 q (.inl (PyProof.noPylong_of_log2 (Nat.lt_trans (YL (WC hc.2)) (by decide))))
abbrev zei:RC:=fun xs H Q=>∃ b:Bool,xs=[.bl b]∧Q (.int (if b then 1 else 0)) H
end
theorem WF {k:Nat} {A:Around} (r:Room k A):A.units + 64 < cLine:=by have:=r.un;lia
def kI:V→PyData
 | .non=>.none
 | .bl b=>.bool b
 | .int i=>.int i
 | .str x=>.str x
 | _=>.none
def yI:V→Bool
 | .non=>true
 | .bl _=>true
 | .int _=>true
 | .str x=>PyData.strOk x
 | _=>false
theorem Asc.flat {x:Str} (h:Asc x):yI (.str x)=true:=by
 unfold yI PyData.strOk
 rw [Array.all_eq_true]
 intro i hi
 have:=h x.cps[i] (by simp)
 exact decide_eq_true (by lia)
def zcH:V→V→Bool
 | .bl _,.int _=>false
 | .int _,.bl _=>false
 | _,_=>true
def WG:List V→List V→Bool
 | x :: xs,y :: ys=>zcH x y && WG xs ys
 | _,_=>true
theorem vV:∀ {xs:List V} {us:List Value},xs.all yI=true→Vals xs us→CarriedAll us (xs.map kI)
 | [],_,_,.nil=>.nil
 | x :: r,_,h,.cons rx t=>by
  rw [List.all_cons,Bool.and_eq_true] at h
  refine .cons ?_ (vV h.2 t)
  cases x with
  | non=>cases rx;exact .none
  | bl b=>cases rx;exact .bool b
  | int i=>obtain ⟨t,rfl⟩:=rx;exact .int i t
  | str x=>obtain ⟨t,rfl⟩:=rx;exact .str x t
  | byt b=>exact absurd h.1 (by simp [yI])
  | flt b=>exact absurd h.1 (by simp [yI])
  | ref a=>exact absurd h.1 (by simp [yI])
  | ty n=>exact absurd h.1 (by simp [yI])
theorem Q5 {x y:V} (hx:yI x=true) (hy:yI y=true):Spec.same (kI x) (kI y)=decide (x=y):=by
 cases x <;> cases y <;> simp_all [yI,kI,Spec.same] <;> (rename_i a b;by_cases e:a=b <;> simp [e])
theorem kQ:∀ {xs ys:List V},xs.all yI=true→ys.all yI=true→Spec.sameAll (xs.map kI) (ys.map kI)=decide (xs=ys)
 | [],[],_,_=>by simp [Spec.sameAll]
 | [],_ :: _,_,_=>by simp [Spec.sameAll]
 | _ :: _,[],_,_=>by simp [Spec.sameAll]
 | x :: r,y :: t,hx,hy=>by
  rw [List.all_cons,Bool.and_eq_true] at hx hy
  rw [List.map_cons,List.map_cons,Spec.sameAll,Q5 hx.1 hy.1,kQ hx.2 hy.2]
  by_cases a:x=y <;> by_cases b:r=t <;> simp [a,b]
theorem Ql {x y:V} (hx:yI x=true) (hy:yI y=true) (h:zcH x y=true):SeqAt.noMix (kI x) (kI y)=true:=by
 cases x <;> cases y <;> simp_all [yI,kI,SeqAt.noMix,zcH]
theorem j6:∀ {xs ys:List V},xs.all yI=true→ys.all yI=true→WG xs ys=true→SeqAt.noMixAll (xs.map kI) (ys.map kI)=true
 | [],[],_,_,_=>by simp [SeqAt.noMixAll]
 | [],_ :: _,_,_,_=>by simp [SeqAt.noMixAll]
 | _ :: _,[],_,_,_=>by simp [SeqAt.noMixAll]
 | x :: r,y :: t,hx,hy,h=>by
  rw [List.all_cons,Bool.and_eq_true] at hx hy
  rw [WG,Bool.and_eq_true] at h
  rw [List.map_cons,List.map_cons,SeqAt.noMixAll,Ql hx.1 hy.1 h.1,j6 hx.2 hy.2 h.2]
  rfl
theorem j7 {xs:List V} (h:xs.all yI=true):SeqAt.shaped (.list (xs.map kI))=true∧SeqAt.shaped (.tuple (xs.map kI))=true:=by
 have a:∀ x,yI x=true→(kI x).canLay0=true∧(kI x).depth=0:=fun x=>by cases x <;> simp [kI,PyData.canLay0,PyData.depth,yI]
 have l:∀ ys:List V,ys.all yI=true→PyData.canLayAll0 (ys.map kI)=true∧PyData.depthAll (ys.map kI)=0:=by
  intro ys
  induction ys with
  | nil=>exact fun _=>⟨rfl,rfl⟩
  | cons y r ih =>
   intro h
   rw [List.all_cons,Bool.and_eq_true] at h
   exact ⟨by rw [List.map_cons,PyData.canLayAll0,(a y h.1).1,(ih h.2).1];rfl,by rw [List.map_cons,PyData.depthAll,(a y h.1).2,(ih h.2).2];rfl⟩
 exact ⟨by simp [SeqAt.shaped,PyData.canLay0,PyData.depth,(l xs h).1,(l xs h).2],by simp [SeqAt.shaped,PyData.canLay0,PyData.depth,(l xs h).1,(l xs h).2]⟩
abbrev zdu (K:W.Frag) (neg:Bool):R2:=fun x y H Q=>∃ a b xs ys,x=.ref a∧y=.ref b∧SqL K H a xs∧SqL K H b ys∧(xs.all yI=true∧ys.all yI=true∧WG xs ys=true)∧Q (.bl (if neg then !decide (xs=ys) else decide (xs=ys))) H
section
variable {X:Cx}
theorem zcI (hu:X.A.units + 64 < cLine):OpR X (compareOp .Eq) (zdu X.K false):=by
 intro pins s σ H x y v u Q I rx ry h
 obtain ⟨a,b,xs,ys,rfl,rfl,ha,hb,⟨f1,f2,f3⟩,q⟩:=h
 cases rx
 cases ry
 obtain ⟨us,r1,p1,_⟩:=I.list ha
 obtain ⟨ws,r2,p2,_⟩:=I.list hb
 refine eq_dataH_same (reads_newData p1.isList (vV f1 r1)) (reads_newData p2.isList (vV f2 r2)) (j7 f1).1 (j7 f2).1 hu (by rw [SeqAt.noMix];exact j6 f1 f2 f3) ?_
 rw [Spec.same,kQ f1 f2]
 exact ⟨.bl _,H,I,rfl,q⟩
theorem zcJ (hu:X.A.units + 64 < cLine):OpR X (compareOp .NotEq) (zdu X.K true):=by
 intro pins s σ H x y v u Q I rx ry h
 obtain ⟨a,b,xs,ys,rfl,rfl,ha,hb,⟨f1,f2,f3⟩,q⟩:=h
 cases rx
 cases ry
 obtain ⟨us,r1,p1,_⟩:=I.list ha
 obtain ⟨ws,r2,p2,_⟩:=I.list hb
 refine ne_dataH_same (reads_newData p1.isList (vV f1 r1)) (reads_newData p2.isList (vV f2 r2)) (j7 f1).1 (j7 f2).1 hu (by rw [SeqAt.noMix];exact j6 f1 f2 f3) ?_
 rw [Spec.same,kQ f1 f2]
 exact ⟨.bl _,H,I,rfl,q⟩
abbrev qT (K:W.Frag):R2:=fun x y H Q=>∃ a b xs,x=.ref a∧y=.ref b∧SqL K H a xs∧SqL K H b []∧Q (.bl (decide (xs=[]))) H
theorem VA (hu:X.A.units + 64 < cLine):OpR X (compareOp .Eq) (qT X.K):=by
 intro pins s σ H x y v u Q I rx ry h
 obtain ⟨a,b,xs,rfl,rfl,ha,hb,q⟩:=h
 by_cases e:xs=[]
 ·subst e
  exact zcI hu pins s σ H _ _ v u Q I rx ry ⟨a,b,[],[],rfl,rfl,ha,hb,⟨rfl,rfl,rfl⟩,q⟩
 ·cases rx
  cases ry
  obtain ⟨us,r1,p1,_⟩:=I.list ha
  obtain ⟨ws,r2,p2,_⟩:=I.list hb
  cases r2
  have e1:=r1.length
  have e2:xs.length≠0:=fun z=>e (List.eq_nil_of_length_eq_zero z)
  refine PySem.SeqAt.eq_list_lengthsAt p1.isList p2.isList (by simp;intro z;rw [z] at e1;exact e2 e1) (by lia) ?_
  rw [decide_eq_false e] at q
  exact ⟨.bl false,H,I,rfl,q⟩
end
end L2
namespace L2
open PySem PySem.Spec PyProof.Rows
abbrev zI:RM:=yn
abbrev wV:RM:=JE
def jw:List V:=[.str "plus",.str "minus",.str "times",.str "over",.str "rest",.str "under",.str "same"]
def isJ (v:V):Bool:=inV v jw
inductive Er where
 | nought | great | stuck
 deriving DecidableEq
def vW (w:Str) (a b:Int):Int :=
 if w="plus" then a + b else if w="minus" then a - b else if w="times" then a * b else if w="under" then (if a < b then 1 else 0) else if w="same" then (if a=b then 1 else 0) else if w="over" then a.fdiv b else a.fmod b
def Z0 (w:Str):Prop:=¬ w="plus"∧¬ w="minus"∧¬ w="times"∧¬ w="under"∧¬ w="same"
instance (w:Str):Decidable (Z0 w):=by unfold Z0;infer_instance
def vB (w:Str) (a b:Int):Except Er Int:=if Z0 w∧b=0 then .error .nought else if inW (vW w a b)=true then .ok (vW w a b) else .error .great
def JJ (kvs:List (Key × V)):V→Int
 | .int i=>i
 | .str x=>(match yN kvs (.inr x) with | some (.int i)=>i | _=>0)
 | _=>0
def ww (kvs:List (Key × V)) (st:List Int) (v:V):Except Er (List Int) :=
 if isJ v=true then (match v,st.reverse with | .str w,b :: a :: r=>(match vB w a b with | .ok c=>.ok (r.reverse ++ [c]) | .error e=>.error e) | _,_=>.error .stuck) else .ok (st ++ [JJ kvs v])
def wW (kvs:List (Key × V)):List V→List Int→Except Er (List Int)
 | [],st=>.ok st
 | v :: r,st=>match ww kvs st v with | .ok st'=>wW kvs r st' | .error e=>.error e
section
variable {kvs:List (Key × V)}
theorem kR:∀ (p q:List V) (st:List Int),wW kvs (p ++ q) st=match wW kvs p st with | .ok st'=>wW kvs q st' | .error e=>.error e
 | [],q,st=>rfl
 | v :: r,q,st=>by
  show (match ww kvs st v with | .ok st'=>wW kvs (r ++ q) st' | .error e=>.error e)=match (match ww kvs st v with | .ok st'=>wW kvs r st' | .error e=>.error e) with | .ok st'=>wW kvs q st' | .error e=>.error e
  cases ww kvs st v with
  | error e=>rfl
  | ok st'=>exact kR r q st'
def Good (kvs:List (Key × V)) (ps:List V) (r:Except Er Int):Prop:=(∀ st,wW kvs ps st=match r with | .ok i=>.ok (st ++ [i]) | .error e=>.error e)∧r≠.error .stuck
theorem Qm {v:V} (h:isJ v=false):Good kvs [v] (.ok (JJ kvs v)):=by
 refine ⟨fun st=>?_,fun z=>nomatch z⟩
 unfold wW ww
 rw [h,if_neg (by decide)]
 rfl
def zce (w:Str) (r1 r2:Except Er Int):Except Er Int:=match r1 with | .error e=>.error e | .ok a=>match r2 with | .error e=>.error e | .ok b=>vB w a b
theorem Q6 (w:Str) (a b:Int):vB w a b≠.error .stuck:=by
 unfold vB
 split
 ·exact fun z=>nomatch z
 ·split <;> exact fun z=>nomatch z
theorem Qn {w:Str} {p1 p2:List V} {r1 r2:Except Er Int} (hw:isJ (.str w)=true) (g1:Good kvs p1 r1) (g2:Good kvs p2 r2):Good kvs (p1 ++ p2 ++ [.str w]) (zce w r1 r2):=by
 refine ⟨fun st=>?_,?_⟩
 ·rw [kR,kR,g1.1]
  cases r1 with
  | error e=>rfl
  | ok a =>
   show (match wW kvs p2 (st ++ [a]) with | .ok st'=>wW kvs [.str w] st' | .error e=>.error e)=_
   rw [g2.1]
   cases r2 with
   | error e=>rfl
   | ok b =>
    show wW kvs [.str w] (st ++ [a] ++ [b])=match vB w a b with | .ok i=>.ok (st ++ [i]) | .error e=>.error e
    unfold wW ww
    rw [hw,if_pos rfl]
    simp only [List.reverse_append,List.reverse_cons,List.reverse_nil,List.nil_append,List.cons_append,List.append_assoc]
    cases vB w a b with
    | error e=>rfl
    | ok c=>simp [wW]
 ·unfold zce
  cases r1 with
  | error e=>exact g1.2
  | ok a =>
   cases r2 with
   | error e=>exact g2.2
   | ok b=>exact Q6 w a b
theorem Kv {ps:List V} {i:Nat} {st:List Int} {e:Er} (h:wW kvs (ps.take i) st=.error e):wW kvs ps st=.error e:=by
 have:=kR (kvs:=kvs) (ps.take i) (ps.drop i) st
 rw [List.take_append_drop,h] at this
 exact this
theorem zbm {ps:List V} {i:Nat} {st st0:List Int} {v:V} (h:wW kvs (ps.take i) st0=.ok st) (hv:ps[i]?=some v):wW kvs (ps.take (i + 1)) st0=ww kvs st v:=by
 rw [List.take_add_one,hv]
 show wW kvs (ps.take i ++ [v]) st0=_
 rw [kR,h]
 show (match ww kvs st v with | .ok st'=>wW kvs [] st' | .error e=>.error e)=_
 cases ww kvs st v <;> rfl
end
def j8 (v:V):Prop:=(∃ i,v=.int i∧inW i=true)∨∃ x:Str,v=.str x∧x.length≤1000
def yL (kvs:List (Key × V)):Prop:=∀ k v,yN kvs k=some v→∃ i,v=.int i∧inW i=true
theorem VB {kvs:List (Key × V)} (h:yL kvs) {v:V} (hv:j8 v):inW (JJ kvs v)=true:=by
 rcases hv with ⟨i,rfl,hi⟩ | ⟨x,rfl,_⟩
 ·exact hi
 ·show inW (match yN kvs (.inr x) with | some (.int i)=>i | _=>0)=true
  cases e:yN kvs (.inr x) with
  | none=>rfl
  | some u =>
   obtain ⟨i,rfl,hi⟩:=h _ _ e
   exact hi
theorem inW_iff {i:Int}:inW i=true↔-1000000000000000000000000000000≤i∧i≤1000000000000000000000000000000:=by unfold inW;rw [decide_eq_true_eq]
theorem WH {i:Int} (h:inW i=true):-big < i∧i < big:=by
 have:=inW_iff.mp h
 have hb:(1000000000000000000000000000001:Int) < big:=by decide +kernel
 lia
end L2
namespace L2
open PySem PySem.Spec PyProof.Rows
def Itv (K:W.Frag) (a:Addr) (xs:List V):It:=⟨fun i H=>i < xs.length∧SqL K H a xs,fun i H x H'=>H'=H∧xs[xs.length - 1 - i]?=some x,fun i _=>xs.length≤i⟩
def zeJ (K:W.Frag) (ta:TA):TI:=fun σ H R=>ta σ H fun vs H1=>∃ a xs,vs=[.ref a]∧SqL K H1 a xs∧R (Itv K a xs) H1
section
variable {X:Cx} {tg:Expr}
end
section
variable {σ:St} {H:Hp} {nx:St→Hp→Prop} {B:V→St→Hp→(St→Hp→Prop)→Prop}
end
end L2
namespace L2
open PySem PySem.Spec PyProof.Rows
abbrev Xt (K:W.Frag):RC:=fun xs H Q=>∃ p ys,xs=[.ref p]∧(SqL K H p ys∨SqT K H p ys)∧∀ l,H l=none→Q (.ref l) (upd H l (.lst ys))
abbrev zeK:RC:=fun xs H Q=>∃ i j,xs=[.int i,.int j]∧Q (.int (if j < i then j else i)) H
def inL (c:Nat):Bool:=!(Builtin.Str.occurrences "abcdefghijklmnopqrstuvwxyz" ⟨#[c]⟩ 0 (Str.length "abcdefghijklmnopqrstuvwxyz") 1).isEmpty
def wl:List V:=[.str "take",.str "give",.str "let",.str "say",.str "off",.str "if",.str "else",.str "end",.str "as"]
def xO (x:Str):Bool:=!(decide (x="") || decide (6 < x.length)) && !(inV (.str x) jw || inV (.str x) wl) && x.cps.toList.all inL
theorem zbn (c:Nat):inL c=true→97≤c∧c≤122:=by
 unfold inL
 rw [StrLaws.found_one]
 have e:(Str.ofString "abcdefghijklmnopqrstuvwxyz").cps.toList=[97,98,99,100,101,102,103,104,105,106,107,108,109,110,111,112,113,114,115,116,117,118,119,120,121,122]:=by decide +kernel
 rw [e]
 simp only [decide_eq_true_eq,List.mem_cons,List.not_mem_nil,or_false]
 omega
theorem Zn {x:Str} (h:xO x=true):x.cps.toList≠[]∧x.length≤6∧isJ (.str x)=false∧x.cps.toList.all inL=true:=by
 unfold xO at h
 rw [Bool.and_eq_true,Bool.and_eq_true,Bool.not_eq_true',Bool.not_eq_true',Bool.or_eq_false_iff,Bool.or_eq_false_iff,decide_eq_false_iff_not,decide_eq_false_iff_not] at h
 refine ⟨fun z=>h.1.1.1 (zbk (by rw [z];decide +kernel)),by lia,h.1.2.1,h.2⟩
def Q7 (w:Str):Option V:=if xO w=true then some (.str w) else if zdr w=true then some (.int (Q3 w)) else none
inductive Tw where
 | leaf (w:Str) | node (w:Str) (a b:Tw)
def pre:Tw→List Str
 | .leaf w=>[w]
 | .node w a b=>w :: (pre a ++ pre b)
def wfT:Tw→Prop
 | .leaf w=>isJ (.str w)=false
 | .node w a b=>isJ (.str w)=true∧wfT a∧wfT b
def okT:Tw→Bool
 | .leaf w=>(Q7 w).isSome
 | .node _ a b=>okT a && okT b
def pvw (w:Str):V:=(Q7 w).getD (.str w)
def pst:Tw→List V
 | .leaf w=>[pvw w]
 | .node w a b=>pst a ++ pst b ++ [.str w]
def zdv:List Str→Nat→Option Nat
 | _,0=>some 0
 | [],_ + 1=>none
 | w :: r,d + 1=>(zdv r (if isJ (.str w)=true then d + 2 else d)).map (· + 1)
def xL (st:List (List V)) (w:Str):Except Bool (List (List V)) :=
 if isJ (.str w)=true then (match st.reverse with | a :: b :: r=>.ok (r.reverse ++ [a ++ b ++ [.str w]]) | _=>.error false) else (match Q7 w with | some v=>.ok (st ++ [[v]]) | none=>.error true)
def JK:List Str→List (List V)→Except Bool (List (List V))
 | [],st=>.ok st
 | w :: r,st=>match xL st w with | .ok st'=>JK r st' | .error e=>.error e
theorem Q8:∀ (p q:List Str) (st:List (List V)),JK (p ++ q) st=match JK p st with | .ok st'=>JK q st' | .error e=>.error e
 | [],q,st=>rfl
 | v :: r,q,st=>by
  show (match xL st v with | .ok st'=>JK (r ++ q) st' | .error e=>.error e)=match (match xL st v with | .ok st'=>JK r st' | .error e=>.error e) with | .ok st'=>JK q st' | .error e=>.error e
  cases xL st v with
  | error e=>rfl
  | ok st'=>exact Q8 r q st'
end L2
namespace L2
open PySem PySem.Spec PyProof.Rows
abbrev zeL:RC:=fun xs H Q=>∃ a kvs,xs=[.ref a]∧H a=some (.dK kvs)∧∀ p,H p=none→Q (.ref p) (upd H p (.dK kvs))
abbrev zeM:R2:=fun x y H Q=>∃ a b kvs,x=.ref a∧y=.ref b∧H a=some (.dK kvs)∧H b=some (.dK kvs)∧(∀ p∈kvs,∃ i,p.2=V.int i)∧Q (.bl false) H
section
variable {X:Cx}
end
theorem Q9 {x:Str} (h:xO x=true):Asc x:=fun c hc=>by
 have:=zbn c (List.all_eq_true.mp (Zn h).2.2.2 c hc)
 lia
end L2
namespace L2
open PySem PySem.Spec PyProof.Rows
section
variable {P:Program} {w:World} {A:Around} {E:Value→Shared→Prop} {s:Shared}
end
section
variable {P:Program} {w:World} {A:Around} {E:Value→Shared→Prop} {s:Shared}
end
section
variable {P:Program} {w:World} {A:Around} {E:Value→Shared→Prop} {s:Shared}
end
theorem Inv.turnedL {X:Cx} {pins:List (Addr × Obj)} {σ:St} {H:Hp} {s:Shared} {h':Heap} {t':Nat} {ch:List Addr} (I:Inv X pins σ H s) (k:∀ b o,b ∉ ch→s.heap.get? b=some o→h'.get? b=some o) (hf:∀ b∈ch,kL X pins H b) :
  Inv X pins σ H { s with heap:=h',toks:=t' }:=by
 have nit:∀ b u,H b=some u→b ∉ ch:=fun b u e z=>by rw [(hf b z).1] at e;cases e
 refine I.step (g':=s.gens) (d':=s.drawn) (ch:=ch) (fun b hb=>?_) (fun b o _ _ hc e _=>k b o hc e) (fun b o _ _ hc e _=>⟨o.slots,k b o hc e⟩) (fun _ _ _ _ n=>n) (fun b o hc e=>⟨o,k b o hc e⟩) (fun _ _ e=>e) (fun _ _ _ e=>e) (fun b ps e=>⟨#[],by rw [e];simp⟩) (fun m hm=>?_) (fun b u e=>?_) I.bare
 ·obtain ⟨f0,f1,f2,f3,f4,f5⟩:=hf b hb
  exact ⟨f3,f1,f4,f5⟩
 ·obtain ⟨o,es,ep,ho,r⟩:=hm
  exact ⟨o,es,ep,k _ o (fun z=>(hf _ z).2.1 rfl) ho,r⟩
 ·refine (I.hok b u e).stay (fun c v hc q=>k c v ?_ q) (fun _ q=>q) fun _ _ q=>q
  rcases hc with z | z
  ·rw [z];exact nit b u e
  ·exact nit c _ z
def Itz (K:W.Frag) (p q:Addr) (xs ys:List V):It:=⟨fun i H=>i < xs.length∧SqT K H p xs∧SqT K H q ys,fun i H x H'=>∃ T u v,x=.ref T∧H T=none∧H'=upd H T (.tup [u,v])∧xs[i]?=some u∧ys[i]?=some v,fun i H=>xs.length≤i∧SqT K H p xs∧SqT K H q ys⟩
def zeN (K:W.Frag) (ta:TA):TI:=fun σ H R=>ta σ H fun vs H1=>∃ p q xs ys,vs=[.ref p,.ref q]∧SqT K H1 p xs∧SqT K H1 q ys∧xs.length=ys.length∧R (Itz K p q xs ys) H1
section
variable {X:Cx}
end
section
variable {σ:St} {H:Hp} {nx:St→Hp→Prop} {B:V→St→Hp→(St→Hp→Prop)→Prop}
end
abbrev JL (K:W.Frag):RC:=fun xs H Q=>∃ p ys,xs=[.ref p]∧((SqL K H p ys∧∀ l,H l=none→Q (.ref l) (upd H l (.tup ys)))∨(SqT K H p ys∧Q (.ref p) H))
def Kw (st:List (List V)) (v:V):Option (List (List V)):=if isJ v=true then (match st.reverse with | b :: a :: r=>some (r.reverse ++ [v :: (a ++ b)]) | _=>none) else some (st ++ [[v]])
def JM:List V→List (List V)→Option (List (List V))
 | [],st=>some st
 | v :: r,st=>(Kw st v).bind (JM r)
theorem zaa:∀ (p q:List V) (st:List (List V)),JM (p ++ q) st=(JM p st).bind (JM q)
 | [],q,st=>rfl
 | v :: r,q,st=>by
  show (Kw st v).bind (JM (r ++ q))=((Kw st v).bind (JM r)).bind (JM q)
  cases Kw st v with
  | none=>rfl
  | some st'=>exact zaa r q st'
end L2
namespace L2
open PySem PySem.W PyProof.Rows
section
variable {α β:Type} {lt:Nat→Nat→Bool} {n:Nat}
def kOk (lt:Nat→Nat→Bool) (n:Nat):KasT α→(α→Prop)→Prop
 | .ret a,R=>R a
 | .ask i j k,R=>i < n∧j < n∧i≠j∧kOk lt n (k (lt i j)) R
theorem jN:∀ {t:KasT α} {f:α→KasT β} {R:β→Prop},kOk lt n t (fun a=>kOk lt n (f a) R)→kOk lt n (t.bind f) R
 | .ret _,_,_,h=>h
 | .ask _ _ _,_,_,h=>⟨h.1,h.2.1,h.2.2.1,jN h.2.2.2⟩
theorem wX:∀ {t:KasT α} {R R':α→Prop},kOk lt n t R→(∀ a,R a→R' a)→kOk lt n t R'
 | .ret _,_,_,h,m=>m _ h
 | .ask _ _ _,_,_,h,m=>⟨h.1,h.2.1,h.2.2.1,wX h.2.2.2 m⟩
structure SO (lt:Nat→Nat→Bool) (n:Nat):Prop where
 irr:∀ i,i < n→lt i i=false
 trans:∀ i j k,i < n→j < n→k < n→lt i j=true→lt j k=true→lt i k=true
 tot:∀ i j,i < n→j < n→i≠j→lt i j=false→lt j i=true
def PP (n:Nat) (p:Array Nat):Prop:=p.Perm (List.range n).toArray
def gt (p:Array Nat) (k:Nat):Nat:=p.getD k 0
theorem jO {p:Array Nat} {k:Nat} (h:k < p.size):p[k]?=some (gt p k):=by
 unfold gt
 rw [Array.getD_eq_getD_getElem?,Array.getElem?_eq_getElem h]
 rfl
theorem PP.size {p:Array Nat} (h:PP n p):p.size=n:=by
 have:=h.size_eq
 simpa using this
theorem PP.blt {p:Array Nat} (h:PP n p) {k:Nat} (hk:k < n):gt p k < n:=by
 have hs:=h.size
 have m:gt p k∈p:=Array.mem_of_getElem? (jO (by lia))
 have m2:gt p k∈(List.range n).toArray:=(Array.Perm.mem_iff h).mp m
 simpa using m2
theorem PP.inj {p:Array Nat} (h:PP n p) {i j:Nat} (hi:i < n) (hj:j < n) (e:gt p i=gt p j):i=j:=by
 have hs:=h.size
 have nd:p.toList.Nodup:=by
  have:p.toList.Perm (List.range n):=by
   have:=Array.perm_iff_toList_perm.mp h
   simpa using this
  exact this.nodup_iff.mpr List.nodup_range
 have e1:=jO (p:=p) (k:=i) (by lia)
 have e2:=jO (p:=p) (k:=j) (by lia)
 rw [← e] at e2
 have e1':p.toList[i]?=some (gt p i):=by simpa using e1
 have e2':p.toList[j]?=some (gt p i):=by simpa using e2
 obtain ⟨a1,b1⟩:=List.getElem?_eq_some_iff.mp e1'
 obtain ⟨a2,b2⟩:=List.getElem?_eq_some_iff.mp e2'
 exact (List.getElem_inj nd).mp (b1.trans b2.symm)
def kS (lt:Nat→Nat→Bool) (p:Array Nat) (m:Nat):Prop:=∀ i j,i < j→j < m→lt (gt p i) (gt p j)=true
def zcK (lt:Nat→Nat→Bool) (p:Array Nat) (m:Nat):Prop:=∀ i j,i < j→j < m→lt (gt p j) (gt p i)=true
theorem JN (S:SO lt n) {p:Array Nat} (hp:PP n p):∀ (f a:Nat),1≤a→a + f≤n→kS lt p a→kOk lt n (kas_asc p f a) fun m=>a≤m∧m≤a + f∧kS lt p m∧(m < a + f→lt (gt p m) (gt p (m - 1))=true)
 | 0,a,h1,h2,hr=>⟨Nat.le_refl _,Nat.le_refl _,hr,fun z=>absurd z (Nat.lt_irrefl _)⟩
 | f + 1,a,h1,h2,hr=>by
  refine ⟨hp.blt (by lia),hp.blt (by lia),(fun z=>by have:=hp.inj (by lia) (by lia) z;lia),?_⟩
  show kOk lt n (if lt (gt p a) (gt p (a - 1))=true then .ret a else kas_asc p f (a + 1)) _
  by_cases c:lt (gt p a) (gt p (a - 1))=true
  ·rw [if_pos c]
   exact ⟨Nat.le_refl _,by lia,hr,fun _=>c⟩
  ·rw [if_neg c]
   have up:lt (gt p (a - 1)) (gt p a)=true:=S.tot _ _ (hp.blt (by lia)) (hp.blt (by lia)) (fun z=>by have:=hp.inj (by lia) (by lia) z;lia) (Bool.eq_false_iff.mpr c)
   refine wX (JN S hp f (a + 1) (by lia) (by lia) fun i j hij hj=>?_) fun m ⟨x1,x2,x3,x4⟩=>⟨by lia,by lia,x3,fun z=>x4 (by lia)⟩
   by_cases hja:j < a
   ·exact hr i j hij hja
   ·obtain rfl:j=a:=by lia
    by_cases hi:i=j - 1
    ·rw [hi];exact up
    ·exact S.trans _ _ _ (hp.blt (by lia)) (hp.blt (by lia)) (hp.blt (by lia)) (hr i (j - 1) (by lia) (by lia)) up
theorem Kx (S:SO lt n) {p:Array Nat} (hp:PP n p):∀ (f a:Nat),1≤a→a + f≤n→zcK lt p a→kOk lt n (kas_desc f p a 0) fun r=>r.1=p∧r.2.2=0∧a≤r.2.1∧r.2.1≤a + f∧zcK lt p r.2.1
 | 0,a,h1,h2,hr=>⟨rfl,rfl,Nat.le_refl _,Nat.le_refl _,hr⟩
 | f + 1,a,h1,h2,hr=>by
  refine ⟨hp.blt (by lia),hp.blt (by lia),(fun z=>by have:=hp.inj (by lia) (by lia) z;lia),?_⟩
  show kOk lt n (if lt (gt p a) (gt p (a - 1))=true then (if 0 > 0 then _ else kas_desc f p (a + 1) 0) else .ask (gt p (a - 1)) (gt p a) fun d=>if d=true then .ret (p,a,0) else kas_desc f p (a + 1) (0 + 1)) _
  by_cases c:lt (gt p a) (gt p (a - 1))=true
  ·rw [if_pos c,if_neg (by lia)]
   refine wX (Kx S hp f (a + 1) (by lia) (by lia) fun i j hij hj=>?_) fun m ⟨x1,x2,x3,x4,x5⟩=>⟨x1,x2,by lia,by lia,x5⟩
   by_cases hja:j < a
   ·exact hr i j hij hja
   ·obtain rfl:j=a:=by lia
    by_cases hi:i=j - 1
    ·rw [hi];exact c
    ·exact S.trans _ _ _ (hp.blt (by lia)) (hp.blt (by lia)) (hp.blt (by lia)) c (hr i (j - 1) (by lia) (by lia))
  ·rw [if_neg c]
   have up:lt (gt p (a - 1)) (gt p a)=true:=S.tot _ _ (hp.blt (by lia)) (hp.blt (by lia)) (fun z=>by have:=hp.inj (by lia) (by lia) z;lia) (Bool.eq_false_iff.mpr c)
   refine ⟨hp.blt (by lia),hp.blt (by lia),(fun z=>by have:=hp.inj (by lia) (by lia) z;lia),?_⟩
   show kOk lt n (if lt (gt p (a - 1)) (gt p a)=true then .ret (p,a,0) else _) _
   rw [if_pos up]
   exact ⟨rfl,rfl,Nat.le_refl _,Nat.le_add_right _ _,hr⟩
theorem zab {p:Array Nat} {m k:Nat} (hm:m≤p.size) (hk:k < m):gt (kas_rev p 0 m) k=gt p (m - 1 - k):=by
 have e:=getElem?_mirror_all (xs:=p) (i:=0) (j:=m) hm k
 rw [if_pos ⟨Nat.zero_le _,hk⟩] at e
 have e1:=jO (p:=kas_rev p 0 m) (k:=k) (by unfold kas_rev;rw [mirror_size];lia)
 have e2:=jO (p:=p) (k:=m - 1 - k) (by lia)
 unfold kas_rev at e1 ⊢
 rw [e,show 0 + m - 1 - k=m - 1 - k by lia,e2] at e1
 exact (Option.some.inj e1).symm
theorem PP.rev {p:Array Nat} (h:PP n p) (m:Nat):PP n (kas_rev p 0 m):=Array.Perm.trans (mirror_perm _ _ _ _) h
theorem zbo (S:SO lt n) {p:Array Nat} (hp:PP n p) {m:Nat} (h1:1≤m) (h2:m≤n) (hf:zcK lt p m):kOk lt n (kas_tail3 m n p) fun r=>PP n r.2∧kS lt r.2 r.1∧1≤r.1∧r.1≤n:=by
 refine jN (wX (JN S (hp.rev m) (n - m) m h1 (by lia) fun i j hij hj=>?_) fun a ⟨x1,x2,x3,_⟩=>⟨hp.rev m,x3,by lia,by lia⟩)
 have hs:=hp.size
 rw [zab (by lia) (by lia),zab (by lia) hj]
 exact hf _ _ (by lia) (by lia)
theorem zac (S:SO lt n) {p:Array Nat} (hp:PP n p) (hn:1≤n):kOk lt n (kas_count n p) fun r=>PP n r.2∧kS lt r.2 r.1∧1≤r.1∧r.1≤n:=by
 refine jN (wX (JN S hp (n - 1) 1 (Nat.le_refl _) (by lia) fun i j hij hj=>by lia) fun m ⟨x1,x2,x3,x4⟩=>?_)
 by_cases e:(m == n)=true
 ·rw [if_pos e]
  exact ⟨hp,x3,x1,by lia⟩
 ·rw [if_neg e]
  have ne:m≠n:=by simpa using e
  by_cases h:m > 1
  ·rw [if_pos h]
   refine ⟨hp.blt (by lia),hp.blt (by lia),(fun z=>by have:=hp.inj (by lia) (by lia) z;lia),?_⟩
   show kOk lt n (if lt (gt p 0) (gt p (m - 1))=true then .ret (m,p) else _) _
   rw [if_pos (x3 0 (m - 1) (by lia) (by lia))]
   exact ⟨hp,x3,x1,by lia⟩
  ·rw [if_neg h]
   obtain rfl:m=1:=by lia
   have c:=x4 (by lia)
   refine jN (wX (Kx S hp (n - 2) 2 (by lia) (by lia) fun i j hij hj=>?_) fun r ⟨y1,y2,y3,y4,y5⟩=>?_)
   ·obtain rfl:j=1:=by lia
    obtain rfl:i=0:=by lia
    exact c
   ·rw [if_neg (by lia),y1]
    exact zbo S hp (by lia) (by lia) y5
theorem YR (S:SO lt n) {p:Array Nat} (hp:PP n p) {k:Nat} (hk:k < n) (hr:kS lt p k):∀ (f l r:Nat),l≤r→r≤k→r - l≤f→(∀ i,i < l→lt (gt p i) (gt p k)=true)→(∀ i,r≤i→i < k→lt (gt p k) (gt p i)=true) →
  kOk lt n (kas_place p k f l r) fun m=>m≤k∧(∀ i,i < m→lt (gt p i) (gt p k)=true)∧∀ i,m≤i→i < k→lt (gt p k) (gt p i)=true
 | 0,l,r,h1,h2,h3,h4,h5=>⟨by lia,h4,fun i hi hik=>h5 i (by lia) hik⟩
 | f + 1,l,r,h1,h2,h3,h4,h5=>by
  unfold kas_place
  by_cases c:l ≥ r
  ·rw [if_pos c]
   exact ⟨by lia,h4,fun i hi hik=>h5 i (by lia) hik⟩
  ·rw [if_neg c]
   refine ⟨hp.blt (by lia),hp.blt (by lia),(fun z=>by have:=hp.inj (by lia) (by lia) z;lia),?_⟩
   show kOk lt n (if lt (gt p k) (gt p ((l + r) / 2))=true then _ else _) _
   by_cases d:lt (gt p k) (gt p ((l + r) / 2))=true
   ·rw [if_pos d]
    refine YR S hp hk hr f l ((l + r) / 2) (by lia) (by lia) (by lia) h4 fun i hi hik=>?_
    by_cases e:i=(l + r) / 2
    ·rw [e];exact d
    ·exact S.trans _ _ _ (hp.blt (by lia)) (hp.blt (by lia)) (hp.blt (by lia)) d (hr _ i (by lia) hik)
   ·rw [if_neg d]
    have up:lt (gt p ((l + r) / 2)) (gt p k)=true:=S.tot _ _ (hp.blt (by lia)) (hp.blt (by lia)) (fun z=>by have:=hp.inj (by lia) (by lia) z;lia) (Bool.eq_false_iff.mpr d)
    refine YR S hp hk hr f ((l + r) / 2 + 1) r (by lia) (by lia) (by lia) (fun i hi=>?_) h5
    by_cases e:i=(l + r) / 2
    ·rw [e];exact up
    ·exact S.trans _ _ _ (hp.blt (by lia)) (hp.blt (by lia)) (hp.blt (by lia)) (hr i _ (by lia) (by lia)) up
theorem zad {p:Array Nat} {k d j:Nat} (hk:k < p.size) (hd:d≤k) (hj:j < p.size):gt (bubble p k d) j=if j=k - d then gt p k else if k - d < j∧j≤k then gt p (j - 1) else gt p j:=by
 have e:=getElem?_bubble hk d hd j
 rw [jO (p:=bubble p k d) (k:=j) (by rw [bubble_size];exact hj)] at e
 by_cases h1:j=k - d
 ·rw [if_pos h1,jO hk] at e
  rw [if_pos h1];exact Option.some.inj e
 ·rw [if_neg h1] at e ⊢
  by_cases h2:k - d < j∧j≤k
  ·rw [if_pos h2,jO (by lia)] at e
   rw [if_pos h2];exact Option.some.inj e
  ·rw [if_neg h2,jO hj] at e
   rw [if_neg h2];exact Option.some.inj e
theorem zae (S:SO lt n):∀ (f:Nat) {p:Array Nat} (k:Nat),PP n p→k + f=n→kS lt p k→kOk lt n (kas_bin f p k) fun p'=>PP n p'∧kS lt p' n
 | 0,p,k,hp,hk,hr=>⟨hp,by rw [← hk];exact hr⟩
 | f + 1,p,k,hp,hk,hr=>by
  have hs:=hp.size
  refine jN (wX (YR S hp (by lia) hr k 0 k (Nat.zero_le _) (Nat.le_refl _) (by lia) (fun i hi=>by lia) (fun i h1 h2=>by lia)) fun l ⟨x1,x2,x3⟩=>?_)
  refine zae S f (k + 1) (Array.Perm.trans (bubble_perm _ _ _) hp) (by lia) fun i j hij hj=>?_
  rw [zad (by lia) (by lia) (by lia),zad (by lia) (by lia) (by lia)]
  have e:k - (k - l)=l:=by lia
  rw [e]
  by_cases hi:i=l
  ·rw [if_pos hi,if_neg (by lia),if_pos (by lia)]
   exact x3 _ (by lia) (by lia)
  ·rw [if_neg hi]
   by_cases hi2:l < i∧i≤k
   ·rw [if_pos hi2,if_neg (by lia),if_pos (by lia)]
    exact hr _ _ (by lia) (by lia)
   ·rw [if_neg hi2]
    by_cases hj1:j=l
    ·rw [if_pos hj1]
     exact x2 _ (by lia)
    ·rw [if_neg hj1]
     by_cases hj2:l < j∧j≤k
     ·rw [if_pos hj2]
      by_cases hij2:i < j - 1
      ·exact hr _ _ hij2 (by lia)
      ·lia
     ·rw [if_neg hj2]
      exact hr _ _ hij (by lia)
theorem zbp (S:SO lt n) (hn:1≤n):kOk lt n (kas_sort n) fun p=>PP n p∧kS lt p n:=by
 refine jN (wX (zac S (p:=List.toArray (List.range n)) (Array.Perm.refl _) hn) fun r ⟨x1,x2,x3,x4⟩=>?_)
 by_cases h:r.1 < n
 ·rw [if_pos h,Nat.max_eq_left x3]
  exact zae S _ _ x1 (by lia) x2
 ·rw [if_neg h]
  obtain e:r.1=n:=by lia
  exact ⟨x1,by rw [← e];rw [e] at x2 ⊢;exact x2⟩
end
end L2
namespace L2
open PySem PySem.W PyProof.Rows
theorem zaf {α:Type} {lt:Nat→Nat→Bool} {n:Nat} {s:Shared} {cmp:Nat→Nat→(Bool→Shared→Prop)→Shared→Prop} (hc:∀ i j C,i < n→j < n→i≠j→C (lt i j) s→cmp i j C s):∀ {t:KasT α} {R:α→Prop} {Q:α→Shared→Prop},kOk lt n t R→(∀ a,R a→Q a s)→t.kasWp cmp Q s
 | .ret _,_,_,h,m=>m _ h
 | .ask _ _ _,_,_,h,m=>hc _ _ _ h.1 h.2.1 h.2.2.1 (zaf hc h.2.2.2 m)
def Kp (a:Addr) (h h':Heap):Prop:=∀ b o,b≠a→h.get? b=some o→h'.get? b=some o
def wY (vs:List Value) (p:Array Nat):List Value:=p.toList.map fun i=>vs.getD i Value.none
theorem VC (vs:List Value):wY vs (List.toArray (List.range vs.length))=vs:=by
 unfold wY
 apply List.ext_getElem?
 intro i
 simp only [List.getElem?_map]
 by_cases h:i < vs.length
 ·rw [List.getElem?_eq_getElem (l:=vs) h]
  simp [List.getElem?_range h,h]
 ·rw [List.getElem?_eq_none (by lia:vs.length≤i)]
  simp
  lia
section
variable {P:Program} {w:World} {A:Around} {E:Value→Shared→Prop} {s:Shared}
theorem YS {a:Addr} {vs:List Value} {n:Nat} {κ:SortKind} {lt:Nat→Nat→Bool} {R:PySem.Fin→Shared→Prop} (ho:s.heap.get? a=some (seqObj "list" vs.toArray n)) (h64:vs.length < 64)
  (hk:2≤vs.length→∀ (h:Heap) (Q:SortKind→Shared→Prop),Kp a s.heap h→Q κ { s with heap:=h }→wpAny (model P w) A (keyKind' vs.toArray) Q (fun _ _=>False) { s with heap:=h })
  (hc:∀ (h:Heap) i j C,Kp a s.heap h→i < vs.length→j < vs.length→i≠j→C (lt i j) { s with heap:=h }→kas_ask P w A κ vs i j C { s with heap:=h }) (S:SO lt vs.length)
  (fin:∀ h p c,Kp a s.heap h→h.get? a=some (seqObj "list" (wY vs p).toArray c)→PP vs.length p→kS lt p vs.length→R (.done (.ret .none)) { s with heap:=h }) :
  wpAny (model P w) A (Builtin.«list.sort» ⟨[.ref a],[]⟩) R E s:=by
 have ha:a < s.heap.objs.size:=Heap.lt_size ho
 obtain ⟨e1,o1⟩:∃ e1,(s.heap.update a (Obj.mapSeq fun _=>(#[]:Array Value))).get? a=some (seqObj "list" #[] e1):=⟨_,get?_update_seq ho fun _=>#[]⟩
 have k1:Kp a s.heap (((s.heap.update a (Obj.mapSeq fun _=>(#[]:Array Value))).push (seqObj "tuple" vs.toArray 0)).push (seqObj "list" #[] 0)):=fun b o hb e =>
  Heap.get?_push_of_some _ (Heap.get?_push_of_some _ ((Heap.get?_update_other _ _ (Ne.symm hb)).trans e))
 have o3:(((s.heap.update a (Obj.mapSeq fun _=>(#[]:Array Value))).push (seqObj "tuple" vs.toArray 0)).push (seqObj "list" #[] 0)).get? a=some (seqObj "list" #[] e1):=Heap.get?_push_of_some _ (Heap.get?_push_of_some _ o1)
 have last:∀ out:List Value,out.length=vs.length→∃ c,((((s.heap.update a (Obj.mapSeq fun _=>(#[]:Array Value))).push (seqObj "tuple" vs.toArray 0)).push (seqObj "list" #[] 0)).update a (Obj.mapSeq fun _=>out.toArray)).get? a=some (seqObj "list" out.toArray c):=fun out _=>⟨_,get?_update_seq o3 fun _=>out.toArray⟩
 have keep2:∀ out:List Value,Kp a s.heap ((((s.heap.update a (Obj.mapSeq fun _=>(#[]:Array Value))).push (seqObj "tuple" vs.toArray 0)).push (seqObj "list" #[] 0)).update a (Obj.mapSeq fun _=>out.toArray)):=fun out b o hb e =>
  (Heap.get?_update_other _ _ (Ne.symm hb)).trans (k1 b o hb e)
 rw [list_sort_plain];refine wpAny_bind (listItems_at ho rfl ?_)
 refine wpAny_bind (listUpdate_at ho rfl ?_ (by rw [List.size_toArray,sizeLine_eq];lia) (Nat.zero_le _));refine wpAny_bind (seqEpoch_at o1 rfl ?_)
 refine wpAny_bind (wpAny_newTuple ?_ (by show vs.length≤_;rw [sizeLine_eq];lia));refine wpAny_bind (wpAny_newList ?_ (Nat.zero_le _));refine wpAny_holding ?_
 show wpAny (model P w) A _ R E { s with heap:=((s.heap.update a (Obj.mapSeq fun _=>(#[]:Array Value))).push (seqObj "tuple" vs.toArray 0)).push (seqObj "list" #[] 0) }
 generalize hH:((s.heap.update a (Obj.mapSeq fun _=>(#[]:Array Value))).push (seqObj "tuple" vs.toArray 0)).push (seqObj "list" #[] 0)=g at *
 dsimp only
 have up:∀ out:List Value,out.length=vs.length→∀ p,out=wY vs p→PP vs.length p→kS lt p vs.length→R (.done (.ret .none)) { s with heap:=g.update a (Obj.mapSeq fun _=>out.toArray) }:=fun out hl p e hp hr=>by
  obtain ⟨c,hcc⟩:=last out hl
  refine fin _ p c (keep2 out) ?_ hp hr
  rw [← e];exact hcc
 by_cases h2:vs.toArray.size < 2
 ·have hl2:vs.length < 2:=by simpa using h2
  rw [if_pos h2,if_pos h2];refine wpAny_bind (wpAny_pure ?_);rw [StateT.run_pure];refine wpAny_bind (wpAny_pure ?_)
  dsimp only
  have ez:((vs.toArray.zip vs.toArray).map (·.2))=vs.toArray:=by
   apply Array.toList_inj.mp
   rw [Array.toList_map,Array.toList_zip]
   simp [List.map_snd_zip]
  refine wpAny_bind (seqEpoch_at o3 rfl ?_)
  rw [show (arrOf (SortSt.mk' general' (vs.toArray.zip vs.toArray) #[] 7 none))=vs.toArray.zip vs.toArray from rfl,ez]
  refine wpAny_bind (listUpdate_at o3 rfl ?_ (Nat.zero_le _) (by rw [List.size_toArray,sizeLine_eq];lia))
  simp only [bne_self_eq_false,Bool.false_eq_true,if_false]
  exact wpAny_pure (up vs rfl _ (VC vs).symm (Array.Perm.refl _) fun i j hij hj=>by lia)
 ·have hl2:2≤vs.length:=by simpa using h2
  rw [if_neg h2,if_neg h2];refine wpAny_bind (wpAny_mono (hk hl2 g (fun κ' s'=>κ'=κ∧s'={ s with heap:=g }) k1 ⟨rfl,rfl⟩) (fun κ' s' hs=>?_) fun _ _ x=>x.elim)
  obtain ⟨rfl,rfl⟩:=hs
  have run:=zaf (s:={ s with heap:=g }) (cmp:=kas_ask P w A κ' vs) (fun i j C hi hj hij hC=>hc g i j C k1 hi hj hij hC) (zbp S (by lia)) (Q:=fun p s'=>s'={ s with heap:=g }∧PP vs.length p∧kS lt p vs.length) fun p hp=>⟨rfl,hp⟩
  refine wpAny_bind (wpAny_mono (kat_run (ks:=vs) (Q:=fun st s'=>∃ p:Array Nat,arrOf st=p.map (kas_item (vs.toArray.zip vs.toArray))∧failedOf st=none∧s'={ s with heap:=g }∧PP vs.length p∧kS lt p vs.length) rfl hl2 h64 (fun p st s' _ a2 a3 a4=>⟨p,a2,a3,a4⟩) run) ?_ fun _ _ e=>e)
  rintro ⟨⟨⟩,st⟩ s' ⟨p,har,hf,rfl,hp,hr⟩
  dsimp only
  have out:=kat_snds (ks:=vs) rfl har
  have ol:(wY vs p).length=vs.length:=by unfold wY;rw [List.length_map,Array.length_toList,hp.size]
  rw [out];refine wpAny_bind (seqEpoch_at o3 rfl ?_)
  refine wpAny_bind (listUpdate_at o3 rfl ?_ (Nat.zero_le _) (by show (List.toArray (wY vs p)).size≤_;rw [List.size_toArray,ol,sizeLine_eq];lia));rw [hf]
  simp only [bne_self_eq_false,Bool.false_eq_true,if_false]
  exact wpAny_pure (up (wY vs p) ol p rfl hp hr)
theorem Z1 {l:Addr} {vs:List Value} {κ:SortKind} {lt:Nat→Nat→Bool} {Q:Value→Shared→Prop} (h64:vs.length < 64) (S:SO lt vs.length)
  (coll:∀ R:List Value→Shared→Prop,(∀ (h:Heap) (tk:Nat),(∀ b o,s.heap.get? b=some o→h.get? b=some o)→R vs { s with heap:=h,toks:=tk })→wpAny (model P w) A.in1 (collect (.ref l)) R E s)
  (hk:2≤vs.length→∀ (h:Heap) (tk:Nat) (Q:SortKind→Shared→Prop),(∀ b o,s.heap.get? b=some o→h.get? b=some o)→Q κ { s with heap:=h,toks:=tk }→wpAny (model P w) A.in1.in1 (keyKind' vs.toArray) Q (fun _ _=>False) { s with heap:=h,toks:=tk })
  (hc:∀ (h:Heap) (tk:Nat) i j C,(∀ b o,s.heap.get? b=some o→h.get? b=some o)→i < vs.length→j < vs.length→i≠j→C (lt i j) { s with heap:=h,toks:=tk }→kas_ask P w A.in1.in1 κ vs i j C { s with heap:=h,toks:=tk })
  (fin:∀ (h:Heap) (tk:Nat) (h':Heap) (p:Array Nat) (c:Nat),(∀ b o,s.heap.get? b=some o→h.get? b=some o)→(∀ b o,h.get? b=some o→h'.get? b=some o)→h'.get? h.objs.size=some (seqObj "list" (wY vs p).toArray c)→PP vs.length p→kS lt p vs.length→Q (.ref h.objs.size) { s with heap:=h',toks:=tk }) :
  wpAny (model P w) A (call (.builtin "sorted") [.ref l]) Q E s:=by
 refine Calls.call_function_entry kind_sorted plain_sorted entry_sorted (args_sorted1 _) ?_;unfold Builtin.«sorted»
 refine wpAny_bind (m:=checkCount "sorted" 1 1 _) (wpAny_pure ?_);refine wpAny_bind (coll _ fun h tk hk1=>?_)
 refine wpAny_bind (wpAny_newList ?_ (by rw [sizeLine_eq];lia))
 have hoL:(h.push (seqObj "list" vs.toArray 0)).get? h.objs.size=some (seqObj "list" vs.toArray 0):=Heap.get?_push_size _ rfl
 have kept:∀ h',Kp h.objs.size (h.push (seqObj "list" vs.toArray 0)) h'→∀ b o,h.get? b=some o→h'.get? b=some o:=fun h' k b o e=>k b o (Nat.ne_of_lt (Heap.lt_size e)) (Heap.get?_push_of_some _ e)
 refine wpAny_bind (wpAny_holding (wpAny_call_entry slot_list_sort ⟨_,hoL,rfl⟩ entry_list_sort (YS (s:={ s with heap:=h.push (seqObj "list" vs.toArray 0),toks:=tk }) hoL h64 (κ:=κ) (lt:=lt) (fun h2 h' Q' k q=>?_) (fun h' i j C k hi hj hij q=>?_) S fun h' p c k ho hp hr=>?_) (args_list_sort _)))
 ·exact hk h2 h' tk Q' (fun b o e=>kept h' k b o (hk1 b o e)) q
 ·exact hc h' tk i j C (fun b o e=>kept h' k b o (hk1 b o e)) hi hj hij q
 ·exact ⟨_,rfl,wpAny_pure ⟨_,rfl,fin h tk h' p c hk1 (kept h' k) ho hp hr⟩⟩
end
end L2
namespace L2
open PySem PySem.W PyProof.Rows
def z4 (a b:Str × Int):Bool:=if a.1=b.1 then decide (a.2 < b.2) else decide (a.1.cps.toList < b.1.cps.toList)
def PlAt (h:Heap) (v:Value) (q:Str × Int):Prop:=∃ a o t u n,v=.ref a∧h.get? a=some o∧o.cls=.type "tuple"∧o.data=.seq #[.str q.1 t,.int q.2 u] n
section
variable {P:Program} {w:World} {A:Around} {E:Value→Shared→Prop} {s:Shared}
theorem zbq {a c:Str} {t u:Tok} {Q:Bool→Shared→Prop} (h:Q (decide (a.cps.toList < c.cps.toList)) s):wpAny (model P w) A (oneLt' true (.str a t) (.str c u)) Q E s:=by
 rw [← keyLt'_oneType]
 exact kas_lt_str h
theorem zbr {a c:Int} {t u:Tok} {Q:Bool→Shared→Prop} (h:Q (decide (a < c)) s):wpAny (model P w) A (oneLt' false (.int a t) (.int c u)) Q E s :=
 kat_one _ _ (PyProof.Rows.lt_int (show W.BoolBack Q (.bool (decide (a < c))) s from h))
theorem Qo {x y:Value} {a b:Str × Int} {Q:Bool→Shared→Prop} (hx:PlAt s.heap x a) (hy:PlAt s.heap y b) (h:Q (z4 a b) s) (hn:a≠b):wpAny (model P w) A (keyLt' (tuples' true) x y) Q E s:=by
 obtain ⟨p,o,t,u,n,rfl,ho,hc,hd⟩:=hx
 obtain ⟨p2,o2,t2,u2,n2,rfl,ho2,hc2,hd2⟩:=hy
 refine kat_lt ho hd ho2 hd2 (kat_cons (wpAny_eqBool_str (kat_go (fun e=>kat_yes (kat_cons (wpAny_eqBool_int (kat_go (fun e2=>?_) fun e2=>kat_no ?_)))) fun e=>kat_no ?_)))
 ·exact absurd (Prod.ext (of_decide_eq_true e) (by simpa using e2)) hn
 ·have e:=of_decide_eq_true e
  unfold z4 at h
  rw [if_pos e] at h
  exact zbr h
 ·have e:=of_decide_eq_false e
  unfold z4 at h
  rw [if_neg e] at h
  exact zbq h
theorem JO {vs:List Value} {qs:List (Str × Int)} {Q:SortKind→Shared→Prop} (hl:vs.length=qs.length) (hv:∀ (i:Nat) (v:Value) (q:Str × Int),vs[i]?=some v→qs[i]?=some q→PlAt s.heap v q) (h2:0 < vs.length) (h:Q (tuples' true) s) :
  wpAny (model P w) A (keyKind' vs.toArray) Q E s:=by
 have T:∀ (vs:List Value) (qs:List (Str × Int)),vs.length=qs.length→(∀ (i:Nat) (v:Value) (q:Str × Int),vs[i]?=some v→qs[i]?=some q→PlAt s.heap v q)→∃ fs,KatTups s.heap vs fs∧fs.length=vs.length∧∀ v∈fs,∃ x t,v=Value.str x t:=by
  intro vs
  induction vs with
  | nil=>exact fun qs _ _=>⟨[],trivial,rfl,fun _ z=>nomatch z⟩
  | cons v r ih =>
   intro qs hl hv
   match qs,hl with
   | q :: qr,hl =>
    obtain ⟨fs,k,kl,kf⟩:=ih qr (by simpa using hl) fun i v' q' e1 e2=>hv (i + 1) v' q' (by simpa using e1) (by simpa using e2)
    obtain ⟨a,o,t,u,n,rfl,ho,hc,hd⟩:=hv 0 v q rfl rfl
    refine ⟨.str q.1 t :: fs,KatTups.cons ho hc hd rfl k,by simp [kl],fun z hz=>?_⟩
    rcases List.mem_cons.mp hz with rfl | hz
    ·exact ⟨_,_,rfl⟩
    ·exact kf z hz
 obtain ⟨fs,k,kl,kf⟩:=T vs qs hl hv
 refine kat_kind (T:=.type "str") k (by lia) (fun v hv=>?_) (by decide) h
 obtain ⟨x,t,rfl⟩:=kf v hv
 exact Looks.of_pure rfl
end
theorem VD {x y:Str} (h:x.cps.toList=y.cps.toList):x=y:=by
 obtain ⟨a⟩:=x
 obtain ⟨b⟩:=y
 have:a=b:=Array.toList_inj.mp h
 rw [this]
theorem qU {qs:List (Str × Int)} (hn:qs.Nodup):SO (fun i j=>z4 (qs.getD i ("",0)) (qs.getD j ("",0))) qs.length where
 irr:=fun i _=>by
  unfold z4
  rw [if_pos rfl]
  exact decide_eq_false (by lia)
 trans:=fun i j k _ _ _ h1 h2=>by
  generalize qs.getD i ("",0)=a at *
  generalize qs.getD j ("",0)=b at *
  generalize qs.getD k ("",0)=c at *
  unfold z4 at *
  by_cases e1:a.1=b.1
  ·rw [if_pos e1] at h1
   by_cases e2:b.1=c.1
   ·rw [if_pos e2] at h2
    rw [if_pos (e1.trans e2)]
    have h1:=of_decide_eq_true h1
    have h2:=of_decide_eq_true h2
    exact decide_eq_true (by lia)
   ·rw [if_neg e2] at h2
    rw [if_neg (by rw [e1];exact e2),e1]
    exact h2
  ·rw [if_neg e1] at h1
   have h1:=of_decide_eq_true h1
   by_cases e2:b.1=c.1
   ·rw [if_neg (by rw [← e2];exact e1),← e2]
    exact decide_eq_true h1
   ·rw [if_neg e2] at h2
    have h2:=of_decide_eq_true h2
    have h3:=List.lt_trans h1 h2
    rw [if_neg (fun z=>by rw [z] at h3;exact List.lt_irrefl _ h3)]
    exact decide_eq_true h3
 tot:=fun i j hi hj hij h=>by
  have ne:qs.getD i ("",0)≠qs.getD j ("",0):=fun z=>hij (by
   rw [List.getD_eq_getElem?_getD,List.getD_eq_getElem?_getD,List.getElem?_eq_getElem hi,List.getElem?_eq_getElem hj] at z
   exact (List.getElem_inj hn).mp z)
  generalize qs.getD i ("",0)=a at *
  generalize qs.getD j ("",0)=b at *
  unfold z4 at *
  by_cases e:a.1=b.1
  ·rw [if_pos e] at h
   rw [if_pos e.symm]
   have h:=of_decide_eq_false h
   have:a.2≠b.2:=fun z=>ne (Prod.ext e z)
   exact decide_eq_true (by lia)
  ·rw [if_neg e] at h
   rw [if_neg (fun z=>e z.symm)]
   have h:=of_decide_eq_false h
   refine decide_eq_true ?_
   rcases List.le_iff_lt_or_eq.mp (List.not_lt.mp h) with z | z
   ·exact z
   ·exact absurd (VD z.symm) e
end L2
namespace L2
open PySem
def RawD (h:Heap) (d:Addr) (es:Array DictEntry) (ep:Nat):Prop:=∃ o,h.get? d=some o∧o.ExactDict∧o.data=.dict es ep
section
variable {P:Program} {w:World} {A:Around} {E:Value→Shared→Prop} {s:Shared}
theorem RawD.type {d:Addr} {es:Array DictEntry} {ep:Nat} (x:RawD s.heap d es ep):s.TypeIs (.ref d) "dict":=let ⟨o,ho,hc,_⟩:=x;⟨o,ho,hc.1⟩
theorem RawD.at {h h':Heap} {d:Addr} {es:Array DictEntry} {ep:Nat} (x:RawD h d es ep) (e:∀ o,h.get? d=some o→h'.get? d=some o):RawD h' d es ep:=let ⟨o,ho,r⟩:=x;⟨o,e _ ho,r⟩
theorem zag {d:Addr} {es:Array DictEntry} {ep:Nat} {Q:Value→Shared→Prop} (lo:(d == sysModules)=false) (hm:RawD s.heap d es ep)
  (q:Q (.ref s.heap.objs.size) { s with heap:=s.heap.push { cls:=.type "dict_keyiterator",data:=.fields #[.ref d,.int 0 0,.int es.size 0,.int ep 0] } }):wpAny (model P w) A (pyIter (.ref d)) Q E s:=by
 have T:=hm.type
 obtain ⟨o,ho,hc,hd⟩:=id hm
 refine wpAny_pyIter_slot T F.slot_dict_iter (wpAny_call_entry F.slot_dict_iter T F.entry_dict_iter ?_ (F.args_dict_iter_1 _));unfold Builtin.«dict.__iter__»
 refine wpAny_bind ?_;unfold Builtin.Dict.dictSlotNone;refine wpAny_bind (wpAny_notOrdered_dict T ?_)
 show wpAny _ _ (pure (Value.ref d)) _ _ s;refine wpAny_pure ?_
 show wpAny _ _ (Builtin.Dict.showsAll d >>= _) _ _ s;unfold Builtin.Dict.showsAll
 rw [if_neg (by rw [lo];exact Bool.false_ne_true)];refine wpAny_bind (wpAny_pure ?_)
 refine wpAny_bind (wpAny_dictEntries ho hd ?_);refine wpAny_bind (wpAny_dictEpoch ho hd ?_)
 refine wpAny_bind (wpAny_newObj_type (wpAny_pure ⟨_,rfl,"dict_keyiterator",_,⟨_,Heap.get?_push_size _ rfl,rfl⟩,F.slot_dict_keyiterator_next.lookup,?_⟩));simpa [rawInt] using q
theorem zah {it d:Addr} {i ep:Nat} {es:Array DictEntry} {e:DictEntry} {Q:Option Value→Shared→Prop} (hit:s.heap.IsKeyIter it d i es.size ep) (hm:RawD s.heap d es ep) (hx:es[i]?=some e)
  (q:∀ h,h.IsKeyIter it d (i + 1) es.size ep→Heap.SameBut it s.heap h→Q (some e.key) { s with heap:=h }):wpAny (model P w) A (pyNext (.ref it)) Q E s:=by
 obtain ⟨o,ho,hc,hd⟩:=id hit
 obtain ⟨od,hod,hcd,hdd⟩:=id hm
 have lt:i < es.size:=by
  rcases Nat.lt_or_ge i es.size with h | h
  ·exact h
  ·rw [Array.getElem?_eq_none h] at hx;cases hx
 unfold pyNext
 refine wpAny_bind (wpAny_attempt (wpAny_callSpecial?_slot (name:=Str.ofString "__next__") hit.typeIs F.slot_dict_keyiterator_next (wpAny_call_entry F.slot_dict_keyiterator_next hit.typeIs F.entry_dict_keyiterator_next ?_ (F.args_dict_keyiterator_next_1 _))))
 refine wpAny_bind (wpAny_pure ?_);refine wpAny_bind ?_;refine wpAny_bind ?_
 first | (refine wpAny_bind (wpAny_typeNameOfWhole_keyiter hit.typeIs (wpAny_pure ?_))) | (refine wpAny_bind (wpAny_typeNameOf_keyiter hit.typeIs (wpAny_pure ?_)))
 refine wpAny_bind (wpAny_fieldsOf ho hd ?_);have own:Builtin.Dict_items.ownsTuple "dict_keyiterator"=false:=by decide
 simp only [own,Bool.false_eq_true,if_false];show wpAny _ _ (if (Value.ref d == Value.none)=true then _ else _) _ _ s
 rw [if_neg (show ¬ ((Value.ref d == Value.none)=true) from Bool.false_ne_true)];refine wpAny_bind (wpAny_pure ?_);refine wpAny_bind (wpAny_dictEntries hod hdd ?_)
 rw [if_neg (by simp)];refine wpAny_bind (wpAny_pure ?_);refine wpAny_bind (wpAny_dictEpoch hod hdd ?_);rw [if_neg (by simp)];refine wpAny_pure ?_
 simp only [show ¬ ((i:Int) < 0) from by lia,if_false,Int.toNat_natCast,hx]
 refine wpAny_bind ?_
 first | (refine wpAny_bind (wpAny_typeNameOfWhole_keyiter hit.typeIs (wpAny_pure ?_))) | (refine wpAny_bind (wpAny_typeNameOf_keyiter hit.typeIs (wpAny_pure ?_)))
 refine wpAny_bind (wpAny_isOneOf_keyiter hit.typeIs ?_);show wpAny _ _ (setField (.ref it) 1 (rawInt ((i:Int) + 1)) >>= _) _ _ s
 refine wpAny_bind (wpAny_setField ho hd (by simp) ?_)
 have next:(s.heap.update it (Obj.mapFields (·.setIfInBounds 1 (rawInt ((i:Int) + 1))))).IsKeyIter it d (i + 1) es.size ep:=by
  refine ⟨_,Heap.get?_update_self _ ho (Obj.isFreed_of_fields (Obj.data_mapFields hd _)),(Obj.cls_mapFields ..).trans hc,?_⟩;rw [Obj.data_mapFields hd];simp [rawInt]
 refine wpAny_bind (wpAny_holding ?_)
 refine wpAny_bind (wpAny_isOneOf_keyiter (s:={ s with heap:=s.heap.update it (Obj.mapFields (·.setIfInBounds 1 (rawInt ((i:Int) + 1)))) }) next.typeIs ?_);show wpAny _ _ (pure e.key) _ _ _
 exact wpAny_pure (wpAny_pure ⟨_,rfl,wpAny_pure (q _ next (Heap.SameBut.update ..))⟩)
theorem zbs {it d:Addr} {i ep:Nat} {es:Array DictEntry} {Q:Option Value→Shared→Prop} (hh:A.handled=none) (hit:s.heap.IsKeyIter it d i es.size ep) (hm:RawD s.heap d es ep) (hx:es.size≤i)
  (q:∀ h,Heap.ExtBut it s.heap h→Q none { s with heap:=h }):wpAny (model P w) A (pyNext (.ref it)) Q E s:=by
 obtain ⟨o,ho,hc,hd⟩:=id hit
 obtain ⟨od,hod,hcd,hdd⟩:=id hm
 unfold pyNext
 refine wpAny_bind (wpAny_attempt (wpAny_callSpecial?_slot (name:=Str.ofString "__next__") hit.typeIs F.slot_dict_keyiterator_next (wpAny_call_entry F.slot_dict_keyiterator_next hit.typeIs F.entry_dict_keyiterator_next ?_ (F.args_dict_keyiterator_next_1 _))))
 refine wpAny_bind (wpAny_pure ?_);refine wpAny_bind ?_;refine wpAny_bind ?_
 first | (refine wpAny_bind (wpAny_typeNameOfWhole_keyiter hit.typeIs (wpAny_pure ?_))) | (refine wpAny_bind (wpAny_typeNameOf_keyiter hit.typeIs (wpAny_pure ?_)))
 refine wpAny_bind (wpAny_fieldsOf ho hd ?_);have own:Builtin.Dict_items.ownsTuple "dict_keyiterator"=false:=by decide
 simp only [own,Bool.false_eq_true,if_false];show wpAny _ _ (if (Value.ref d == Value.none)=true then _ else _) _ _ s
 rw [if_neg (show ¬ ((Value.ref d == Value.none)=true) from Bool.false_ne_true)];refine wpAny_bind (wpAny_pure ?_);refine wpAny_bind (wpAny_dictEntries hod hdd ?_)
 rw [if_neg (by simp)];refine wpAny_bind (wpAny_pure ?_);refine wpAny_bind (wpAny_dictEpoch hod hdd ?_);rw [if_neg (by simp)];refine wpAny_pure ?_
 simp only [show ¬ ((i:Int) < 0) from by lia,if_false,Int.toNat_natCast,Array.getElem?_eq_none hx]
 refine wpAny_bind ?_
 first | (refine wpAny_bind (wpAny_typeNameOfWhole_keyiter hit.typeIs (wpAny_pure ?_))) | (refine wpAny_bind (wpAny_typeNameOf_keyiter hit.typeIs (wpAny_pure ?_)))
 show wpAny _ _ (setField (.ref it) 0 .none >>= _) _ _ s;refine wpAny_bind (wpAny_setField ho hd (by simp) ?_)
 show wpAny _ _ (newExc (.type "StopIteration") [] >>= _) _ _ _;refine wpAny_bind ?_;simp only [newExc,newTuple]
 refine wpAny_bind (wpAny_newObj_type ?_ (by size_fits));refine wpAny_bind (m:=firstArgMember _ _) (wpAny_of_eq (a:=Value.none) (by first | rfl | (simp only [firstArgMember];rfl)) ?_)
 refine wpAny_newObj_type ?_ (by size_fits);simp only [raiseNew]
 refine wpAny_bind (wpAny_handled ?_);rw [show A.in1.handled=none from hh];refine wpAny_bind (wpAny_pure (wpAny_throw ?_))
 exact wpAny_bind (wpAny_isInstance (T:="StopIteration") (b:=true) ⟨_,Heap.get?_push_size _ rfl,rfl⟩ isSubtype_stop (wpAny_pure (q _ (((Heap.SameBut.update ..).extBut.push _).push _))))
theorem Qp (hh:A.handled=none) (I d:Addr) (hne:d≠I) (es:Array DictEntry) (ep:Nat) :
  Walks P w A I [I,d] [I] es.size (fun i v=>∃ e,es[i]?=some e∧v=e.key) (fun i h=>h.IsKeyIter I d i es.size ep∧RawD h d es ep) where
 sub:=fun b hb=>by simp at hb;simp [hb]
 frame:=fun _ _ _ st hk=>⟨st.1.at fun o e=>hk I (by simp) o e,st.2.at fun o e=>hk d (by simp) o e⟩
 item:=fun i s Q E hi st hQ=>by
  refine zah st.1 st.2 (Array.getElem?_eq_getElem hi) fun h' hit' hs'=>?_
  exact hQ _ h' s.toks ⟨_,Array.getElem?_eq_getElem hi,rfl⟩ ⟨hit',st.2.at fun o e=>hs'.extBut d o hne e⟩ fun b o hb e=>hs'.extBut b o (fun h=>hb (by simp [h])) e
 done:=fun s Q E st hQ=>zbs hh st.1 st.2 (Nat.le_refl _) fun h' he'=>hQ h' s.toks fun b o hb e=>he' b o (fun h=>hb (by simp [h])) e
 self:=fun _ _ _ _ st hQ=>wpAny_pyIter_keyiter st.1 hQ
end
end L2
namespace L2
open PySem PySem.Spec PyProof.Rows
section
open PySem.SeqAt
open PySem.AutoSeq1 (wpAny_loadPart')
open PySem.MeetsSeq PySem.MeetsSeq2 PySem.MeetsSeq3
theorem YT (l b:Addr) (x y:Str) (i j:Int) (t u t2 u2:Tok) (n n2:Nat) (dd dd2:Option Addr) (sl sl2:Array (Option Value)) :
  Meets (Builtin.«tuple.__lt__» ⟨[.ref l,.ref b],[]⟩) (fun _ R s=>s.heap.get? l=some { cls:=.type "tuple",dict:=dd,data:=.seq #[.str x t,.int i u] n,slots:=sl } ∧
   s.heap.get? b=some { cls:=.type "tuple",dict:=dd2,data:=.seq #[.str y t2,.int j u2] n2,slots:=sl2 }∧R (.ok (.ret (.bool (z4 (x,i) (y,j))))) s) :=
 .of_wp fun prog w A R s h=>by
  obtain ⟨hp,g,d,tk,os⟩:=s;obtain ⟨hl,hb,h⟩:=h
  have f2:=AutoSeq1.sub_tuple_tuple
  have lt1:∀ (E:Value→Shared→Prop) (Q:Value→Shared→Prop) (s:Shared),Q (.bool (decide (x.cps.toList < y.cps.toList))) s→wpAny (model prog w) A.in1 (richCompare .Lt (.str x t) (.str y t2)) Q E s:=fun E Q s q=>(PyProof.Rows.lt_str q:wpAny (model prog w) A.in1 (compareOp .Lt (.str x t) (.str y t2)) Q E s)
  have lt2:=HT.rcLt_int A.in1 ⟨hp,g,d,tk,os⟩ i u j u2 prog w
  by_cases e:x=y
  ·subst e
   have eq1:=SeqAt.EqAt.str_str (A:=A.in1) (s:=⟨hp,g,d,tk,os⟩) x t x t2 prog w
   rw [beq_self_eq_true] at eq1
   unfold z4 at h
   rw [if_pos rfl] at h
   by_cases e2:i=j
   ·subst e2
    have eq2:=SeqAt.EqAt.int_int (A:=A.in1) (s:=⟨hp,g,d,tk,os⟩) i u i u2 prog w
    rw [beq_self_eq_true] at eq2
    wp_walk using wpAny_loadPart' hl,wpAny_loadPart' hb,eq1,eq2
    exact ⟨_,rfl,by simpa [Builtin.Tuple.tupleCompareSizes] using h⟩
   ·have eq2:=SeqAt.EqAt.int_int (A:=A.in1) (s:=⟨hp,g,d,tk,os⟩) i u j u2 prog w
    rw [show (i == j)=false from by simpa using e2] at eq2
    wp_walk using wpAny_loadPart' hl,wpAny_loadPart' hb,eq1,eq2,lt2
    exact ⟨_,rfl,by simpa using h⟩
  ·have eq1:=SeqAt.EqAt.str_str (A:=A.in1) (s:=⟨hp,g,d,tk,os⟩) x t y t2 prog w
   rw [show (x == y)=false from by simpa using e] at eq1
   unfold z4 at h
   rw [if_neg e] at h
   wp_walk using wpAny_loadPart' hl,wpAny_loadPart' hb,eq1,lt1
   exact ⟨_,rfl,by simpa using h⟩
end
end L2
namespace L2
open PySem PySem.Spec PyProof.Rows
section
variable {P:Program} {w:World} {A:Around} {E:Value→Shared→Prop} {s:Shared}
theorem RawD.lt {h:Heap} {d:Addr} {es:Array DictEntry} {ep:Nat} (x:RawD h d es ep):d < h.objs.size:=let ⟨_,ho,_⟩:=x;Heap.lt_size ho
theorem zbt {d:Addr} {es:Array DictEntry} {ep:Nat} (lo:(d == sysModules)=false):W.KdlSrc P w "dict" d d es.size (fun i v=>∃ e,es[i]?=some e∧v=e.key) (fun h=>RawD h d es ep) where
 type:=fun _ hm=>hm.type
 there:=fun _ hm=>⟨hm.lt,hm.lt⟩
 keep:=fun _ _ hm hk=>hm.at fun o e=>hk d (.inl rfl) o e
 notList:=by decide
 notTuple:=by decide
 hint:=fun _ _ _ _ hm hq=>W.kdl_hint_dict hm.type hq
 iter:=fun _ _ hh hm=>⟨_,_,(fun _ _ hq=>zag lo hm hq),Qp hh _ d (Nat.ne_of_lt hm.lt) es ep,⟨⟨_,Heap.get?_push_size _ rfl,rfl,rfl⟩,hm.at fun o e=>Heap.get?_push_of_some _ e⟩⟩
theorem VE {T:String} {r d:Addr} {n:Nat} {G:Nat→Value→Prop} {OK:Heap→Prop} {R:List Value→Shared→Prop} (K:W.KdlSrc P w T r d n G OK) (hh:A.handled=none) (hok:OK s.heap) (hn:n≤sizeLine)
  (h:∀ (h':Heap) (tk:Nat) (vs:List Value),(∀ b o,s.heap.get? b=some o→h'.get? b=some o)→vs.length=n→(∀ j v,vs[j]?=some v→G j v)→R vs { s with heap:=h',toks:=tk }) :
  wpAny (model P w) A (collect (.ref r)) R E s:=by
 obtain ⟨lr,ld⟩:=K.there _ hok
 unfold collect
 refine wpAny_bind (wpAny_runValue (codeAny_builtin entry_proto_collect' ?_));rw [Around.under_plainId PySem.F.plain_proto_collect _]
 show wpAny _ A.in1 (newList [] >>= fun l=>again (.builtin "list.__iadd__" ⟨[l,.ref r],[]⟩)) _ _ s;refine wpAny_bind (wpAny_newObj_type ?_)
 refine wpAny_pure ⟨plainId_quiet PySem.F.plain_list_iadd _,codeAny_builtin entry_list_iadd' ?_⟩;rw [Around.under_plainId PySem.F.plain_list_iadd _]
 have hS:(s.heap.push { cls:=.type "list",data:=.seq ([]:List Value).toArray }).get? s.heap.objs.size=some { cls:=.type "list",data:=.seq #[] }:=Heap.get?_push_size _ rfl
 show wpAny _ A.in1 (Builtin.List.listExtendWith (.ref s.heap.objs.size) (.ref r) (.ref s.heap.objs.size)) _ _ _
 have key:=W.kdl_extend (A:=A) (s:={ s with heap:=s.heap.push { cls:=.type "list",data:=.seq ([]:List Value).toArray } }) (R:=fun (q:Result) (s':Shared)=>∃ (h':Heap) (tk:Nat) (acc:Array Value) (c:Nat),q=.ok (.ret (.ref s.heap.objs.size))∧s'={ s with heap:=h',toks:=tk } ∧
   (∀ b o,s.heap.get? b=some o→h'.get? b=some o)∧h'.get? s.heap.objs.size=some { cls:=.type "list",dict:=none,data:=.seq acc c,slots:=#[] }∧ItemsOf G acc n) K hh (K.keep _ _ hok fun b _ o e=>Heap.get?_push_of_some _ e) s.heap.objs.size (Nat.ne_of_gt lr) (Nat.ne_of_gt ld) (.ref s.heap.objs.size) 0 hS
  (fun h' tk acc c hk hS' hacc=>⟨h',tk,acc,c,rfl,rfl,fun b o e=>hk b o (Nat.ne_of_lt (Heap.lt_size e)) (Heap.get?_push_of_some _ e),hS',hacc⟩) hn
 refine wpAny_mono key (fun fin s' x=>?_) fun e s' x=>?_
 ·cases fin with
  | done f =>
   obtain ⟨h',tk,acc,c,e,rfl,hk,hS',hacc⟩:=x
   cases e
   show wpAny _ A (load s.heap.objs.size >>= _) _ _ _;refine wpAny_bind (wpAny_load hS' ?_)
   exact wpAny_pure (h h' tk acc.toList hk (by rw [Array.length_toList];exact hacc.1) fun j v e=>hacc.2 j v (by rw [← Array.getElem?_toList];exact e))
  | again c =>
   refine ⟨x.1,codeAny_mono x.2 fun q s' x=>?_⟩
   obtain ⟨h',tk,acc,c,rfl,rfl,hk,hS',hacc⟩:=x
   show wpAny _ A (load s.heap.objs.size >>= _) _ _ _;refine wpAny_bind (wpAny_load hS' ?_)
   exact wpAny_pure (h h' tk acc.toList hk (by rw [Array.length_toList];exact hacc.1) fun j v e=>hacc.2 j v (by rw [← Array.getElem?_toList];exact e))
 ·obtain ⟨h',tk,acc,c,e',_⟩:=x
  cases e'
end
end L2
namespace L2
open PySem PySem.Spec PyProof.Rows
def zP (q:Str × Int):List Key:=[.inr q.1,.inl q.2]
abbrev Ky:RC:=fun xs H Q=>∃ (a:Addr) (kvs:List (List Key × V)) (qs:List (Str × Int)),xs=[.ref a]∧H a=some (.dT kvs)∧kvs.map (·.1)=qs.map zP∧kvs.length < 64 ∧
 ∀ (l:Addr) (ps:List (Addr × (Str × Int))),H l=none→(ps.map (·.2)).Perm qs→(ps.map (·.2)).Pairwise (fun a b=>z4 a b=true)→(∀ n∈ps,H n.1=some (.tup [.str n.2.1,.int n.2.2]))→Q (.ref l) (upd H l (.lst (ps.map fun n=>V.ref n.1)))
theorem yp {α β:Type} {F:α→β→Prop}:∀ {l₁:List α} {l₂:List β},Paired F l₁ l₂→∀ {i:Nat} {a:α} {b:β},l₁[i]?=some a→l₂[i]?=some b→F a b
 | _,_,.nil,i,a,b,h,_=>by simp at h
 | _,_,.cons x r,0,a,b,h1,h2=>by
  simp only [List.getElem?_cons_zero,Option.some.injEq] at h1 h2
  subst h1 h2
  exact x
 | _,_,.cons x r,i + 1,a,b,h1,h2=>yp r (by simpa using h1) (by simpa using h2)
theorem PlAt.keep {h h':Heap} {v:Value} {q:Str × Int} (x:PlAt h v q) (k:∀ b o,h.get? b=some o→h'.get? b=some o):PlAt h' v q:=by
 obtain ⟨a,o,t,u,n,e,ho,r⟩:=x
 exact ⟨a,o,t,u,n,e,k _ _ ho,r⟩
section
variable {X:Cx}
theorem VF {pins:List (Addr × Obj)} {σ:St} {H:Hp} {s:Shared} {a:Addr} {q:Str × Int} (I:Inv X pins σ H s) (h:H a=some (.tup [.str q.1,.int q.2])):PlAt s.heap (.ref a) q:=by
 obtain ⟨its,rv,⟨o,ho,hc,n,hd⟩,_⟩:=I.tuple (SqT.of h)
 cases rv with
 | cons r1 rr =>
  cases rr with
  | cons r2 rn =>
   cases rn
   obtain ⟨t,rfl⟩:=r1
   obtain ⟨u,rfl⟩:=r2
   exact ⟨a,o,t,u,n,rfl,ho,hc,hd⟩
theorem wP {α β:Type} {f:α→β}:∀ {l:List α},(l.map f).Nodup→l.Nodup
 | [],_=>List.nodup_nil
 | a :: r,h=>by
  rw [List.map_cons,List.nodup_cons] at h
  exact List.nodup_cons.mpr ⟨fun z=>h.1 (List.mem_map_of_mem z),wP h.2⟩
theorem WI (hc:X.calm=true):ky X (.builtin "sorted") Ky:=by
 intro pins s σ H xs us Q I r h
 obtain ⟨a,kvs,qs,rfl,ha,hk,h64,q⟩:=h
 obtain ⟨u,rfl,ru⟩:=ZX r
 cases ru
 obtain ⟨hz,lo,xs,rel,o,es,ep,ho,hx,hd,he,hn⟩:=(show ObjOk X.prog X.w H s.heap a (.dT kvs) from I.hok a _ ha)
 have hh:X.A.handled=none:=I.ok.hd hc
 have lk:kvs.length=qs.length:=by have:=congrArg List.length hk;simpa using this
 have lx:kvs.length=xs.length:=Paired.length rel
 have les:es.size=xs.length:=by rw [← Array.length_toList,he,List.length_map]
 -- the keys in their order
 have key:∀ (i:Nat) (x:List Key × Addr × Value),xs[i]?=some x→∃ q,qs[i]?=some q∧x.1=zP q∧H x.2.1=some (.tup [.str q.1,.int q.2]):=fun i x hx=>by
  have hi:=(List.getElem?_eq_some_iff.mp hx).1
  obtain ⟨kv,hkv⟩:∃ kv,kvs[i]?=some kv:=⟨_,List.getElem?_eq_getElem (by lia)⟩
  obtain ⟨q,hq⟩:∃ q,qs[i]?=some q:=⟨_,List.getElem?_eq_getElem (by lia)⟩
  have rl:=yp rel hkv hx
  have e1:kv.1=zP q:=by
   have e1:(kvs.map (·.1))[i]?=some kv.1:=by rw [List.getElem?_map,hkv];rfl
   have e2:(qs.map zP)[i]?=some (zP q):=by rw [List.getElem?_map,hq];rfl
   rw [hk,e2] at e1
   exact (Option.some.inj e1).symm
  refine ⟨q,hq,by rw [← rl.1,e1],?_⟩
  have:=rl.2.1
  rw [e1] at this
  exact this
 have nq:qs.Nodup:=by
  refine wP (f:=zP) ?_
  have e:xs.map (·.1)=qs.map zP:=by
   rw [← hk]
   apply List.ext_getElem?
   intro i
   rw [List.getElem?_map,List.getElem?_map]
   cases hx:xs[i]? with
   | none =>
    have:xs.length≤i:=by simpa using hx
    rw [List.getElem?_eq_none (by lia:kvs.length≤i)]
    rfl
   | some x =>
    have hi:=(List.getElem?_eq_some_iff.mp hx).1
    have hkv:kvs[i]?=some kvs[i]:=List.getElem?_eq_getElem (by lia)
    rw [hkv]
    have:=(yp rel hkv hx).1
    simp [this]
  rw [← e];exact hn
 have vv:∀ (i:Nat) (v:Value) (q:Str × Int),(xs.map fun x=>Value.ref x.2.1)[i]?=some v→qs[i]?=some q→PlAt s.heap v q:=fun i v q hv hq=>by
  rw [List.getElem?_map] at hv
  obtain ⟨x,hx,rfl⟩:=Option.map_eq_some_iff.mp hv
  obtain ⟨q',hq',_,hH⟩:=key i x hx
  rw [hq] at hq'
  cases hq'
  exact VF I hH
 have lv:(xs.map fun x=>Value.ref x.2.1).length=qs.length:=by rw [List.length_map];lia
 have vat:∀ i,i < qs.length→PlAt s.heap ((xs.map fun x=>Value.ref x.2.1).getD i Value.none) (qs.getD i ("",0)):=fun i hi=>by
  refine vv i _ _ ?_ ?_
  ·rw [List.getD_eq_getElem?_getD,List.getElem?_eq_getElem (by rw [lv];exact hi)];rfl
  ·rw [List.getD_eq_getElem?_getD,List.getElem?_eq_getElem hi];rfl
 have S:=qU nq
 rw [← lv] at S
 refine Z1 (vs:=xs.map fun x=>Value.ref x.2.1) (κ:=tuples' true) (by rw [List.length_map];lia) S (fun R hR=>?_) (fun h2 h tk Q' kp q'=>?_) (fun h tk i j C kp hi hj hij q'=>?_) fun h tk h' p c k1 k2 hD hp hr=>?_
 ·refine VE (zbt (ep:=ep) (es:=es) lo) hh ⟨o,ho,hx,hd⟩ (by rw [les];lia) fun h' tk vs kp hl hG=>?_
  have ev:vs=xs.map fun x=>Value.ref x.2.1:=by
   apply List.ext_getElem?
   intro i
   by_cases hi:i < vs.length
   ·obtain ⟨e,hes,ek⟩:=hG i vs[i] (List.getElem?_eq_getElem hi)
    have e2:es.toList[i]?=some e:=by rw [Array.getElem?_toList];exact hes
    rw [he,List.getElem?_map] at e2
    obtain ⟨x,hxx,ex⟩:=Option.map_eq_some_iff.mp e2
    rw [List.getElem?_eq_getElem hi,ek,List.getElem?_map,hxx,← ex]
    rfl
   ·rw [List.getElem?_eq_none (by lia),List.getElem?_eq_none (by rw [List.length_map];lia)]
  rw [ev]
  exact hR h' tk kp
 ·exact JO (s:={ s with heap:=h,toks:=tk }) lv (fun i v q hv hq=>(vv i v q hv hq).keep kp) (by lia) q'
 ·rw [lv] at hi hj
  refine Qo (s:={ s with heap:=h,toks:=tk }) ((vat i hi).keep kp) ((vat j hj).keep kp) q' fun z=>hij ?_
  rw [List.getD_eq_getElem?_getD,List.getD_eq_getElem?_getD,List.getElem?_eq_getElem hi,List.getElem?_eq_getElem hj] at z
  exact (List.getElem_inj nq).mp z
 ·have I1:Inv X pins σ H { s with heap:=h,toks:=tk }:=I.kept k1
  have ps:∃ ps:List (Addr × (Str × Int)),ps.map (fun n=>Value.ref n.1)=wY (xs.map fun x=>Value.ref x.2.1) p∧ps.map (·.2)=p.toList.map (fun i=>qs.getD i ("",0))∧∀ n∈ps,H n.1=some (.tup [.str n.2.1,.int n.2.2]):=by
   have pl:∀ i∈p.toList,i < xs.length:=fun i hi=>by
    have:i∈p:=by simpa using hi
    have:=(Array.Perm.mem_iff hp).mp this
    rw [List.length_map] at this
    simpa using this
   refine ⟨p.toList.map fun i=>((xs.getD i ([],0,.none)).2.1,qs.getD i ("",0)),?_,by rw [List.map_map];rfl,fun n hn=>?_⟩
   ·unfold wY
    rw [List.map_map]
    refine List.map_congr_left fun i hi=>?_
    have:=pl i hi
    simp [List.getD_eq_getElem?_getD,List.getElem?_map,List.getElem?_eq_getElem this]
   ·obtain ⟨i,hi,rfl⟩:=List.mem_map.mp hn
    have hl:=pl i hi
    obtain ⟨q,hq,_,hH⟩:=key i xs[i] (List.getElem?_eq_getElem hl)
    have e1:xs.getD i ([],0,.none)=xs[i]:=by rw [List.getD_eq_getElem?_getD,List.getElem?_eq_getElem hl];rfl
    have e2:qs.getD i ("",0)=q:=by rw [List.getD_eq_getElem?_getD,hq];rfl
    show H (xs.getD i ([],0,.none)).2.1=some (.tup [.str (qs.getD i ("",0)).1,.int (qs.getD i ("",0)).2])
    rw [e1,e2]
    exact hH
  obtain ⟨ps,e1,e2,hps⟩:=ps
  have vr:Vals (ps.map fun n=>V.ref n.1) (ps.map fun n=>Value.ref n.1):=by
   clear e1 e2 hps
   induction ps with
   | nil=>exact .nil
   | cons n r ih=>exact .cons rfl ih
  have psz:p.size=xs.length:=by have:=hp.size;rw [List.length_map] at this;exact this
  have pln:ps.length=xs.length:=by have:=congrArg List.length e1;unfold wY at this;simpa [psz] using this
  have I2:Inv X pins σ (upd H h.objs.size (.lst (ps.map fun n=>V.ref n.1))) { s with heap:=h',toks:=tk }:=I1.laid (s:={ s with heap:=h,toks:=tk }) (a:=h.objs.size) (o:=.lst (ps.map fun n=>V.ref n.1)) (t':=tk) k2 (Nat.le_refl _)
   ⟨by rw [List.length_map];lia,ps.map fun n=>Value.ref n.1,c,vr,by rw [e1];exact hD⟩
  refine ⟨.ref h.objs.size,_,I2,rfl,q _ ps (I1.hok.fresh (Nat.le_refl _)) ?_ ?_ hps⟩
  ·rw [e2]
   have pr:p.toList.Perm (List.range qs.length):=by
    have:=Array.perm_iff_toList_perm.mp hp
    rw [lv] at this
    simpa using this
   refine (pr.map _).trans ?_
   have:(List.range qs.length).map (fun i=>qs.getD i ("",0))=qs:=by
    apply List.ext_getElem?
    intro i
    rw [List.getElem?_map]
    by_cases hi:i < qs.length
    ·rw [List.getElem?_range hi,List.getElem?_eq_getElem hi]
     simp [List.getD_eq_getElem?_getD,List.getElem?_eq_getElem hi]
    ·rw [List.getElem?_eq_none (by simpa using hi),List.getElem?_eq_none (by lia)]
     rfl
   rw [this]
  ·rw [e2,List.pairwise_map,List.pairwise_iff_getElem]
   intro i j hi hj hij
   rw [Array.length_toList] at hi hj
   have g1:=jO hi
   have g2:=jO hj
   have r:=hr i j hij (by rw [List.length_map];lia)
   have x1:p.toList[i]=gt p i:=by
    rw [Array.getElem?_eq_getElem hi] at g1
    simpa using g1
   have x2:p.toList[j]=gt p j:=by
    rw [Array.getElem?_eq_getElem hj] at g2
    simpa using g2
   rw [x1,x2]
   exact r
end
end L2
namespace L2
open PySem PySem.Spec PyProof.Rows
def Itd (a:Addr) (o:Obj) (kvs:List (List Key × V)):It :=
 ⟨fun i H=>H a=some (.frz o (.dT kvs))∧i < kvs.length,fun i H x H'=>H'=H∧∃ k v p,kvs[i]?=some (k,v)∧x=.ref p∧H p=some (.tup (k.map kV)),fun i H=>H a=some (.frz o (.dT kvs))∧kvs.length≤i⟩
section
variable {X:Cx}
def iDT (tl:TE):TI:=fun σ H R=>tl σ H fun x H1=>∃ a o kvs,x=.ref a∧H1 a=some (.frz o (.dT kvs))∧R (Itd a o kvs) H1
def zai:HO→Prop
 | .tup _=>False
 | .own _=>False
 | .tbl _=>False
 | _=>True
theorem Inv.relab {pins:List (Addr × Obj)} {σ:St} {H:Hp} {s:Shared} {a:Addr} {u u':HO} (I:Inv X pins σ H s) (ha:H a=some u) (hp:zai u) (hf:∀ o z,X.H₀ a≠some (.frz o z)) (ho:ObjOk X.prog X.w (upd H a u') s.heap a u'):Inv X pins σ (upd H a u') s:=by
 have nn:∀ b,H b=none→b≠a:=fun b n z=>by subst z;rw [n] at ha;cases ha
 have ntup:∀ b xs,H b=some (.tup xs)→b≠a:=fun b xs q z=>by subst z;rw [ha] at q;cases q;exact hp
 have nown:∀ b y,H b=some (.own y)→b≠a:=fun b y q z=>by subst z;rw [ha] at q;cases q;exact hp
 have ntbl:∀ b y,H b=some (.tbl y)→b≠a:=fun b y q z=>by subst z;rw [ha] at q;cases q;exact hp
 refine ⟨I.ok,I.os,I.bare,⟨I.base.keep,I.base.slot,fun b o q n hb=>?_,I.base.there,fun b xs q=>?_,fun b o z q=>?_,fun b ps q=>?_⟩,I.loc,I.cell,?_,fun x c e=>?_,fun p hp=>?_,fun b v q=>?_,I.len⟩
 ·have:=I.base.free b o q n hb
  rw [zk (nn b this)];exact this
 ·have:=I.base.tups b xs q
  rw [zk (ntup b xs this)];exact this
 ·have:=I.base.frzs b o z q
  rw [zk (fun e=>hf o z (by rw [← e];exact q))];exact this
 ·obtain ⟨m,e⟩:=I.base.tbls b ps q
  exact ⟨m,by rw [zk (ntbl b _ e)];exact e⟩
 ·rw [zk (nn _ I.free)];exact I.free
 ·have:=I.freeC x c e
  rw [zk (nn _ this)];exact this
 ·obtain ⟨h1,h2,h3⟩:=I.pin p hp
  exact ⟨h1,by rw [zk (nn _ h2)];exact h2,h3⟩
 ·by_cases hb:b=a
  ·subst hb
   rw [zd] at q;cases q;exact ho
  ·rw [zk hb] at q
   exact (I.hok b v q).stay (fun _ _ _ r=>r) (fun c r=>by rw [zk (nown c b r)];exact r) fun c xs r=>by rw [zk (ntup c xs r)];exact r
def zdw (t:TS):TS:=fun D σ H=>∃ a u0 kvs,H a=some u0∧(u0=.dT kvs∨∃ o,u0=.frz o (.dT kvs))∧∀ o,t
 ⟨fun σ' H'=>H' a=some (.frz o (.dT kvs))∧D.nx σ' (upd H' a u0),fun v H'=>H' a=some (.frz o (.dT kvs))∧D.rt v (upd H' a u0),fun σ' H'=>H' a=some (.frz o (.dT kvs))∧D.bk σ' (upd H' a u0),fun σ' H'=>H' a=some (.frz o (.dT kvs))∧D.ct σ' (upd H' a u0)⟩ σ (upd H a (.frz o (.dT kvs)))
theorem ObjOk.upd_dT {P:Program} {w:World} {H:Hp} {h:Heap} {a:Addr} {kvs:List (List Key × V)} {u u':HO} (ha:H a=some u) (hp:zai u) (x:ObjOk P w H h a (.dT kvs)):ObjOk P w (upd H a u') h a (.dT kvs):=by
 refine x.stay (fun _ _ _ r=>r) (fun c r=>?_) fun c xs r=>?_
 ·rw [zk fun z=>by subst z;rw [ha] at r;cases r;exact hp];exact r
 ·rw [zk fun z=>by subst z;rw [ha] at r;cases r;exact hp];exact r
theorem zcL {st:Stmt} {t:TS} (hst:PS X st t):PS X st (zdw t):=by
 rintro pins s σ H D I ⟨a,u0,kvs,ha,hu,h⟩
 have pl:zai u0:=by rcases hu with rfl | ⟨o,rfl⟩ <;> trivial
 -- the object as it stands
 have ob:∃ o,s.heap.get? a=some o∧(u0=.dT kvs∨u0=.frz o (.dT kvs)):=by
  rcases hu with rfl | ⟨o,rfl⟩
  ·obtain ⟨hz,lo,xs,rel,o,es,ep,ho,_⟩:=(show ObjOk X.prog X.w H s.heap a (.dT kvs) from I.hok a _ ha)
   exact ⟨o,ho,.inl rfl⟩
  ·exact ⟨o,(show ObjOk X.prog X.w H s.heap a (.frz o (.dT kvs)) from I.hok a _ ha).1,.inr rfl⟩
 obtain ⟨o,ho,hu⟩:=ob
 have I1:Inv X pins σ (upd H a (.frz o (.dT kvs))) s:=by
  rcases hu with rfl | rfl
  ·refine I.relab ha trivial (fun o' z q=>?_) ⟨ho,ObjOk.upd_dT ha trivial (I.hok a _ ha)⟩
   have:=I.base.frzs a o' z q
   rw [ha] at this;cases this
  ·have e:upd H a (.frz o (.dT kvs))=H:=by
    funext b;unfold upd;split
    ·next z=>rw [z];exact ha.symm
    ·rfl
   rw [e];exact I
 have back:∀ {σ':St} {H':Hp} {s':Shared},Inv X pins σ' H' s'→H' a=some (.frz o (.dT kvs))→Inv X pins σ' (upd H' a u0) s':=fun {σ' H' s'} I' ha'=>by
  rcases hu with rfl | rfl
  ·refine I'.relab ha' trivial (fun o' z q=>?_) (ObjOk.upd_dT ha' trivial (show ObjOk X.prog X.w H' s'.heap a (.frz o (.dT kvs)) from I'.hok a _ ha').2)
   have:=I.base.frzs a o' z q
   rw [ha] at this;cases this
  ·have e:upd H' a (.frz o (.dT kvs))=H':=by
    funext b;unfold upd;split
    ·next z=>rw [z];exact ha'.symm
    ·rfl
   rw [e];exact I'
 refine thn (hst pins s σ _ _ I1 (h o)) fun f s' q=>?_
 cases f with
 | next=>obtain ⟨σ',H',I',ha',q⟩:=q;exact ⟨σ',_,back I' ha',q⟩
 | brk=>obtain ⟨σ',H',I',ha',q⟩:=q;exact ⟨σ',_,back I' ha',q⟩
 | cont=>obtain ⟨σ',H',I',ha',q⟩:=q;exact ⟨σ',_,back I' ha',q⟩
 | ret v=>obtain ⟨x,σ',H',I',r,ha',q⟩:=q;exact ⟨x,σ',_,back I' ha',r,q⟩
end
section
variable {σ:St} {H:Hp} {nx:St→Hp→Prop} {B:V→St→Hp→(St→Hp→Prop)→Prop}
end
end L2
namespace L2
open PySem PySem.Spec PyProof.Rows
mutual
inductive Dat (K:W.Frag) (H:Hp):V→PyData→Prop
 | non:Dat K H .non .none
 | bl (b:Bool):Dat K H (.bl b) (.bool b)
 | int (i:Int):Dat K H (.int i) (.int i)
 | str (x:Str):Dat K H (.str x) (.str x)
 | lst {a:Addr} {xs:List V} {ds:List PyData}:SqL K H a xs→DatAll K H xs ds→Dat K H (.ref a) (.list ds)
 | tup {a:Addr} {xs:List V} {ds:List PyData}:SqT K H a xs→DatAll K H xs ds→Dat K H (.ref a) (.tuple ds)
inductive DatAll (K:W.Frag) (H:Hp):List V→List PyData→Prop
 | nil:DatAll K H [] []
 | cons {x:V} {d:PyData} {xs:List V} {ds:List PyData}:Dat K H x d→DatAll K H xs ds→DatAll K H (x :: xs) (d :: ds)
end
section
variable {X:Cx} {pins:List (Addr × Obj)} {σ:St} {H:Hp} {s:Shared}
mutual
theorem Dat.reads (I:Inv X pins σ H s):∀ {x:V} {d:PyData} {u:Value},Dat X.K H x d→RelV x u→∃ as,Reads s.heap u d as
 | _,_,_,.non,r=>by cases r;exact ⟨_,.none⟩
 | _,_,_,.bl b,r=>by cases r;exact ⟨_,.bool b⟩
 | _,_,_,.int i,r=>by obtain ⟨t,rfl⟩:=r;exact ⟨_,.int i t⟩
 | _,_,_,.str x,r=>by obtain ⟨t,rfl⟩:=r;exact ⟨_,.str x t⟩
 | _,_,_,.lst hq ha,r=>by
  cases r
  obtain ⟨its,rv,⟨o,n,e,c,_,d⟩,_⟩:=I.list hq
  obtain ⟨as,ra⟩:=DatAll.reads I ha rv
  exact ⟨_,.list e c d (by simpa using ra)⟩
 | _,_,_,.tup hq ha,r=>by
  cases r
  obtain ⟨its,rv,⟨o,e,c,n,d⟩,_⟩:=I.tuple hq
  obtain ⟨as,ra⟩:=DatAll.reads I ha rv
  exact ⟨_,.tuple e c d (by simpa using ra)⟩
theorem DatAll.reads (I:Inv X pins σ H s):∀ {xs:List V} {ds:List PyData} {us:List Value},DatAll X.K H xs ds→Vals xs us→∃ as,ReadsAll s.heap us ds as
 | _,_,_,.nil,r=>by cases r;exact ⟨_,.nil⟩
 | _,_,_,.cons hx ht,r=>by
  cases r with
  | cons r1 rr =>
   obtain ⟨as,ra⟩:=Dat.reads I hx r1
   obtain ⟨bs,rb⟩:=DatAll.reads I ht rr
   exact ⟨_,.cons ra rb⟩
end
end
section
variable {K:W.Frag} {H H':Hp}
theorem SqL.mono {a:Addr} {xs:List V} (k:Same H H') (h:SqL K H a xs):SqL K H' a xs:=by
 rcases h with (h | ⟨o,h⟩) | h
 ·exact .inl (.inl (k _ _ h))
 ·exact .inl (.inr ⟨o,k _ _ h⟩)
 ·exact .inr h
theorem DatAll.of {α:Type} {f:α→V} {g:α→PyData}:∀ {l:List α},(∀ a∈l,Dat K H (f a) (g a))→DatAll K H (l.map f) (l.map g)
 | [],_=>.nil
 | a :: r,h=>.cons (h a List.mem_cons_self) (DatAll.of fun b hb=>h b (List.mem_cons_of_mem _ hb))
end
section
variable {X:Cx} {pins:List (Addr × Obj)} {σ:St} {H:Hp} {s:Shared}
end
mutual
def zV:PyData→Bool
 | .none=>true
 | .int _=>true
 | .str x=>PyData.strOk x
 | .list xs=>yw xs
 | .tuple xs=>yw xs
 | .bool _=>false
 | .dict _=>false
def yw:List PyData→Bool
 | []=>true
 | x :: xs=>zV x && yw xs
end
mutual
theorem X7:∀ {d:PyData},zV d=true→d.canLay0=true
 | .none,_=>by simp [PyData.canLay0]
 | .int _,_=>by simp [PyData.canLay0]
 | .str x,h=>by simpa [PyData.canLay0,zV] using h
 | .list xs,h=>by rw [PyData.canLay0];exact qV (by simpa [zV] using h)
 | .tuple xs,h=>by rw [PyData.canLay0];exact qV (by simpa [zV] using h)
 | .bool _,h=>by simp [zV] at h
 | .dict _,h=>by simp [zV] at h
theorem qV:∀ {ds:List PyData},yw ds=true→PyData.canLayAll0 ds=true
 | [],_=>by simp [PyData.canLayAll0]
 | x :: xs,h=>by
  rw [yw,Bool.and_eq_true] at h
  rw [PyData.canLayAll0,X7 h.1,qV h.2];rfl
end
mutual
theorem ZJ:∀ {d e:PyData},zV d=true→zV e=true→(PyData.eqv d e=true↔d=e)
 | .list xs,.list ys,h,h'=>by
  rw [PyData.eqv,qW (by simpa [zV] using h) (by simpa [zV] using h'),PyData.list.injEq]
 | .tuple xs,.tuple ys,h,h'=>by
  rw [PyData.eqv,qW (by simpa [zV] using h) (by simpa [zV] using h'),PyData.tuple.injEq]
 | .bool _,_,h,_=>by simp [zV] at h
 | .dict _,_,h,_=>by simp [zV] at h
 | .none,.bool _,_,h=>by simp [zV] at h
 | .int _,.bool _,_,h=>by simp [zV] at h
 | .str _,.bool _,_,h=>by simp [zV] at h
 | .list _,.bool _,_,h=>by simp [zV] at h
 | .tuple _,.bool _,_,h=>by simp [zV] at h
 | .none,.dict _,_,h=>by simp [zV] at h
 | .int _,.dict _,_,h=>by simp [zV] at h
 | .str _,.dict _,_,h=>by simp [zV] at h
 | .list _,.dict _,_,h=>by simp [zV] at h
 | .tuple _,.dict _,_,h=>by simp [zV] at h
 | .none,.none,_,_ | .none,.int _,_,_ | .none,.str _,_,_ | .none,.list _,_,_ | .none,.tuple _,_,_=>by simp [PyData.eqv]
 | .int _,.none,_,_ | .int _,.int _,_,_ | .int _,.str _,_,_ | .int _,.list _,_,_ | .int _,.tuple _,_,_=>by simp [PyData.eqv]
 | .str _,.none,_,_ | .str _,.int _,_,_ | .str _,.str _,_,_ | .str _,.list _,_,_ | .str _,.tuple _,_,_=>by simp [PyData.eqv]
 | .list _,.none,_,_ | .list _,.int _,_,_ | .list _,.str _,_,_ | .list _,.tuple _,_,_=>by simp [PyData.eqv]
 | .tuple _,.none,_,_ | .tuple _,.int _,_,_ | .tuple _,.str _,_,_ | .tuple _,.list _,_,_=>by simp [PyData.eqv]
theorem qW:∀ {xs ys:List PyData},yw xs=true→yw ys=true→(PyData.eqvAll xs ys=true↔xs=ys)
 | [],[],_,_=>by simp [PyData.eqvAll]
 | [],_ :: _,_,_=>by simp [PyData.eqvAll]
 | _ :: _,[],_,_=>by simp [PyData.eqvAll]
 | x :: xs,y :: ys,h,h'=>by
  rw [yw,Bool.and_eq_true] at h h'
  rw [PyData.eqvAll,Bool.and_eq_true,ZJ h.1 h'.1,qW h.2 h'.2,List.cons.injEq]
end
abbrev ZK (K:W.Frag) (neg:Bool):R2:=fun x y H Q=>∃ d e,Dat K H x d∧Dat K H y e∧(zV d=true∧zV e=true∧d.depth≤64∧e.depth≤64)∧∀ b:Bool,(b=true↔d=e)→Q (.bl (if neg then !b else b)) H
section
variable {X:Cx}
theorem vG {d:PyData} (h:zV d=true) (h':d.depth≤64):SeqAt.shaped d=true:=by
 unfold SeqAt.shaped
 rw [X7 h,decide_eq_true h'];rfl
theorem VG (hu:X.A.units + 64 < cLine):OpR X (compareOp .Eq) (ZK X.K false):=by
 intro pins s σ H x y v u Q I rx ry h
 obtain ⟨d,e,hd,he,⟨p1,p2,l1,l2⟩,q⟩:=h
 obtain ⟨as,ra⟩:=hd.reads I rx
 obtain ⟨bs,rb⟩:=he.reads I ry
 exact eq_dataH ra rb (vG p1 l1) (vG p2 l2) hu ⟨.bl _,H,I,rfl,q _ (ZJ p1 p2)⟩
theorem YU (hu:X.A.units + 64 < cLine):OpR X (compareOp .NotEq) (ZK X.K true):=by
 intro pins s σ H x y v u Q I rx ry h
 obtain ⟨d,e,hd,he,⟨p1,p2,l1,l2⟩,q⟩:=h
 obtain ⟨as,ra⟩:=hd.reads I rx
 obtain ⟨bs,rb⟩:=he.reads I ry
 exact ne_dataH ra rb (vG p1 l1) (vG p2 l2) hu ⟨.bl _,H,I,rfl,q _ (ZJ p1 p2)⟩
end
end L2
namespace L2
open PySem PySem.Spec PyProof.Rows
abbrev zeO:R2:=fun x y H Q=>∃ i j,x=.str i∧y=.str j∧Q (.bl (decide (j.cps.toList < i.cps.toList))) H
abbrev WJ (neg:Bool):R2:=fun x y H Q=>∃ a o,y=.ref a∧DGet H a x o∧Q (.bl (if neg then !o.isSome else o.isSome)) H
section
variable {X:Cx}
theorem WK (hu:X.A.units + 1 < cLine):OpR X (compareOp .In) (WJ false):=by
 intro pins s σ H x y v u Q I rx ry h
 obtain ⟨a,o,rfl,g,q⟩:=h
 cases ry
 exact zdP hu I g rx fun s' I'=>⟨.bl _,H,I',rfl,q⟩
theorem JP (hu:X.A.units + 1 < cLine):OpR X (compareOp .NotIn) (WJ true):=by
 intro pins s σ H x y v u Q I rx ry h
 obtain ⟨a,o,rfl,g,q⟩:=h
 cases ry
 exact zbc hu I g rx fun s' I'=>⟨.bl _,H,I',rfl,q⟩
end
end L2
namespace L2
open PySem
abbrev Pl:=Str × Int
abbrev Row:=Pl × Int
def zu:List Row→Pl→Option Int
 | [],_=>none
 | r :: t,p=>(zu t p).or (if r.1=p then some r.2 else none)
def Zo (kvs:List (List Key × V)) (q:Row):List (List Key × V):=yD kvs (zP q.1) (.int q.2)
def dOf (rows:List Row):List (List Key × V):=rows.foldl Zo []
theorem xD {p q:Pl} (h:zP p=zP q):p=q:=by
 unfold zP at h
 simp only [List.cons.injEq,Sum.inr.injEq,Sum.inl.injEq,and_true] at h
 exact Prod.ext h.1 h.2
theorem VH:∀ (rows:List Row) (kvs:List (List Key × V)) (p:Pl),yN (rows.foldl Zo kvs) (zP p)=((zu rows p).map V.int).or (yN kvs (zP p))
 | [],_,_=>rfl
 | r :: t,kvs,p=>by
  rw [List.foldl_cons,VH t,zu]
  show _=_
  rw [Zo,YC]
  cases zu t p with
  | some w=>rfl
  | none =>
   by_cases e:r.1=p
   ·subst e;simp
   ·rw [if_neg (fun z=>e (xD z).symm)];simp [e]
theorem xS (rows:List Row) (p:Pl):yN (dOf rows) (zP p)=(zu rows p).map V.int:=by
 unfold dOf
 rw [VH,YB]
 cases zu rows p <;> rfl
theorem jP (rows:List Row) (q:Row):dOf (rows ++ [q])=yD (dOf rows) (zP q.1) (.int q.2):=by
 unfold dOf
 rw [List.foldl_append];rfl
def OkKv (kvs:List (List Key × V)):Prop:=(kvs.map (·.1)).Nodup∧∀ kv∈kvs,∃ (p:Pl) (w:Int),kv=(zP p,.int w)
theorem OkKv.put {kvs:List (List Key × V)} (h:OkKv kvs) (p:Pl) (w:Int):OkKv (yD kvs (zP p) (.int w)):=by
 cases e:yN kvs (zP p) with
 | none =>
  refine ⟨zbe _ h.1 e,fun kv hk=>?_⟩
  rw [YD _ e] at hk
  rcases List.mem_append.mp hk with hk | hk
  ·exact h.2 kv hk
  ·exact ⟨p,w,List.mem_singleton.mp hk⟩
 | some v =>
  have q:(kvs.any fun kv=>decide (kv.1=zP p))=true:=by rw [wT,e];rfl
  unfold yD
  rw [if_pos q]
  constructor
  ·rw [List.map_map]
   have:((fun x:List Key × V=>x.1) ∘ fun kv:List Key × V=>if kv.1=zP p then (kv.1,V.int w) else kv)=fun x=>x.1:=by
    funext kv
    show (if kv.1=zP p then (kv.1,V.int w) else kv).1=kv.1
    split <;> rfl
   rw [this];exact h.1
  ·intro kv hk
   obtain ⟨z,hz,rfl⟩:=List.mem_map.mp hk
   by_cases e:z.1=zP p
   ·exact ⟨p,w,by rw [if_pos e,e]⟩
   ·rw [if_neg e];exact h.2 z hz
theorem X8:∀ (rows:List Row) (kvs:List (List Key × V)),OkKv kvs→OkKv (rows.foldl Zo kvs)
 | [],_,h=>h
 | r :: t,kvs,h=>X8 t _ (h.put r.1 r.2)
theorem vX (rows:List Row):OkKv (dOf rows):=X8 rows [] ⟨List.nodup_nil,fun _ h=>nomatch h⟩
theorem zbu (kvs:List (List Key × V)) (k:List Key) (v:V):(yD kvs k v).length≤kvs.length + 1:=by
 unfold yD
 split
 ·rw [List.length_map];lia
 ·rw [List.length_append];simp
theorem VI:∀ (rows:List Row) (kvs:List (List Key × V)),(rows.foldl Zo kvs).length≤kvs.length + rows.length
 | [],_=>by simp
 | r :: t,kvs=>by
  have:=VI t (Zo kvs r)
  have:=zbu kvs (zP r.1) (.int r.2)
  rw [List.foldl_cons,List.length_cons]
  unfold Zo at *
  lia
theorem xb (rows:List Row):(dOf rows).length≤rows.length:=by have:=VI rows [];simpa [dOf] using this
theorem Kz {kvs:List (List Key × V)}:(kvs.map (·.1)).Nodup→∀ kv∈kvs,yN kvs kv.1=some kv.2:=by
 induction kvs with
 | nil=>exact fun _ kv h=>nomatch h
 | cons a r ih =>
  intro hn kv hk
  rw [List.map_cons,List.nodup_cons] at hn
  rcases List.mem_cons.mp hk with rfl | hk
  ·exact xi rfl
  ·rw [xj fun z=>hn.1 (by rw [z];exact List.mem_map_of_mem hk)]
   exact ih hn.2 kv hk
theorem mem_dOf {rows:List Row} {kv:List Key × V}:kv∈dOf rows↔∃ p w,kv=(zP p,.int w)∧zu rows p=some w:=by
 constructor
 ·intro h
  obtain ⟨p,w,rfl⟩:=(vX rows).2 kv h
  have:=Kz (vX rows).1 _ h
  rw [xS] at this
  obtain ⟨w',e1,e2⟩:=Option.map_eq_some_iff.mp this
  cases e2
  exact ⟨p,w,rfl,e1⟩
 ·rintro ⟨p,w,rfl,h⟩
  have e:yN (dOf rows) (zP p)=some (.int w):=by rw [xS,h];rfl
  obtain ⟨kv,hk,e1⟩:=List.mem_map.mp (Kn e)
  have:=Kz (vX rows).1 _ hk
  rw [e1,e] at this
  have e2:kv=(zP p,V.int w):=Prod.ext e1 (Option.some.inj this).symm
  rw [← e2];exact hk
theorem jj (a:Pl):z4 a a=false:=by
 unfold z4
 rw [if_pos rfl]
 exact decide_eq_false (by lia)
theorem Xu {a b c:Pl} (h1:z4 a b=true) (h2:z4 b c=true):z4 a c=true:=by
 unfold z4 at *
 by_cases e1:a.1=b.1
 ·rw [if_pos e1] at h1
  by_cases e2:b.1=c.1
  ·rw [if_pos e2] at h2
   rw [if_pos (e1.trans e2)]
   have h1:=of_decide_eq_true h1
   have h2:=of_decide_eq_true h2
   exact decide_eq_true (by lia)
  ·rw [if_neg e2] at h2
   rw [if_neg (by rw [e1];exact e2),e1]
   exact h2
 ·rw [if_neg e1] at h1
  have h1:=of_decide_eq_true h1
  by_cases e2:b.1=c.1
  ·rw [if_neg (by rw [← e2];exact e1),← e2]
   exact decide_eq_true h1
  ·rw [if_neg e2] at h2
   have h2:=of_decide_eq_true h2
   have h3:=List.lt_trans h1 h2
   rw [if_neg (fun z=>by rw [z] at h3;exact List.lt_irrefl _ h3)]
   exact decide_eq_true h3
def Rising (l:List Row):Prop:=l.Pairwise fun a b=>z4 a.1 b.1=true
def vC (rows out:List Row):Prop:=Rising out∧∀ p w,(p,w)∈out↔zu rows p=some w∧w≠0
theorem Rising.nd {l:List Row} (h:Rising l):(l.map (·.1)).Nodup:=by
 unfold List.Nodup
 rw [List.pairwise_map]
 exact List.Pairwise.imp (fun {a b} h z=>by rw [z,jj] at h;cases h) h
theorem X9 {p:Pl}:∀ {l:List Row},(∀ r∈l,r.1≠p)→zu l p=none
 | [],_=>rfl
 | r :: t,h=>by
  rw [zu,X9 fun r hr=>h r (List.mem_cons_of_mem _ hr),if_neg (h r List.mem_cons_self)];rfl
theorem qu {p:Pl} {w:Int}:∀ {l:List Row},(l.map (·.1)).Nodup→(zu l p=some w↔(p,w)∈l)
 | [],_=>by simp [zu]
 | r :: t,hn=>by
  rw [List.map_cons,List.nodup_cons] at hn
  have ih:=qu (p:=p) (w:=w) hn.2
  by_cases e:r.1=p
  ·have z:zu t p=none:=X9 fun q hq zz=>hn.1 (by rw [e,← zz];exact List.mem_map_of_mem hq)
   rw [zu,z,if_pos e]
   constructor
   ·intro h
    have:r.2=w:=by simpa using h
    rw [← e,← this];exact List.mem_cons_self
   ·intro h
    rcases List.mem_cons.mp h with h | h
    ·rw [← h];rfl
    ·exact absurd (List.mem_map_of_mem (f:=(·.1)) h) (by rw [← e];exact hn.1)
  ·rw [zu,if_neg e,Option.or_none,ih,List.mem_cons]
   constructor
   ·exact .inr
   ·rintro (h | h)
    ·exact absurd (by rw [← h]) e
    ·exact h
theorem WL {rows out:List Row} (h:vC rows out) (p:Pl):(zu out p).getD 0=(zu rows p).getD 0:=by
 have k:=fun w=>qu (p:=p) (w:=w) h.1.nd
 cases e:zu rows p with
 | none =>
  cases e':zu out p with
  | none=>rfl
  | some w =>
   have:=(h.2 p w).mp ((k w).mp e')
   rw [e] at this;cases this.1
 | some w =>
  by_cases hw:w=0
  ·subst hw
   cases e':zu out p with
   | none=>rfl
   | some w' =>
    have:=(h.2 p w').mp ((k w').mp e')
    rw [e] at this
    cases this.1
    exact absurd rfl this.2
  ·rw [(k w).mpr ((h.2 p w).mpr ⟨e,hw⟩)]
theorem YV:∀ {a b:List Row},Rising a→Rising b→(∀ x,x∈a↔x∈b)→a=b
 | [],[],_,_,_=>rfl
 | [],y :: _,_,_,h=>absurd ((h y).mpr List.mem_cons_self) (by simp)
 | x :: _,[],_,_,h=>absurd ((h x).mp List.mem_cons_self) (by simp)
 | x :: a,y :: b,ha,hb,h=>by
  unfold Rising at ha hb
  rw [List.pairwise_cons] at ha hb
  have e:x=y:=by
   rcases List.mem_cons.mp ((h x).mp List.mem_cons_self) with e | e
   ·exact e
   ·rcases List.mem_cons.mp ((h y).mpr List.mem_cons_self) with e' | e'
    ·exact e'.symm
    ·have:=Xu (ha.1 y e') (hb.1 x e)
     rw [jj] at this;cases this
  subst e
  have nx:x ∉ a:=fun z=>by have:=ha.1 x z;rw [jj] at this;cases this
  have ny:x ∉ b:=fun z=>by have:=hb.1 x z;rw [jj] at this;cases this
  rw [YV ha.2 hb.2 fun z=>?_]
  constructor
  ·intro hz
   rcases List.mem_cons.mp ((h z).mp (List.mem_cons_of_mem _ hz)) with e | e
   ·subst e;exact absurd hz nx
   ·exact e
  ·intro hz
   rcases List.mem_cons.mp ((h z).mpr (List.mem_cons_of_mem _ hz)) with e | e
   ·subst e;exact absurd hz ny
   ·exact e
theorem qv {α:Type} [DecidableEq α]:∀ {a b:List α},a.Nodup→(∀ x∈a,x∈b)→a.length≤b.length
 | [],_,_,_=>Nat.zero_le _
 | x :: a,b,hn,h=>by
  rw [List.nodup_cons] at hn
  have hx:=h x List.mem_cons_self
  have:=qv (a:=a) (b:=b.erase x) hn.2 fun y hy=>(List.mem_erase_of_ne fun z=>hn.1 (by rw [← z];exact hy)).mpr (h y (List.mem_cons_of_mem _ hy))
  rw [List.length_erase_of_mem hx] at this
  have:0 < b.length:=List.length_pos_of_mem hx
  rw [List.length_cons];lia
def nzV (kv:List Key × V):Bool:=decide (kv.2≠.int 0)
theorem zbv {rows out:List Row} (h:vC rows out):((dOf rows).filter nzV).length=out.length:=by
 have n1:(((dOf rows).filter nzV).map (·.1)).Nodup:=List.Nodup.sublist (List.Sublist.map _ List.filter_sublist) (vX rows).1
 have n2:((out.map (·.1)).map zP).Nodup:=by
  have:=h.1.nd
  unfold List.Nodup at *
  rw [List.pairwise_map]
  exact this.imp fun {a b} hab z=>hab (xD z)
 have sub1:∀ k∈((dOf rows).filter nzV).map (·.1),k∈(out.map (·.1)).map zP:=fun k hk=>by
  obtain ⟨kv,hkv,rfl⟩:=List.mem_map.mp hk
  rw [List.mem_filter] at hkv
  obtain ⟨p,w,rfl,e⟩:=mem_dOf.mp hkv.1
  have hw:w≠0:=fun z=>by have:=of_decide_eq_true hkv.2;rw [z] at this;exact this rfl
  exact List.mem_map_of_mem (List.mem_map_of_mem (f:=(·.1)) ((h.2 p w).mpr ⟨e,hw⟩))
 have sub2:∀ k∈(out.map (·.1)).map zP,k∈((dOf rows).filter nzV).map (·.1):=fun k hk=>by
  obtain ⟨p,hp,rfl⟩:=List.mem_map.mp hk
  obtain ⟨⟨p,w⟩,hr,rfl⟩:=List.mem_map.mp hp
  obtain ⟨e,hw⟩:=(h.2 p w).mp hr
  exact List.mem_map.mpr ⟨(zP p,.int w),List.mem_filter.mpr ⟨mem_dOf.mpr ⟨p,w,rfl,e⟩,decide_eq_true (by simpa using hw)⟩,rfl⟩
 have l1:=qv n1 sub1
 have l2:=qv n2 sub2
 simp only [List.length_map] at l1 l2
 lia
end L2
namespace L2
open PySem PySem.Spec PyProof.Rows
def zdx (K:W.Frag) (p q:Addr) (xs ys:List V):It:=⟨fun i H=>i < xs.length∧SqL K H p xs∧SqL K H q ys,fun i H x H'=>∃ T u v,x=.ref T∧H T=none∧H'=upd H T (.tup [u,v])∧xs[i]?=some u∧ys[i]?=some v,fun i H=>xs.length≤i∧SqL K H p xs∧SqL K H q ys⟩
def zej (K:W.Frag) (ta:TA):TI:=fun σ H R=>ta σ H fun vs H1=>∃ p q xs ys,vs=[.ref p,.ref q]∧SqL K H1 p xs∧SqL K H1 q ys∧xs.length=ys.length∧R (zdx K p q xs ys) H1
section
variable {X:Cx}
end
section
variable {σ:St} {H:Hp} {nx:St→Hp→Prop} {B:V→St→Hp→(St→Hp→Prop)→Prop}
end
end L2
namespace L2
open PySem PySem.Spec PyProof.Rows
theorem qw:plainId "dict.update.loop"=true:=by decide +kernel
theorem Wa:entryFor table "dict.update.loop"=some Builtin.«dict.update.loop»:=entryFor_of_fast (by kernel_rfl)
section
variable {X:Cx} {A:Around} {R:Result→Shared→Prop}
def PrAt (H:Hp) (v:V) (q:Row):Prop:=∃ r p,v=.ref r∧H r=some (.tup [.ref p,.int q.2])∧H p=some (.tup [.str q.1.1,.int q.1.2])
theorem Qq {pins:List (Addr × Obj)} {σ:St} {H:Hp} {s:Shared} {d b:Addr} {kvs:List (List Key × V)} {k:List Key} {v:V} {u:Value} {E:Value→Shared→Prop} {Q:Unit→Shared→Prop} (hu:A.units + 1 < cLine) (I:Inv X pins σ H s) (e:H d=some (.dT kvs)) (eb:H b=some (.tup (k.map kV))) (l:kvs.length < sizeLine) (rv:RelV v u)
  (h:∀ h' tk,Inv X pins σ (upd H d (.dT (yD kvs k v))) { s with heap:=h',toks:=tk }→Heap.SameBut d s.heap h'→Q () { s with heap:=h',toks:=tk }):wpAny (model X.prog X.w) A.in1 (dictSet d (.ref b) u) Q E s:=by
 obtain ⟨z,hd,xs,rel,dd⟩:=zcb I.hok e
 have hz:xs.length≤sizeLine:=by rw [← Paired.length rel];exact z
 have hl:(yD kvs k v).length≤sizeLine:=by have:=xB kvs k v;lia
 refine wpAny_dictSet_heap (hsz:=hz) (tupleKind_room_in1 hu) (qR I.hok eb) dd fun h' dd' hs=>h _ _ ?_ hs
 obtain ⟨q,es,ep,hq,h2,h3,h4,_,h5⟩:=dd'
 refine Wx I (by rw [e];exact True.intro) hs ⟨q,hq⟩ ⟨hl,hd,_,(rel.put k eb rv).keeps fun c ys ec=>?_,q,es,ep,hq,h2,h3,h4,h5⟩
 rw [zk (yq ec e (fun z=>nomatch z))]
 exact ec
theorem zaj {pins:List (Addr × Obj)} {σ:St} {H:Hp} {d it l:Addr} {xs:List V} {rows:List Row} {res:Value} (hu:A.units + 1 < cLine) (hh:A.handled=none) (hd:H d=none) (hl:H l=some (.lst xs)) (hr:Paired (PrAt H) xs rows) (h63:rows.length≤1000) (dit:it≠d) (lit:l≠it) :
  ∀ (k i:Nat) (s:Shared),rows.length - i=k→i≤rows.length→Inv X pins σ (upd H d (.dT (dOf (rows.take i)))) s→s.heap.IsListIter it l i→(∀ u,kL X pins (upd H d u) it) →
  (∀ s',Inv X pins σ (upd H d (.dT (dOf rows))) s'→R (.ok (.ret res)) s') →
  codeAny (model X.prog X.w) A (.builtin "dict.update.loop" ⟨[.ref d,.ref it,rawInt i,res],[]⟩) R s:=by
 have lx:xs.length=rows.length:=Paired.length hr
 have S:∀ u:HO,Same H (upd H d u):=fun u=>isV (o:=u) d hd
 intro k
 induction k with
 | zero =>
  intro i s hk hi I st hf fin
  have e:i=rows.length:=by lia
  subst e
  refine codeAny_builtin Wa ?_
  rw [Around.under_plainId qw _]
  show wpAny _ A.in1 (pyNext (.ref it) >>= _) _ _ s
  obtain ⟨its,rv,p,hz⟩:=I.list (SqL.of (S _ _ _ hl))
  obtain ⟨f0,f1,f2,f3,f4,f5⟩:=hf (.dT (dOf (rows.take rows.length)))
  have hl2:=rv.length
  refine wpAny_bind (wpAny_pyNext_list_end hh st p.isList (by simp;lia) fun h' eb=>?_)
  have I1:=I.turned (t':=s.toks) (fun b o hb e=>eb b o hb e) f0 f1 f3 f4 f5
  rw [List.take_length] at I1
  show wpAny _ A.in1 (Builtin.Dict.addKeywords d [] >>= _) _ _ _
  exact wpAny_bind (wpAny_pure (wpAny_pure (fin _ I1)))
 | succ k ih =>
  intro i s hk hi I st hf fin
  have hlt:i < rows.length:=by lia
  refine codeAny_builtin Wa ?_
  rw [Around.under_plainId qw _]
  show wpAny _ A.in1 (pyNext (.ref it) >>= _) _ _ s
  obtain ⟨its,rv,p,hz⟩:=I.list (SqL.of (S _ _ _ hl))
  obtain ⟨f0,f1,f2,f3,f4,f5⟩:=hf (.dT (dOf (rows.take i)))
  have hx:xs[i]?=some xs[i]:=List.getElem?_eq_getElem (by lia)
  have hq:rows[i]?=some rows[i]:=List.getElem?_eq_getElem hlt
  obtain ⟨r,pl,e1,t1,u1⟩:=yp hr hx hq
  obtain ⟨u,hu',ru⟩:=rv.get hx
  rw [e1] at ru
  cases ru
  refine wpAny_bind (wpAny_pyNext_list_item st p.isList (x:=.ref r) (by simpa using hu') fun h' st' sb=>?_)
  have I1:=I.turned (t':=s.toks) (fun b o hb e=>(sb.2 b hb).trans e) f0 f1 f3 f4 f5
  obtain ⟨tis,tv,⟨o,ho,hc,n,hdt⟩,_⟩:=I1.tuple (SqT.of (S _ _ _ t1))
  cases tv with
  | cons r1 rr =>
   cases rr with
   | cons r2 rn =>
    cases rn
    cases r1
    obtain ⟨tk,rfl⟩:=r2
    refine wpAny_bind (wpAny_holding ?_)
    have T:({ s with heap:=h' }:Shared).TypeIs (.ref r) "tuple":=⟨o,ho,hc⟩
    refine wpAny_bind (wpAny_tryCatch ?_)
    unfold Builtin.Dict.pairItems
    refine wpAny_bind (wpAny_typeOf T ?_)
    rw [if_pos (by decide)]
    refine wpAny_bind ?_
    unfold seqItems?
    refine wpAny_bind (wpAny_load ho ?_)
    rw [hdt]
    refine wpAny_pure (wpAny_pure ?_)
    show wpAny _ _ (holding [.ref pl,.int rows[i].2 tk] (dictSet d (.ref pl) (.int rows[i].2 tk))) _ _ _
    refine wpAny_holding ?_
    have tk2:dOf (rows.take (i + 1))=yD (dOf (rows.take i)) (zP rows[i].1) (.int rows[i].2):=by rw [List.take_add_one,hq,← jP];rfl
    have l2:(dOf (rows.take i)).length < sizeLine:=by
     have h1:=xb (rows.take i)
     have h2:=List.length_take_le' i rows
     exact Nat.lt_of_le_of_lt (by lia:_≤1000) (by decide)
    refine Qq (k:=zP rows[i].1) (v:=.int rows[i].2) hu I1 zd (S _ _ _ u1) l2 ⟨tk,rfl⟩ fun h2 tk3 I2 sb2=>?_
    rw [Yi,← tk2] at I2
    refine wpAny_pure ⟨plainId_quiet qw _,ih (i + 1) _ (by lia) hlt I2 (st'.at fun o e=>(sb2.2 it dit).trans e) hf fin⟩
end
end L2
namespace L2
open PySem PySem.Spec PyProof.Rows
theorem WM:typeLookup (.type "list") "keys"=pure none:=by rw [typeLookup_type,builtinLookup_eq_fast];kernel_rfl
section
variable {prog:Program} {w:World} {A:Around} {E:Value→Shared→Prop} {s:Shared} {a:Addr} {o:Obj} {xs:Array Value} {k:Nat}
theorem YW {Q:Option Value→Shared→Prop} (hx:s.heap.get? a=some o) (hc:o.cls=.type "list") (hdat:o.data=.seq xs k) (hd:o.dict=none) (hA:A.handled=none)
  (h:∀ h' tk,(∀ b ob,s.heap.get? b=some ob→h'.get? b=some ob)→Q none { s with heap:=h',toks:=tk }):wpAny (model prog w) A (getAttr? (.ref a) "keys") Q E s:=by
 obtain ⟨c,dct,dat,sl⟩:=o;simp only at hc hdat hd;subst hc hdat hd
 obtain ⟨hp,g,d,tk,os⟩:=s;have hT:∀ tk',(⟨hp,g,d,tk',os⟩:Shared).TypeIs (.ref a) "list":=fun _=>⟨_,hx,rfl⟩
 have f1:=sub_AttributeError;have f3:=F.slot_list_getattribute.lookup;have f4:=F.slot_list_getattribute.bind (.ref a);have f5:=am_list_getattr_none
 unfold getAttr? getAttrBy? getAttrBy
 repeat (any_goals (first | assumption | exact hT _ | ((with_reducible show wpAny _ _ (call (Value.builtin "list.__getattribute__") _ _) _ _ _);refine call_meets F.slot_list_getattribute (hT _) am_entry_list_getattribute (F.args_list_getattribute_2 _ _) (meets_getattribute_miss_list a xs k sl "keys" _ WM (by decide +kernel) (by decide +kernel)) ⟨hx,hA,fun h' tk' e hx'=>?_⟩) | wp_step))
 obtain ⟨t',u',he⟩:=hx'.there;have kp:=hx'.keeps
 show wpAny _ _ (getattributeRaised _ _ _ _ _ _ _) _ _ _;unfold getattributeRaised
 repeat (any_goals (first | assumption | wp_step))
 all_goals exact h _ _ fun b ob e=>kp b ob e
end
theorem hu3 {k:Nat} {A:Around} (r:Room k A):A.units + 3 < cLine:=by have:=WF r;lia
abbrev qJ:RC:=fun vs H Q=>∃ (a:Addr) (xs:List V) (rows:List Row),vs=[.ref a]∧H a=some (.lst xs)∧Paired (PrAt H) xs rows∧rows.length≤1000∧∀ p,H p=none→Q (.ref p) (upd H p (.dT (dOf rows)))
section
variable {X:Cx}
theorem xT (hc:X.calm=true) (hu:X.A.units + 3 < cLine):ky X (.type "dict") qJ:=by
 intro pins s σ H vs us Q I r h
 obtain ⟨a,xs,rows,rfl,ha,hr,hl,q⟩:=h
 obtain ⟨u,rfl,ru⟩:=ZX r
 cases ru
 have hh:X.A.handled=none:=I.ok.hd hc
 refine callType_codes (Q₁:=fun obj s₁=>obj=.ref s.heap.objs.size∧s₁={ s with heap:=s.heap.push { cls:=.type "dict",data:=.dict #[] } }) F.kt_called_dict (F.kt_typeCall_dict_1 _) F.entry_dict_init (kt_code_dict_new _ ⟨rfl,rfl⟩) ?_;rintro obj s₁ ⟨rfl,rfl⟩
 have T0:({ s with heap:=s.heap.push { cls:=.type "dict",data:=.dict #[] } }:Shared).TypeIs (.ref s.heap.objs.size) "dict":=⟨_,Heap.get?_push_size _ rfl,rfl⟩
 refine ⟨T0,F.args_dict_init_2 _ _,?_⟩;unfold Builtin.«dict.__init__»;refine wpAny_bind ?_;unfold Builtin.Dict.selfAndRest
 refine wpAny_bind (wpAny_notOrdered_dict T0 ?_);show wpAny _ _ (pure (s.heap.objs.size,[Value.ref a])) _ _ _;refine wpAny_pure ?_
 show wpAny _ _ (Builtin.Dict.updateFrom "dict.__init__" s.heap.objs.size (.ref a) [] .none) _ _ _;unfold Builtin.Dict.updateFrom
 have hn:H s.heap.objs.size=none:=I.hok.fresh (Nat.le_refl _)
 have S:∀ u:HO,Same H (upd H s.heap.objs.size u):=fun u=>isV (o:=u) _ hn
 have I1:Inv X pins σ (upd H s.heap.objs.size (.dT [])) { s with heap:=s.heap.push { cls:=.type "dict",data:=.dict #[] } } :=
  I.laid (a:=s.heap.objs.size) (o:=.dT []) (t':=s.toks) (fun b o z=>Heap.get?_push_of_some _ z) (Nat.le_refl _) (Vp s.heap I.big)
 obtain ⟨its,rv,pl,_⟩:=I1.list (SqL.of (S _ _ _ ha))
 obtain ⟨o,n,ho,oc,od,odat⟩:=id pl
 have T1:({ s with heap:=s.heap.push { cls:=.type "dict",data:=.dict #[] } }:Shared).TypeIs (.ref a) "list":=⟨o,ho,oc⟩
 refine wpAny_bind (wpAny_typeOf T1 ?_);rw [if_pos (by decide)]
 refine wpAny_bind (YW ho oc odat od (by exact hh) fun h2 tk2 k2=>?_);rw [if_pos (show (none:Option Value).isNone=true from rfl)]
 refine wpAny_bind (wpAny_rule ?_)
 have I2:Inv X pins σ (upd H s.heap.objs.size (.dT [])) { s with heap:=h2,toks:=tk2 }:=I1.kept k2
 obtain ⟨its2,rv2,pl2,_⟩:=I2.list (SqL.of (S _ _ _ ha))
 refine wpAny_bind (wpAny_pyIter_list pl2.isList ?_)
 have I3:Inv X pins σ (upd H s.heap.objs.size (.dT (dOf (rows.take 0)))) { s with heap:=h2.push { cls:=.type "list_iterator",data:=.fields #[.ref a,.int 0 0] },toks:=tk2 }:=I2.kept (t':=tk2) fun b o e=>Heap.get?_push_of_some _ e
 refine wpAny_pure ⟨plainId_quiet qw _,?_⟩
 have lt:s.heap.objs.size < h2.objs.size:=Heap.lt_size (k2 s.heap.objs.size _ (Heap.get?_push_size _ rfl))
 have la:a < h2.objs.size:=by obtain ⟨_,_,z,_⟩:=pl2;exact Heap.lt_size z
 refine zaj (A:=X.A.in1) (H:=H) (d:=s.heap.objs.size) (it:=h2.objs.size) (l:=a) (xs:=xs) (rows:=rows) (res:=.none) ?_ hh hn ha hr hl (Nat.ne_of_gt lt) (Nat.ne_of_lt la) rows.length 0 _ (by lia) (Nat.zero_le _) I3 ⟨_,Heap.get?_push_size _ rfl,rfl,rfl⟩ (fun u=>?_) fun s' I'=>⟨rfl,.ref s.heap.objs.size,_,I',rfl,q _ hn⟩
 ·have e:X.A.in1.units=X.A.units + 1:=rfl
  lia
 ·refine I2.fpOk (Nat.le_refl _) ?_
  rw [zk (Nat.ne_of_gt lt)]
  have:=I2.hok.fresh (Nat.le_refl h2.objs.size)
  rw [zk (Nat.ne_of_gt lt)] at this
  exact this
end
end L2
namespace L2
open PySem PySem.Spec PyProof.Rows
section
variable {X:Cx} {k:Nat} {f C:Addr} {fd:FuncData} {ps:List Str} {sp:Sp} {m:Str} {pos apos:Pos} {e o:Expr} {es:List Expr} {ta:TE} {t:TA}
def j9 (C:Addr) (m:Str) (sp:Sp) (ta:TE) (t:TA) (EX:EXK):TE:=fun σ H Q=>ta σ H fun x H1=>∃ a dx fs,x=.ref a∧H1 a=some (.ins C dx fs)∧fs.lookup m=none ∧
 t σ H1 fun vs H2=>sp (x :: (vs ++ [])) H2 Q fun cls _ H3=>EX cls σ H3
theorem YX {pl:Sem Bool} (he:PE X.nox o ta) (c:Cls X.K C) (hm:qC X.K C m f) (F:FnOk X.prog X.w X.K X.mg X.base (CX1 X.prog X.w) k f fd ps sp) (hr:Room k X.A) (hb:Binds X.K fd ps []) (ha:PA X.nox (e :: es) t)
  (hst:starEach (e :: es) X.env=(false,eval e X.env) :: starEach es X.env:=by rfl) (hpl:(backTo pos (starEach es X.env)).any (·.1)=false:=by rfl)
  (ht:eval (.Call (.Attribute o m apos) (e :: es) [] pos) X.env=(do
   let ov ← eval o X.env
   standAt apos.atName
   let (f,first) ← holding [ov] (getMethod ov m pl)
   callWith pos f first (backTo pos (starEach (e :: es) X.env)) (backToKw pos (keywordEach [] X.env))):=by rfl) :
  PEX X (.Call (.Attribute o m apos) (e :: es) [] pos) (j9 C m sp ta t):=by
 intro pins s σ H Q EX I h
 refine W.methodCall_KW (pl:=pl) (wpAny_mono (he pins s σ H _ (I.wish _) h) (fun u s1 ⟨x,H1,I1',rx,a,dx,fs,ex,ea,l,q⟩=>?_) fun _ _ z=>False.elim z) ht
 subst ex
 obtain rfl:u=Value.ref a:=rx
 have I1:=I1'.unwish
 refine qQ I1 ea c hm l ?_
 refine W.callWith_K (first:=[.ref a]) (h₀:=X.base) I.ok.mod.kin hm.kp (wpAny_mono (ha pos pins s1 σ H1 _ (I1.wish _) q) (fun us s2 ⟨vs,H2,I2',r,q2⟩=>⟨I2'.kIn,?_⟩) fun _ _ z=>False.elim z) hst hpl
 have I2:=I2'.unwish
 have r2:Vals (V.ref a :: (vs ++ [])) (Value.ref a :: (us ++ [])):=.cons rfl (r.append .nil)
 have hl:((Value.ref a :: us) ++ []).length=ps.length:=by
  have e:=r2.length
  rw [F.len _ _ _ _ q2] at e
  exact e.symm
 refine wpAny_call (codeAny_mono (F.run X.A X.stack s2 H2 ⟨.ref a :: us,[]⟩ ((.ref a :: us) ++ []) (.ref a :: (vs ++ [])) _ _ hr I2.env0 (hb s2 (.ref a :: us) I2.kIn hl) r2 q2) fun r s' hq=>?_)
 cases r with
 | error ev =>
  obtain ⟨e,cls,H',rfl,os,bare,un,hok,xf,hE⟩:=hq
  exact ⟨e,cls,σ,s2,H2,H',rfl,I2,I2.call' (ch:=[]) os un hok bare (fun b z=>nomatch z),xf,hE⟩
 | ok fl =>
  cases fl with
  | ret u=>exact I2.after hq
  | next=>exact False.elim hq
  | brk=>exact False.elim hq
  | cont=>exact False.elim hq
end
def zek (K:W.Frag) (tb:EXK→TS) (C1:Addr) (th1:TS):TS:=fun D σ H=>tb (fun cls σ1 H1=>∃ C,cls=.ref C∧W.exmOne K (.ref C) (.ref C1)=some true∧th1 D σ1 H1) D σ H
def ZL (K:W.Frag) (tb:EXK→TS) (C1:Addr) (th1:TS) (C2:Addr) (th2:TS):TS:=fun D σ H=>tb (fun cls σ1 H1=>∃ C,cls=.ref C ∧
 ((W.exmOne K (.ref C) (.ref C1)=some true∧th1 D σ1 H1)∨(W.exmOne K (.ref C) (.ref C1)=some false∧W.exmOne K (.ref C) (.ref C2)=some true∧th2 D σ1 H1))) D σ H
section
variable {X:Cx} {st b₀ b₁:Stmt} {suite suite1:List Stmt} {tb:EXK→TS} {th1 th2:TS} {c1 c2:Str} {C1 C2:Addr} {np hpos np2 hpos2 pos:Pos}
theorem VJ (hst:X.stack=X.env :: X.outer∧X.env.frame=some X.env.locals) (hex:X.ex=[]) (hb:PSX X st tb) (hg1:Gl X c1) (hm1:X.mg c1=some (.ref C1)) (hg2:Gl X c2) (hm2:X.mg c2=some (.ref C2))
  (hs1:∀ e,PSs (X.sub e) (b₀ :: suite) th1) (hs2:∀ e,PSs (X.sub e) (b₁ :: suite1) th2) (hdb1:(c1 == ("__debug__":Str))=false:=by decide) (hdb2:(c2 == ("__debug__":Str))=false:=by decide) :
  PS X (.Try [st] [.ExceptHandler (some (.Name c1 np)) none (b₀ :: suite) hpos,.ExceptHandler (some (.Name c2 np2)) none (b₁ :: suite1) hpos2] [] [] pos) (ZL X.K tb C1 th1 C2 th2):=by
 intro pins s σ H D I h
 refine wpAny_Try_except (wpAny_execs_cons (wpAny_mono (hb pins s σ H D _ I h) (fun f s1 q=>?_) fun ev s1 q=>?_))
 ·cases f with
  | next=>exact wpAny_execs_nil (wpAny_execs_nil q)
  | ret v=>exact q
  | brk=>exact q
  | cont=>exact q
 obtain ⟨e,cls,σ1,s0,H0,H1,rfl,I0,I1,xf,C,rfl,hth⟩:=q
 obtain ⟨oe,vs,a0,T,oT,ts,h1,h2,h3,h4,h5,h6,h7,h8,h9,h10,h11,h12⟩:=xf
 have fr:s1.heap.FunFrames (W.hideAll s1.heap (frs X.stack ++ [e,T])) (X.env :: X.outer):=by
  have q:=W.funFrames_hide (as:=frs X.stack ++ [e,T]) I1.stack fun env he a ha=>List.mem_append_left _ (List.mem_filterMap.mpr ⟨env,he,ha⟩)
  rw [hst.1] at q ⊢
  exact q
 have two:∀ b∈[e,T],s0.heap.get? b=none∧H1 b=none:=fun b z=>by
  have z':b=e∨b=T:=by simpa using z
  rcases z' with rfl | rfl
  ·exact ⟨h9,h11⟩
  ·exact ⟨h10,h12⟩
 have hcs:∀ b∈[e,T],H1 b=none∧X.s₀.heap.get? b=none:=fun b z=>⟨(two b z).2,jM (I0.there0 hex) (two b z).1⟩
 have hcp:∀ b∈[e,T],∀ p∈X.pn ++ pins,p.1≠b:=fun b z p hp q=>by
  have:=(I0.pin p hp).1
  rw [q,(two b z).1] at this;cases this
 refine wpAny_looks_onW (base:=W.hideAll s1.heap (frs X.stack ++ [e,T])) (a0:=a0) (cls:=.ref C) (by rw [I1.ok.frames,hst.1]) hst.2
  ⟨fun b o q=>W.of_hideAll _ q,W.hideAll_none _ (List.mem_append_right _ (by simp)),fr,oe,vs,T,oT,ts,h1,h2,h3,h4,W.hideAll_none _ (List.mem_append_right _ (by simp)),h5,h6,h7,h8⟩ fun g4 held4 sm4=>?_
 refine wpAny_landsW held4 fun g5 fly5 sm5=>?_
 have hB:∀ {g:Heap},(W.hideAll s1.heap (frs X.stack ++ [e,T])).StaysIn g→∀ b o,s1.heap.get? b=some o→b ∉ frs X.stack→b ∉ [e,T]→g.get? b=some o :=
  fun {g} k b o q n1 n2=>k b o (W.hideAll_get _ q fun z=>(List.mem_append.mp z).elim n1 n2)
 have I5:Inv X pins σ1 H1 { s1 with heap:=g5 }:=I1.land hex hcs hcp (hB fly5.1) (sm4.trans sm5)
 have K5:=I5.kIn
 have ty5:W.Looks (model X.prog X.w) g5 (typeOf (.ref e)) (.ref C):=by
  obtain ⟨o,p1,p2⟩:=fly5.there
  exact p2 ▸ (W.Looks.ld p1).andThen .now
 have run:∀ {b₂:Stmt} {su:List Stmt} {th:TS} {hp:Pos} {R:Result→Shared→Prop},(∀ e,PSs (X.sub e) (b₂ :: su) th)→th D σ1 H1→(∀ f s',SP X pins D f s'→R (.ok f) s') →
   codeAny (model X.prog X.w) (X.A.mark (some (.ref e))) (.handlers (.ref e) [.ExceptHandler none none (b₂ :: su) hp] X.env) R { s1 with heap:=g5 }:=fun {b₂ su th hp R} hs hth hR=>by
  refine codeAny_handlers_suite (lands_againW fly5 fun g6 fly6 sm6=>?_)
  have I6:Inv X pins σ1 H1 { s1 with heap:=g6 }:=I1.land hex hcs hcp (hB fly6.1) ((sm4.trans sm5).trans sm6)
  refine wpAny_mono (hs e pins _ σ1 H1 D I6.toSub hth) (fun f s9 q=>hR f s9 ?_) fun _ _ z=>False.elim z
  cases f with
  | next=>obtain ⟨σ9,H9,J,z⟩:=q;exact ⟨σ9,H9,Inv.ofSub (J:=I) J,z⟩
  | brk=>obtain ⟨σ9,H9,J,z⟩:=q;exact ⟨σ9,H9,Inv.ofSub (J:=I) J,z⟩
  | cont=>obtain ⟨σ9,H9,J,z⟩:=q;exact ⟨σ9,H9,Inv.ofSub (J:=I) J,z⟩
  | ret u=>obtain ⟨v,σ9,H9,J,r,z⟩:=q;exact ⟨v,σ9,H9,Inv.ofSub (J:=I) J,r,z⟩
 refine wpAny_handleBy_cons (codeAny_handlers_test ?_) (by intro q;cases q)
 refine vD (X:=X.sub e) (I5.toSub (e:=e)) hg1 hm1 ?_ hdb1
 rcases hth with ⟨hx,ht⟩ | ⟨hx,hx2,ht⟩
 ·refine (W.exm_one K5 ty5 hx).here ?_
  exact run hs1 ht fun f s' q=>q
 ·refine (W.exm_one K5 ty5 hx).here ?_
  show wpAny _ _ (handleBy (.ref e) X.env _) _ _ _
  refine wpAny_handleBy_cons (codeAny_handlers_test ?_) (by intro q;cases q)
  refine vD (X:=X.sub e) (I5.toSub (e:=e)) hg2 hm2 ?_ hdb2
  refine (W.exm_one K5 ty5 hx2).here ?_
  exact run hs2 ht fun f s' q=>q
end
structure RoomH (k:Nat) (A:Around):Prop where
 dp:A.depth + 3 * k + 5 < recursionLimit
 un:A.units + 16 * k + 200 < cLine
theorem zcf {k:Nat} {A:Around} {v:Option Value} (r:Room k A):RoomH k (A.mark v):=⟨r.dp,r.un⟩
theorem RoomH.deeper {k:Nat} {A:Around} (r:RoomH (k + 1) A) (env:Env):RoomH k (A.deeper env) :=
 ⟨by have:=r.dp;show A.depth + 1 + 3 * k + 5 < _;lia,by have:=r.un;show A.units + 3 + 16 * k + 200 < _;lia⟩
theorem RoomH.mono {j k:Nat} {A:Around} (r:RoomH k A) (h:j≤k):RoomH j A:=⟨by have:=r.dp;lia,by have:=r.un;lia⟩
structure FnOkH (P:Program) (w:World) (K:W.Frag) (mg:Str→Option Value) (base:Heap) (k:Nat) (f:Addr) (fd:FuncData) (ps:List Str) (sp:Sp):Prop where
 len:∀ vs H Q E,sp vs H Q E→vs.length=ps.length
 run:∀ (A:Around) (outer:List Env) (s:Shared) (H:Hp) (args:Args) (us:List Value) (vs:List V) (Q:VK) (E:XK),RoomH k A→Env0 P w K mg base A outer s H→BindsTo s fd args (ps.zip us)→Vals vs us→sp vs H Q E →
  codeAny (model P w) A (.call (.ref f) args) (CR CX0 outer P w H s Q E) s
theorem FnOkH.toFn {P:Program} {w:World} {K:W.Frag} {mg:Str→Option Value} {base:Heap} {CX:CXT} {k:Nat} {f:Addr} {fd:FuncData} {ps:List Str} {sp:Sp} (F:FnOkH P w K mg base k f fd ps sp):FnOk P w K mg base CX k f fd ps sp :=
 ⟨F.len,fun A outer s H args us vs Q E hr he hb hv hs=>codeAny_mono (F.run A outer s H args us vs Q E ⟨hr.dp,hr.un⟩ he hb hv hs) fun r s' q=>by
  cases r with
  | error e=>exact False.elim q
  | ok fl=>cases fl <;> exact q⟩
abbrev cxH (P:Program) (w:World) (K:W.Frag) (mg:Str→Option Value) (base:Heap) (N:List Str) (qual:Str) (scope:Scope) (f:Addr) (cd:Value) (A:Around) (outer:List Env) (s:Shared) (H:Hp):Cx :=
 { kH CX0 P w K mg base N qual scope f cd A outer s H E0 with calm:=false,xe:=fun _ _=>False }
theorem zcM {P:Program} {w:World} {K:W.Frag} {mg:Str→Option Value} {base:Heap} {k:Nat} {f:Addr} {name qual:Str} {params:Arguments} {body:List Stmt} {scope:Scope} {dV kV doc pm cdv ct oc:Value} {an od:Option Addr}
  {osl:Array (Option Value)} {N ps:List Str} {sp:Sp} (lk:K.lookup f=some ⟨oc,od,.func (W.fnOf name qual params body scope dV kV doc pm an cdv ct),osl⟩) (hcd:W.codeIn K cdv qual=true) (S:zC N ps scope)
  (len:∀ vs H Q E,sp vs H Q E→vs.length=ps.length)
  (hbody:∀ (A:Around) (outer:List Env) (s:Shared) (H:Hp) (vs:List V) (Q:VK) (E:XK),RoomH k (A.deeper (envOfC qual scope s.heap.objs.size f cdv))→sp vs H Q E →
   ∃ t,PSs (cxH P w K mg base N qual scope f cdv A outer s H) body t∧t { nx:=fun _ H'=>Q .non H',rt:=Q } (start N vs) H) :
  FnOkH P w K mg base (k + 1) f (W.fnOf name qual params body scope dV kV doc pm an cdv ct) ps sp:=by
 refine ⟨len,fun A outer s H args us vs Q E hr e0 hb r hsp=>?_⟩
 have hl:=len _ _ _ _ hsp
 have KX:K.In s.heap:=e0.mod.kin.keeps fun b o e=>(e0.bs b o e).1
 have lim:s.heap.NoLimit:=e0.mod.nolimit.keeps fun b o e=>(e0.bs b o e).1
 have hkind:∀ y∈ps.zip us,scope.names.lookup y.1=some .local∨(scope.names.lookup y.1=some .cell∧((cellsFrom (s.heap.objs.size + 1) scope.names []).lookup y.1).isSome=true):=fun ⟨n,v⟩ hy=>by
  rcases S.par n (List.of_mem_zip hy).1 with q | q
  ·exact .inl q
  ·exact .inr ⟨q,W.cellsFrom_some _ _ _ (.inl q)⟩
 refine codeAny_call_function (by have:=hr.dp;lia) (KX _ _ lk) rfl S.co S.gen rfl (W.codeRec_of KX hcd) (hb _ _ _ _ ?_)
 refine wpAny_newFunctionEnv_cells S.kind hkind fun env he s1 x=>?_
 subst he
 refine ⟨lim.keeps x.toInCall.keep,codeAny_func ?_⟩
 obtain ⟨t,ht,hq⟩:=hbody A outer s H vs Q E (hr.deeper _) hsp
 have e1:Env0 P w K mg base { A with handled:=none } outer s H:=⟨e0.frames,e0.mod,e0.bs,e0.bsz,e0.funs,e0.frf,e0.hok,e0.bare⟩
 have I0:Inv (kH CX0 P w K mg base N qual scope f cdv { A with handled:=none } outer s H E0) [] (start N vs) H s1:=XW S rfl e1 hl r x
 have I:Inv (cxH P w K mg base N qual scope f cdv A outer s H) [] (start N vs) H s1 :=
  ⟨⟨I0.ok.mod,I0.ok.kind,I0.ok.glob,I0.ok.blt,I0.ok.above,I0.ok.inj,I0.ok.has,I0.ok.cab,(fun z=>nomatch z),Around.frames_deeper e0.frames,I0.ok.stk,I0.ok.exf,I0.ok.bs,I0.ok.bsz,I0.ok.noex,I0.ok.exfs,I0.ok.funs,I0.ok.frf⟩,I0.os,I0.bare,I0.base,I0.loc,I0.cell,I0.free,I0.freeC,I0.pin,I0.hok,I0.len⟩
 refine wpAny_mono (ht [] s1 (start N vs) H _ I hq) (fun fl s' hs=>?_) fun e s' hs=>False.elim hs
 have fin:∀ {σ':St} {H':Hp} {v:V} {u:Value},Inv (cxH P w K mg base N qual scope f cdv A outer s H) [] σ' H' s'→RelV v u→Q v H'→CE outer P w H s Q u s' :=
  fun {σ' H' v u} J rv q=>⟨v,H',J.os,J.bare,J.base,J.hok,rv,q⟩
 cases fl with
 | ret u =>
  obtain ⟨v,σ',H',J,rv,q⟩:=hs
  exact fin J rv q
 | next =>
  obtain ⟨σ',H',J,q⟩:=hs
  exact fin (v:=V.non) (u:=Value.none) J rfl q
 | brk =>
  obtain ⟨_,_,_,q⟩:=hs
  exact False.elim q
 | cont =>
  obtain ⟨_,_,_,q⟩:=hs
  exact False.elim q
theorem Fun.okH {P:Program} {w:World} {K:W.Frag} {mg:Str→Option Value} {base:Heap} {x qual:Str} {st:Stmt} {f:Addr} {fd:FuncData} {N ps:List Str} {k:Nat} {sp:Sp} (F:Fun K x qual st f fd) (S:zC N ps (zh st)) (len:∀ vs H Q E,sp vs H Q E→vs.length=ps.length)
  (hbody:∀ (cdv:Value) (A:Around) (outer:List Env) (s:Shared) (H:Hp) (vs:List V) (Q:VK) (E:XK),RoomH k (A.deeper (envOfC qual (zh st) s.heap.objs.size f cdv))→sp vs H Q E →
   ∃ t,PSs (cxH P w K mg base N qual (zh st) f cdv A outer s H) (zB st) t∧t { nx:=fun _ H'=>Q .non H',rt:=Q } (start N vs) H):FnOkH P w K mg base (k + 1) f fd ps sp:=by
 obtain ⟨oc,od,kV,doc,pm,an,cdv,ct,osl,rfl,lk,hcd⟩:=F.ex
 exact zcM lk hcd S len fun A outer s H vs Q E hr hsp=>hbody cdv A outer s H vs Q E hr hsp
section
variable {X:Cx} {k:Nat} {f:Addr} {fd:FuncData} {ps:List Str} {sp:Sp} {x:Str} {p pos:Pos} {e:Expr} {es:List Expr} {t:TA}
theorem VL (F:FnOkH X.prog X.w X.K X.mg X.base k f fd ps sp) (hr:RoomH k X.A) (hg:Gl X x) (hm:X.mg x=some (.ref f)) (hk:W.keepIn X.K (.ref f)=true) (hb:Binds X.K fd ps [])
  (ha:PA X (e :: es) t) (hdb:(x == ("__debug__":Str))=false:=by decide) (he:starEach (e :: es) X.env=(false,eval e X.env) :: starEach es X.env:=by rfl) (hpl:(backTo pos (starEach es X.env)).any (·.1)=false:=by rfl) :
  PE X (.Call (.Name x p) (e :: es) [] pos) (zo sp [] E0 t):=by
 intro pins s σ H Q I h
 refine wpAny_Call_Name_kw (vD I hg hm ?_ hdb)
 refine W.callWith_K (h₀:=X.base) I.ok.mod.kin hk (thn (ha pos pins s σ H _ I h) fun us s1 ⟨vs,H1,I1,r,q⟩=>⟨I1.kIn,?_⟩) he hpl
 have r2:Vals (vs ++ []) (us ++ []):=r.append .nil
 have hl:(us ++ []).length=ps.length:=by rw [← r2.length];exact F.len _ _ _ _ q
 refine wpAny_call (codeAny_mono (F.run X.A X.stack s1 H1 ⟨us,[]⟩ (us ++ []) (vs ++ []) Q E0 hr I1.env0 (hb s1 us I1.kIn hl) r2 q) fun r s' hq=>?_)
 cases r with
 | error e=>exact False.elim hq
 | ok fl =>
  cases fl with
  | ret u=>exact I1.after hq
  | next=>exact False.elim hq
  | brk=>exact False.elim hq
  | cont=>exact False.elim hq
end
end L2
namespace L2
open PySem
def rk (kvs:List (Key × V)) (ps:List V):Except Er Int:=match wW kvs ps [] with
 | .ok [i]=>.ok i
 | .ok _=>.error .stuck
 | .error e=>.error e
theorem Good.rk {kvs:List (Key × V)} {ps:List V} {r:Except Er Int} (h:Good kvs ps r):L2.rk kvs ps=r:=by
 unfold L2.rk
 rw [h.1 []]
 cases r <;> rfl
theorem zak {kvs:List (Key × V)} (hs:yL kvs) {v:V} (hv:j8 v) {st st':List Int} (h:∀ x∈st,inW x=true) (e:ww kvs st v=.ok st'):∀ x∈st',inW x=true:=by
 unfold ww at e
 split at e
 ·split at e
  ·rename_i w b a r hr hj
   unfold vB at e
   by_cases c1:Z0 w∧b=0
   ·rw [if_pos c1] at e;cases e
   ·rw [if_neg c1] at e
    by_cases c2:inW (vW w a b)=true
    ·rw [if_pos c2] at e
     cases e
     intro x hx
     rcases List.mem_append.mp hx with hx | hx
     ·refine h x (List.mem_reverse.mp ?_)
      rw [hr]
      exact List.mem_cons_of_mem _ (List.mem_cons_of_mem _ (List.mem_reverse.mp hx))
     ·rw [List.mem_singleton.mp hx];exact c2
    ·rw [if_neg c2] at e;cases e
  ·cases e
 ·cases e
  intro x hx
  rcases List.mem_append.mp hx with hx | hx
  ·exact h x hx
  ·rw [List.mem_singleton.mp hx];exact VB hs hv
theorem KA {kvs:List (Key × V)} (hs:yL kvs):∀ {ps:List V} {st st':List Int},(∀ v∈ps,j8 v)→(∀ x∈st,inW x=true)→wW kvs ps st=.ok st'→∀ x∈st',inW x=true
 | [],st,st',_,h,e=>by cases e;exact h
 | v :: r,st,st',hp,h,e=>by
  unfold wW at e
  split at e
  ·rename_i st1 e1
   exact KA hs (fun v hv=>hp v (List.mem_cons_of_mem _ hv)) (zak hs (hp v List.mem_cons_self) h e1) e
  ·cases e
theorem WN {kvs:List (Key × V)} (hs:yL kvs) {ps:List V} (hp:∀ v∈ps,j8 v) {i:Int} (e:rk kvs ps=.ok i):inW i=true:=by
 unfold rk at e
 split at e
 ·rename_i j hj
  cases e
  exact KA hs hp (fun _ z=>absurd z List.not_mem_nil) hj i List.mem_cons_self
 ·cases e
 ·cases e
def TermOk (e:List V):Prop:=(∀ kvs,∃ r,Good kvs e r)∧(∀ v∈e,j8 v)∧e.length≤1000
theorem TermOk.good {e:List V} (h:TermOk e) (kvs:List (Key × V)):Good kvs e (rk kvs e):=by
 obtain ⟨r,g⟩:=h.1 kvs
 rw [g.rk];exact g
mutual
inductive Rw where
 | take (sh:Str) (e:List V) (sl:Str)
 | give (sh:Str) (e f:List V)
 | lt (sl:Str) (e:List V)
 | say (e:List V)
 | off (e:List V)
 | iff (e:List V) (a b:Rws)
inductive Rws where
 | nil
 | cons (r:Rw) (rs:Rws)
end
set_option genSizeOf false in
set_option genInjectivity false in
structure Sta where
 sl:List (Key × V)
 wo:List Row
 sa:List Int
inductive Res where
 | go (s:Sta)
 | off
 | er (e:Er)
mutual
def goR:Rw→Sta→Res
 | .take sh e sl,s=>match rk s.sl e with
  | .ok n=>.go { s with sl:=yD s.sl (.inr sl) (.int ((zu s.wo (sh,n)).getD 0)) }
  | .error x=>.er x
 | .give sh e f,s=>match rk s.sl e with
  | .ok n=>(match rk s.sl f with
   | .ok w=>.go { s with wo:=s.wo ++ [((sh,n),w)] }
   | .error x=>.er x)
  | .error x=>.er x
 | .lt sl e,s=>match rk s.sl e with
  | .ok n=>.go { s with sl:=yD s.sl (.inr sl) (.int n) }
  | .error x=>.er x
 | .say e,s=>match rk s.sl e with
  | .ok n=>.go { s with sa:=s.sa ++ [n] }
  | .error x=>.er x
 | .off e,s=>match rk s.sl e with
  | .ok n=>if n=0 then .go s else .off
  | .error x=>.er x
 | .iff e a b,s=>match rk s.sl e with
  | .ok n=>if n=0 then yE b s else yE a s
  | .error x=>.er x
def yE:Rws→Sta→Res
 | .nil,s=>.go s
 | .cons r rs,s=>match goR r s with
  | .go s'=>yE rs s'
  | x=>x
end
mutual
def RwAt (F:Addr→Prop) (H:Hp) (v:V):Rw→Prop
 | .take sh e sl=>∃ r te,v=.ref r∧F r∧F te∧H r=some (.tup [.str "take",.str sh,.ref te,.str sl])∧H te=some (.tup e)
 | .give sh e f=>∃ r te tf,v=.ref r∧F r∧F te∧F tf∧H r=some (.tup [.str "give",.str sh,.ref te,.ref tf])∧H te=some (.tup e)∧H tf=some (.tup f)
 | .lt sl e=>∃ r te,v=.ref r∧F r∧F te∧H r=some (.tup [.str "let",.str sl,.ref te])∧H te=some (.tup e)
 | .say e=>∃ r te,v=.ref r∧F r∧F te∧H r=some (.tup [.str "say",.ref te])∧H te=some (.tup e)
 | .off e=>∃ r te,v=.ref r∧F r∧F te∧H r=some (.tup [.str "off",.ref te])∧H te=some (.tup e)
 | .iff e a b=>∃ r te la lb xs ys,v=.ref r∧F r∧F te∧F la∧F lb∧H r=some (.tup [.str "if",.ref te,.ref la,.ref lb])∧H te=some (.tup e)∧H la=some (.lst xs)∧RwsAt F H xs a∧H lb=some (.lst ys)∧RwsAt F H ys b
def RwsAt (F:Addr→Prop) (H:Hp) (vs:List V):Rws→Prop
 | .nil=>vs=[]
 | .cons r rs=>∃ v ws,vs=v :: ws∧RwAt F H v r∧RwsAt F H ws rs
end
mutual
theorem RwAt.to_ {F G:Addr→Prop} {H H':Hp} (g:∀ b o,F b→H b=some o→G b) (s:∀ b o,F b→H b=some o→H' b=some o):∀ {v:V} (r:Rw),RwAt F H v r→RwAt G H' v r
 | v,.take sh e sl,h=>by
  unfold RwAt at h ⊢
  obtain ⟨r,te,e1,f1,f2,e2,e3⟩:=h
  exact ⟨r,te,e1,g _ _ f1 e2,g _ _ f2 e3,s _ _ f1 e2,s _ _ f2 e3⟩
 | v,.give sh e f,h=>by
  unfold RwAt at h ⊢
  obtain ⟨r,te,tf,e1,f1,f2,f3,e2,e3,e4⟩:=h
  exact ⟨r,te,tf,e1,g _ _ f1 e2,g _ _ f2 e3,g _ _ f3 e4,s _ _ f1 e2,s _ _ f2 e3,s _ _ f3 e4⟩
 | v,.lt sl e,h=>by
  unfold RwAt at h ⊢
  obtain ⟨r,te,e1,f1,f2,e2,e3⟩:=h
  exact ⟨r,te,e1,g _ _ f1 e2,g _ _ f2 e3,s _ _ f1 e2,s _ _ f2 e3⟩
 | v,.say e,h=>by
  unfold RwAt at h ⊢
  obtain ⟨r,te,e1,f1,f2,e2,e3⟩:=h
  exact ⟨r,te,e1,g _ _ f1 e2,g _ _ f2 e3,s _ _ f1 e2,s _ _ f2 e3⟩
 | v,.off e,h=>by
  unfold RwAt at h ⊢
  obtain ⟨r,te,e1,f1,f2,e2,e3⟩:=h
  exact ⟨r,te,e1,g _ _ f1 e2,g _ _ f2 e3,s _ _ f1 e2,s _ _ f2 e3⟩
 | v,.iff e a b,h=>by
  unfold RwAt at h ⊢
  obtain ⟨r,te,la,lb,xs,ys,e1,f1,f2,f3,f4,e2,e3,e4,e5,e6,e7⟩:=h
  exact ⟨r,te,la,lb,xs,ys,e1,g _ _ f1 e2,g _ _ f2 e3,g _ _ f3 e4,g _ _ f4 e6,s _ _ f1 e2,s _ _ f2 e3,s _ _ f3 e4,RwsAt.to_ g s a e5,s _ _ f4 e6,RwsAt.to_ g s b e7⟩
theorem RwsAt.to_ {F G:Addr→Prop} {H H':Hp} (g:∀ b o,F b→H b=some o→G b) (s:∀ b o,F b→H b=some o→H' b=some o):∀ {vs:List V} (r:Rws),RwsAt F H vs r→RwsAt G H' vs r
 | vs,.nil,h=>by
  unfold RwsAt at h ⊢
  exact h
 | vs,.cons r rs,h=>by
  unfold RwsAt at h ⊢
  obtain ⟨v,ws,e1,e2,e3⟩:=h
  exact ⟨v,ws,e1,RwAt.to_ g s r e2,RwsAt.to_ g s rs e3⟩
end
theorem RwAt.to {F G:Addr→Prop} {H H':Hp} {v:V} (r:Rw) (g:∀ b o,F b→H b=some o→G b) (s:∀ b o,F b→H b=some o→H' b=some o) (h:RwAt F H v r):RwAt G H' v r:=RwAt.to_ g s r h
theorem RwsAt.to {F G:Addr→Prop} {H H':Hp} {vs:List V} (r:Rws) (g:∀ b o,F b→H b=some o→G b) (s:∀ b o,F b→H b=some o→H' b=some o) (h:RwsAt F H vs r):RwsAt G H' vs r:=RwsAt.to_ g s r h
theorem RwAt.mono {F:Addr→Prop} {H H':Hp} (s:Same H H') {v:V} {r:Rw} (h:RwAt F H v r):RwAt F H' v r:=h.to r (fun _ _ f _=>f) (fun b o _ e=>s b o e)
theorem RwsAt.mono {F:Addr→Prop} {H H':Hp} (s:Same H H') {vs:List V} {r:Rws} (h:RwsAt F H vs r):RwsAt F H' vs r:=h.to r (fun _ _ f _=>f) (fun b o _ e=>s b o e)
def qE (F:Addr→Prop) (H:Hp) (v:V) (r:Rws):Prop:=∃ a xs,v=.ref a∧F a∧H a=some (.lst xs)∧RwsAt F H xs r
abbrev yO:Addr→Prop:=fun _=>True
mutual
def xQ:Rw→Prop
 | .take _ e _=>TermOk e
 | .give _ e f=>TermOk e∧TermOk f
 | .lt _ e=>TermOk e
 | .say e=>TermOk e
 | .off e=>TermOk e
 | .iff e a b=>TermOk e∧yX a∧yX b
def yX:Rws→Prop
 | .nil=>True
 | .cons r rs=>xQ r∧yX rs
end
mutual
def Rw.deep:Rw→Nat
 | .iff _ a b=>max a.deep b.deep + 1
 | _=>0
def Rws.deep:Rws→Nat
 | .nil=>0
 | .cons r rs=>max r.deep rs.deep
end
mutual
def Rw.cnt:Rw→Nat
 | .iff _ a b=>max a.cnt b.cnt + 1
 | _=>1
def Rws.cnt:Rws→Nat
 | .nil=>0
 | .cons r rs=>r.cnt + rs.cnt
end
end L2
namespace L2
open PySem
abbrev ItA (h:Heap) (it d:Addr) (i n ep:Nat) (o0:Value) (f:Bool) (ok ov:Value):Prop :=
 h.get? it=some { cls:=.type "dict_itemiterator",dict:=none,data:=.fields #[o0,.bool f,.ref d,.int i 0,.int n 0,.int ep 0,ok,ov],slots:=#[] }
section
variable {P:Program} {w:World} {A:Around} {E:Value→Shared→Prop} {s:Shared}
theorem VM {v d:Addr} {es:Array DictEntry} {ep:Nat} {Q:Value→Shared→Prop} (hv:s.heap.IsItemsView v d) (hm:RawD s.heap d es ep)
  (q:Q (.ref s.heap.objs.size) { s with heap:=s.heap.push { cls:=.type "dict_itemiterator",data:=.fields #[.none,.bool false,.ref d,.int 0 0,.int es.size 0,.int ep 0,.none,.none] } }):wpAny (model P w) A (pyIter (.ref v)) Q E s:=by
 obtain ⟨ov,hov,hcv,hdv⟩:=id hv;obtain ⟨o,ho,hc,hdat⟩:=id hm
 refine wpAny_pyIter_slot hv.typeIs F.slot_dict_items_iter (wpAny_call_entry F.slot_dict_items_iter hv.typeIs F.entry_dict_items_iter ?_ (F.args_dict_items_iter_1 _));unfold Builtin.«dict_items.__iter__»
 refine wpAny_bind (wpAny_pure ?_);refine wpAny_bind ?_;unfold Builtin.Dict_items.dictOf
 refine wpAny_bind (wpAny_field hov hdv (x:=.ref d) rfl (wpAny_pure ?_));refine wpAny_bind ?_;unfold Builtin.Dict_items.newIterator
 refine wpAny_bind (wpAny_dictEntries ho hdat ?_);refine wpAny_bind (wpAny_dictEpoch ho hdat ?_)
 have own:Builtin.Dict_items.ownsTuple "dict_itemiterator"=true:=by decide
 simp only [own,if_true];refine wpAny_newObj_type (wpAny_pure ⟨_,rfl,"dict_itemiterator",_,⟨_,Heap.get?_push_size _ rfl,rfl⟩,F.slot_dict_itemiterator_next.lookup,?_⟩) (by simp only [sizeOk,Builtin.Dict_items.ownedTupleFields,List.size_toArray,List.length_append,List.length_cons,List.length_nil,sizeLine_eq];lia)
 simpa [rawInt,Builtin.Dict_items.ownedTupleFields] using q
theorem zal {it d:Addr} {i ep:Nat} {es:Array DictEntry} {e:DictEntry} {o0 ok ov:Value} {f:Bool} {Q:Option Value→Shared→Prop} (hit:ItA s.heap it d i es.size ep o0 f ok ov) (hm:RawD s.heap d es ep) (hx:es[i]?=some e)
  (ho0:(o0=.none∧f=false)∨∃ (a:Addr) (oa:Obj),o0=rawInt (a:Nat)∧s.heap.get? a=some oa∧a≠it)
  (q:∀ h' o1 f1 k1 v1,ItA h' it d (i + 1) es.size ep o1 f1 k1 v1→((o1=.none∧f1=false)∨∃ (a:Addr) (oa:Obj),o1=rawInt (a:Nat)∧h'.get? a=some oa∧a≠it)→h'.get? s.heap.objs.size=some { cls:=.type "tuple",data:=.seq #[e.key,e.val] }→h'.objs.size=s.heap.objs.size + 1 →
   (∀ b o,b≠it→s.heap.get? b=some o→h'.get? b=some o)→(∀ a:Addr,o1=rawInt (a:Nat)→a=s.heap.objs.size∨o0=rawInt (a:Nat))→Q (some (.ref s.heap.objs.size)) { s with heap:=h' }):wpAny (model P w) A (pyNext (.ref it)) Q E s:=by
 obtain ⟨hp,g,dr,tk,os⟩:=s;obtain ⟨od,hod,hcd,hdd⟩:=id hm
 have T:Shared.TypeIs ⟨hp,g,dr,tk,os⟩ (.ref it) "dict_itemiterator":=⟨_,hit,rfl⟩
 unfold pyNext;refine wpAny_bind (wpAny_attempt (wpAny_callSpecial?_slot (name:=Str.ofString "__next__") T F.slot_dict_itemiterator_next (wpAny_call_entry F.slot_dict_itemiterator_next T F.entry_dict_itemiterator_next ?_ (F.args_dict_itemiterator_next_1 _))))
 refine wpAny_bind (wpAny_pure ?_);refine wpAny_bind ?_;refine wpAny_bind ?_
 first | (refine wpAny_bind (wpAny_typeNameOfWhole_itemiter T (wpAny_pure ?_))) | (refine wpAny_bind (wpAny_typeNameOf_itemiter T (wpAny_pure ?_)))
 refine wpAny_bind (wpAny_fieldsOf hit rfl ?_);have own:Builtin.Dict_items.ownsTuple "dict_itemiterator"=true:=by decide
 simp only [own,if_true];show wpAny _ _ (if (Value.ref d == Value.none)=true then _ else _) _ _ _
 rw [if_neg (show ¬ ((Value.ref d == Value.none)=true) from Bool.false_ne_true)];refine wpAny_bind (wpAny_pure ?_);refine wpAny_bind (wpAny_dictEntries hod hdd ?_)
 rw [if_neg (by simp)];refine wpAny_bind (wpAny_pure ?_);refine wpAny_bind (wpAny_dictEpoch hod hdd ?_);rw [if_neg (by simp)];refine wpAny_pure ?_
 simp only [show ¬ ((i:Int) < 0) from by lia,if_false,Int.toNat_natCast,hx];refine wpAny_bind ?_
 first | (refine wpAny_bind (wpAny_typeNameOfWhole_itemiter T (wpAny_pure ?_))) | (refine wpAny_bind (wpAny_typeNameOf_itemiter T (wpAny_pure ?_)))
 refine wpAny_bind (wpAny_isOneOf_itemiter T ?_);show wpAny _ _ (setField (.ref it) 3 (rawInt ((i:Int) + 1)) >>= _) _ _ ⟨hp,g,dr,tk,os⟩
 refine wpAny_bind (wpAny_setField_rec hit (by simp) fun h₁ e1 s1=>?_)
 replace s1:Heap.SameBut it hp h₁:=s1
 replace e1:ItA h₁ it d (i + 1) es.size ep o0 f ok ov:=by
  have z:((i + 1:Nat):Int)=(i:Int) + 1:=by lia
  unfold ItA;rw [z];simpa [rawInt] using e1
 have T1:Shared.TypeIs ⟨h₁,g,dr,tk,os⟩ (.ref it) "dict_itemiterator":=⟨_,e1,rfl⟩
 refine wpAny_bind (wpAny_holding ?_);refine wpAny_bind (wpAny_isOneOf_itemiter T1 ?_);refine wpAny_bind (wpAny_isOneOf_itemiter T1 ?_)
 show wpAny _ _ (Builtin.Dict_items.pairFromOwner (.ref it) 6 e.key e.val) _ _ ⟨h₁,g,dr,tk,os⟩
 unfold Builtin.Dict_items.pairFromOwner;refine wpAny_bind (wpAny_newTuple ?_)
 have e2:ItA (h₁.push { cls:=.type "tuple",data:=.seq #[e.key,e.val] }) it d (i + 1) es.size ep o0 f ok ov:=Heap.get?_push_of_some _ e1
 generalize hg:h₁.push { cls:=.type "tuple",data:=.seq #[e.key,e.val] }=h₂ at e2
 have z1:h₁.objs.size=hp.objs.size:=s1.1;have il:it < hp.objs.size:=Heap.lt_size hit
 have t2:h₂.get? hp.objs.size=some { cls:=.type "tuple",data:=.seq #[e.key,e.val] }:=by rw [← hg,← z1];exact Heap.get?_push_size _ rfl
 have z2:h₂.objs.size=hp.objs.size + 1:=by rw [← hg,Heap.size_push,z1]
 have k2:∀ b o,b≠it→hp.get? b=some o→h₂.get? b=some o:=fun b o hb z=>by rw [← hg];exact Heap.get?_push_of_some _ (s1.extBut b o hb z)
 show wpAny _ _ (Builtin.Dict_items.ownedTupleIsFree (.ref it) >>= _) _ _ ⟨h₂,g,dr,tk,os⟩;rw [z1]
 clear hg e1 s1 T1 z1 h₁;refine wpAny_bind ?_;unfold Builtin.Dict_items.ownedTupleIsFree
 rcases ho0 with ⟨rfl,rfl⟩ | ⟨a,oa,rfl,ha,hai⟩
 ·refine wpAny_bind (wpAny_field e2 rfl (x:=.none) rfl (wpAny_pure ?_));simp only [if_true]
  refine wpAny_bind (wpAny_field e2 rfl (x:=ok) rfl ?_);refine wpAny_bind (wpAny_field e2 rfl (x:=ov) rfl ?_)
  refine wpAny_bind (wpAny_setField_rec e2 (by simp) fun h₃ e3 s3=>?_);replace s3:Heap.SameBut it h₂ h₃:=s3;replace e3:ItA h₃ it d (i + 1) es.size ep .none false e.key ov:=e3
  refine wpAny_bind (wpAny_setField_rec e3 (by simp) fun h₄ e4 s4=>?_);replace s4:Heap.SameBut it h₃ h₄:=s4;replace e4:ItA h₄ it d (i + 1) es.size ep .none false e.key e.val:=e4
  refine wpAny_bind (wpAny_setField_rec e4 (by simp) fun h₅ e5 s5=>?_);replace s5:Heap.SameBut it h₄ h₅:=s5;replace e5:ItA h₅ it d (i + 1) es.size ep (rawInt (hp.objs.size:Nat)) false e.key e.val:=e5
  refine wpAny_bind (wpAny_setField_rec e5 (by simp) fun h₆ e6 s6=>?_);replace s6:Heap.SameBut it h₅ h₆:=s6;replace e6:ItA h₆ it d (i + 1) es.size ep (rawInt (hp.objs.size:Nat)) false e.key e.val:=e6
  have k6:∀ b o,b≠it→h₂.get? b=some o→h₆.get? b=some o:=fun b o hb z=>s6.extBut b o hb (s5.extBut b o hb (s4.extBut b o hb (s3.extBut b o hb z)))
  have t6:=k6 _ _ (Nat.ne_of_gt il) t2
  refine wpAny_bind (wpAny_letGo (wpAny_pure (wpAny_pure ⟨_,rfl,wpAny_pure (q h₆ _ _ _ _ e6 (.inr ⟨_,_,rfl,t6,Nat.ne_of_gt il⟩) t6 ?_ (fun b o hb z=>k6 b o hb (k2 b o hb z)) fun a z=>?_)⟩)))
  ·show h₆.objs.size=hp.objs.size + 1;rw [s6.1,s5.1,s4.1,s3.1,z2]
  ·refine .inl ?_
   have z':(Value.int (hp.objs.size:Nat) 0:Value)=Value.int (a:Nat) 0:=z
   have z'':((hp.objs.size:Nat):Int)=((a:Nat):Int):=by injection z'
   exact (Int.ofNat.inj z'').symm
 ·refine wpAny_bind (wpAny_field e2 rfl (x:=rawInt (a:Nat)) rfl ?_);show wpAny _ _ (loadIfAlive (((a:Nat):Int).toNat) >>= _) _ _ _;rw [Int.toNat_natCast]
  have a2:h₂.get? a=some oa:=k2 a oa hai ha
  refine wpAny_bind (W.kdx_alive a2 ?_);simp only [Option.isNone_some,Bool.false_eq_true,if_false];refine wpAny_bind (wpAny_field e2 rfl (x:=.bool f) rfl ?_)
  cases f with
  | true =>
   rw [if_neg (show ¬ ((Value.bool true != Value.bool true)=true) from Bool.false_ne_true)];refine wpAny_pure ?_;simp only [Bool.false_eq_true,if_false]
   exact wpAny_pure (wpAny_pure ⟨_,rfl,wpAny_pure (q h₂ _ _ _ _ e2 (.inr ⟨_,_,rfl,a2,hai⟩) t2 z2 k2 fun a z=>.inr z)⟩)
  | false =>
   rw [if_pos (show (Value.bool false != Value.bool true)=true from rfl)];refine wpAny_bind (wpAny_setField_rec e2 (by simp) fun h₃ e3 s3=>?_)
   replace s3:Heap.SameBut it h₂ h₃:=s3;replace e3:ItA h₃ it d (i + 1) es.size ep (rawInt (a:Nat)) true ok ov:=e3
   refine wpAny_pure ?_;simp only [Bool.false_eq_true,if_false]
   exact wpAny_pure (wpAny_pure ⟨_,rfl,wpAny_pure (q h₃ _ _ _ _ e3 (.inr ⟨_,_,rfl,s3.extBut _ _ hai a2,hai⟩) (s3.extBut _ _ (Nat.ne_of_gt il) t2) (by show h₃.objs.size=_;rw [s3.1,z2]) (fun b o hb z=>s3.extBut b o hb (k2 b o hb z)) fun a z=>.inr z)⟩)
theorem KB {it d:Addr} {i ep:Nat} {es:Array DictEntry} {o0 ok ov:Value} {f:Bool} {Q:Option Value→Shared→Prop} (hh:A.handled=none) (hit:ItA s.heap it d i es.size ep o0 f ok ov) (hm:RawD s.heap d es ep) (hx:es.size≤i)
  (q:∀ h',Heap.ExtBut it s.heap h'→Q none { s with heap:=h' }):wpAny (model P w) A (pyNext (.ref it)) Q E s:=by
 obtain ⟨od,hod,hcd,hdd⟩:=id hm;have T:s.TypeIs (.ref it) "dict_itemiterator":=⟨_,hit,rfl⟩
 unfold pyNext;refine wpAny_bind (wpAny_attempt (wpAny_callSpecial?_slot (name:=Str.ofString "__next__") T F.slot_dict_itemiterator_next (wpAny_call_entry F.slot_dict_itemiterator_next T F.entry_dict_itemiterator_next ?_ (F.args_dict_itemiterator_next_1 _))))
 refine wpAny_bind (wpAny_pure ?_);refine wpAny_bind ?_;refine wpAny_bind ?_
 first | (refine wpAny_bind (wpAny_typeNameOfWhole_itemiter T (wpAny_pure ?_))) | (refine wpAny_bind (wpAny_typeNameOf_itemiter T (wpAny_pure ?_)))
 refine wpAny_bind (wpAny_fieldsOf hit rfl ?_);have own:Builtin.Dict_items.ownsTuple "dict_itemiterator"=true:=by decide
 simp only [own,if_true];show wpAny _ _ (if (Value.ref d == Value.none)=true then _ else _) _ _ s
 rw [if_neg (show ¬ ((Value.ref d == Value.none)=true) from Bool.false_ne_true)];refine wpAny_bind (wpAny_pure ?_);refine wpAny_bind (wpAny_dictEntries hod hdd ?_)
 rw [if_neg (by simp)];refine wpAny_bind (wpAny_pure ?_);refine wpAny_bind (wpAny_dictEpoch hod hdd ?_);rw [if_neg (by simp)];refine wpAny_pure ?_
 simp only [show ¬ ((i:Int) < 0) from by lia,if_false,Int.toNat_natCast,Array.getElem?_eq_none hx];refine wpAny_bind ?_
 first | (refine wpAny_bind (wpAny_typeNameOfWhole_itemiter T (wpAny_pure ?_))) | (refine wpAny_bind (wpAny_typeNameOf_itemiter T (wpAny_pure ?_)))
 show wpAny _ _ (setField (.ref it) 2 .none >>= _) _ _ s;refine wpAny_bind (wpAny_setField hit rfl (by simp) ?_)
 show wpAny _ _ (newExc (.type "StopIteration") [] >>= _) _ _ _;refine wpAny_bind ?_;simp only [newExc,newTuple];refine wpAny_bind (wpAny_newObj_type ?_ (by size_fits))
 refine wpAny_bind (m:=firstArgMember _ _) (wpAny_of_eq (a:=Value.none) (by first | rfl | (simp only [firstArgMember];rfl)) ?_);refine wpAny_newObj_type ?_ (by size_fits)
 simp only [raiseNew];refine wpAny_bind (wpAny_handled ?_);rw [show A.in1.handled=none from hh];refine wpAny_bind (wpAny_pure (wpAny_throw ?_))
 refine wpAny_bind (wpAny_isInstance (T:="StopIteration") (b:=true) ⟨_,Heap.get?_push_size _ rfl,rfl⟩ isSubtype_stop ?_);exact wpAny_pure (q _ (((Heap.SameBut.update ..).extBut.push _).push _))
end
end L2
namespace L2
open PySem PySem.Spec PyProof.Rows
def kT (r d:Addr):HO:=.ext fun h=>h.IsItemsView r d
def ka (td:TE):TE:=fun σ H Q=>td σ H fun x H1=>∃ d kvs,x=.ref d∧H1 d=some (.dT kvs)∧∀ r,H1 r=none→Q (.ref r) (upd H1 r (kT r d))
section
variable {X:Cx} {o:Expr} {apos cpos:Pos} {td:TE}
theorem YY (ho:PE X o td) (hbase:attributeBase o "items" X.env (eval o X.env)=eval o X.env:=by rfl) (hline:(apos.endLine == cpos.line)=true:=by rfl):PE X (.Call (.Attribute o "items" apos) [] [] cpos) (ka td):=by
 intro pins s σ H Q I h
 refine wpAny_Call_method0_late hbase hline (thn (ho pins s σ H _ I h) fun v s1 ⟨x,H1,I1,r1,d,kvs,ex,hd,q1⟩=>?_)
 subst ex
 obtain rfl:v=Value.ref d:=r1
 obtain ⟨t1,t2,t3⟩:=JG I1 (.inr ⟨kvs,.inl hd⟩)
 refine ⟨"dict","dict.items",PySem.F.plainAttrs_dict,PySem.F.slot_dict_items,PySem.F.type_dict_items,t1,t2,Calls.callWith_builtin rfl (PySem.evalArgs_none ?_)⟩
 refine wpAny_call_entry PySem.F.slot_dict_items t1 PySem.F.entry_dict_items ?_ (PySem.F.args_dict_items_1 _)
 unfold Builtin.«dict.items»;refine wpAny_bind ?_;unfold Builtin.Dict.noArgs;refine wpAny_bind (wpAny_notOrdered_dict t1 ?_)
 show wpAny _ _ (pure d) _ _ s1;refine wpAny_pure ?_
 show wpAny _ _ (Builtin.Dict.showsAll d >>= _) _ _ s1;unfold Builtin.Dict.showsAll
 rw [if_neg (by rw [t3];exact Bool.false_ne_true)];refine wpAny_bind (wpAny_pure ?_)
 refine wpAny_bind (wpAny_newObj_type (wpAny_pure ⟨_,rfl,?_⟩))
 have hn:H1 s1.heap.objs.size=none:=I1.hok.fresh (Nat.le_refl _)
 have at0:(s1.heap.push { cls:=.type "dict_items",data:=.fields #[.ref d] }).get? s1.heap.objs.size=some { cls:=.type "dict_items",data:=.fields #[.ref d] }:=Heap.get?_push_size _ rfl
 refine ⟨.ref s1.heap.objs.size,_,I1.laid (a:=s1.heap.objs.size) (o:=kT s1.heap.objs.size d) (t':=s1.toks) (fun b u e=>Heap.get?_push_of_some _ e) (Nat.le_refl _) ?_,rfl,q1 _ hn⟩
 exact ⟨⟨_,at0,rfl,rfl⟩,⟨_,at0⟩,fun h1 h2 ⟨o,e1,e2⟩ k=>⟨o,k o e1,e2⟩⟩
end
def Zp (H:Hp) (v:V) (kv:List Key × V):Prop:=∃ r p,v=.ref r∧H r=some (.tup [.ref p,kv.2])∧H p=some (.tup (kv.1.map kV))
theorem VN {H H':Hp} (s:∀ b ys,H b=some (.tup ys)→H' b=some (.tup ys)):∀ {vs:List V} {kvs:List (List Key × V)},Paired (Zp H) vs kvs→Paired (Zp H') vs kvs
 | _,_,.nil=>.nil
 | _,_,.cons ⟨r,p,e,h1,h2⟩ t=>.cons ⟨r,p,e,s _ _ h1,s _ _ h2⟩ (VN s t)
theorem VO {H:Hp} {v:V} {q:List Key × V}:∀ {ys:List V} {kvs:List (List Key × V)},Paired (Zp H) ys kvs→Zp H v q→Paired (Zp H) (ys ++ [v]) (kvs ++ [q])
 | _,_,.nil,h=>.cons h .nil
 | _,_,.cons a r,h=>.cons a (VO r h)
section
variable {X:Cx} {A:Around} {R:Result→Shared→Prop}
theorem zam {pins:List (Addr × Obj)} {σ:St} {H:Hp} {S it d:Addr} {kvs:List (List Key × V)} {es:Array DictEntry} {ep:Nat} {res:Value} (hh:A.handled=none) (hS:H S=none) (hd:H d=some (.dT kvs)) (Sit:S≠it) (dit:d≠it) (hz:kvs.length≤1000)
  (hes:es.size=kvs.length) (hen:∀ (i:Nat) (e:DictEntry) (kv:List Key × V),es[i]?=some e→kvs[i]?=some kv→∃ p,e.key=.ref p∧H p=some (.tup (kv.1.map kV))∧RelV kv.2 e.val) (fin:∀ s' H' ys,Inv X pins σ H' s'→Same H H'→H' S=some (.lst ys)→Paired (Zp H') ys kvs→R (.ok (.ret res)) s') :
  ∀ (k i:Nat) (s:Shared) (Hi:Hp) (ys:List V) (o0 ok ov:Value) (f:Bool),kvs.length - i=k→i≤kvs.length→Inv X pins σ Hi s→Same H Hi→Hi S=some (.lst ys)→Paired (Zp Hi) ys (kvs.take i)→RawD s.heap d es ep→ItA s.heap it d i es.size ep o0 f ok ov →
  ((o0=.none∧f=false)∨∃ (a:Addr) (oa:Obj),o0=rawInt (a:Nat)∧s.heap.get? a=some oa∧a≠it∧a≠S)→kL X pins Hi it →
  codeAny (model X.prog X.w) A (.builtin "list.extend.loop" ⟨[.ref S,.ref it,res],[]⟩) R s:=by
 intro k
 induction k with
 | zero =>
  intro i s Hi ys o0 ok ov f hk hi I sm hy pr rd hit ho0 hf
  have e:i=kvs.length:=by lia
  subst e
  refine codeAny_builtin PySem.F.entry_extend_loop ?_;rw [Around.under_plainId PySem.F.plain_extend_loop _]
  show wpAny _ A.in1 (pyNext (.ref it) >>= _) _ _ s
  obtain ⟨f0,f1,f2,f3,f4,f5⟩:=hf
  refine wpAny_bind (KB (A:=A.in1) hh hit rd (by lia) fun h' eb=>?_)
  have I1:=I.turned (t':=s.toks) (fun b o hb e=>eb b o hb e) f0 f1 f3 f4 f5
  rw [List.take_length] at pr
  exact wpAny_pure (fin _ Hi ys I1 sm hy pr)
 | succ k ih =>
  intro i s Hi ys o0 ok ov f hk hi I sm hy pr rd hit ho0 hf
  have hlt:i < kvs.length:=by lia
  have hx:es[i]?=some es[i]:=Array.getElem?_eq_getElem (by lia)
  have hkv:kvs[i]?=some kvs[i]:=List.getElem?_eq_getElem hlt
  obtain ⟨p,ek,hp,rv⟩:=hen i _ _ hx hkv
  refine codeAny_builtin PySem.F.entry_extend_loop ?_;rw [Around.under_plainId PySem.F.plain_extend_loop _]
  show wpAny _ A.in1 (pyNext (.ref it) >>= _) _ _ s
  obtain ⟨f0,f1,f2,f3,f4,f5⟩:=id hf
  have ho0':(o0=.none∧f=false)∨∃ (a:Addr) (oa:Obj),o0=rawInt (a:Nat)∧s.heap.get? a=some oa∧a≠it:=by
   rcases ho0 with z | ⟨a,oa,z1,z2,z3,_⟩
   ·exact .inl z
   ·exact .inr ⟨a,oa,z1,z2,z3⟩
  refine wpAny_bind (zal (A:=A.in1) hit rd hx ho0' fun h' o1 f1' k1 v1 hit' ho1 ht hz' kp own=>?_)
  have Sl:S < s.heap.objs.size:=by
   obtain ⟨_,_,_,_,e⟩:=(show ObjOk X.prog X.w Hi s.heap S (.lst ys) from I.hok S _ hy)
   exact Heap.lt_size e
  have tn:s.heap.objs.size≠it:=Nat.ne_of_gt (Heap.lt_size hit)
  have hTn:Hi s.heap.objs.size=none:=I.hok.fresh (Nat.le_refl _)
  have STn:S≠s.heap.objs.size:=Nat.ne_of_lt Sl
  generalize hT:s.heap.objs.size=T at *
  have I6:Inv X pins σ (upd Hi T (.tup [.ref p,kvs[i].2])) { s with heap:=s.heap.push { cls:=.type "tuple",data:=.seq #[es[i].key,es[i].val] } } :=
   I.laid (a:=T) (o:=.tup [.ref p,kvs[i].2]) (t':=s.toks) (fun b u e=>Heap.get?_push_of_some _ e) (by rw [hT];exact Nat.le_refl _) ⟨by show 2≤sizeLine;decide,[es[i].key,es[i].val],.cons (by rw [ek];exact rfl) (.cons rv .nil),⟨_,by rw [← hT];exact Heap.get?_push_size _ rfl,rfl,_,rfl⟩⟩
  have S6:Same Hi (upd Hi T (.tup [.ref p,kvs[i].2])):=isV T hTn
  have I7:Inv X pins σ (upd Hi T (.tup [.ref p,kvs[i].2])) { s with heap:=h' }:=I6.turned (s:={ s with heap:=s.heap.push { cls:=.type "tuple",data:=.seq #[es[i].key,es[i].val] } }) (t':=s.toks) (fun b o hb e=>by
   rcases Heap.get?_push_cases (show (s.heap.push { cls:=.type "tuple",data:=.seq #[es[i].key,es[i].val] }).get? b=some o from e) with ⟨rfl,rfl⟩ | e
   ·rw [hT];exact ht
   ·exact kp b o hb e) (by rw [zk (Ne.symm tn)];exact f0) f1 f3 f4 f5
  have hy7:(upd Hi T (.tup [.ref p,kvs[i].2])) S=some (.lst ys):=S6 _ _ hy
  obtain ⟨z,its,n,r,hl,e⟩:=I7.lstM hy7
  have yl:ys.length=i:=by
   have:=Paired.length pr
   rw [List.length_take] at this
   lia
  show wpAny _ A.in1 (updateSeq S (·.push (Value.ref T)) >>= _) _ _ _
  have e':h'.get? S=some { cls:=.type "list",data:=.seq its.toArray n }:=e
  refine wpAny_bind (wpAny_updateSeq (s:={ s with heap:=h' }) e' rfl ?_ (by rw [List.size_toArray,← r.length,yl];exact Nat.le_trans (by lia:i≤1000) (by decide)) (by rw [Array.size_push,List.size_toArray,← r.length,yl];exact Nat.le_trans (by lia:i + 1≤1001) (by decide)))
  have I8:=I7.lset (f:=fun xs=>xs.push (Value.ref T)) (t':=s.toks) (its':=its ++ [Value.ref T]) hy7 e' (by simp) (r.append (.cons (show RelV (.ref T) (.ref T) from rfl) .nil)) (by rw [List.length_append,yl];exact Nat.le_trans (by show i + 1≤1001;lia) (by decide))
  have up:∀ b o,b≠S→h'.get? b=some o→(h'.update S (Obj.mapSeq (·.push (Value.ref T)))).get? b=some o:=fun b o hb z=>(Heap.get?_update_other _ _ (Ne.symm hb)).trans z
  have dS:d≠S:=zJ hd hS
  have tS:∀ b zs,Hi b=some (.tup zs)→(upd (upd Hi T (.tup [.ref p,kvs[i].2])) S (.lst (ys ++ [.ref T]))) b=some (.tup zs):=fun b zs z=>by
   rw [zk (yq z hy (by intro z;cases z))];exact S6 _ _ z
  have ri:∀ {a b:Nat},(rawInt (a:Int):Value)=rawInt (b:Int)→a=b:=fun {a b} z=>by
   have z':(Value.int (a:Int) 0:Value)=Value.int (b:Int) 0:=z
   have z'':(a:Int)=(b:Int):=by injection z'
   exact Int.ofNat.inj z''
  refine wpAny_pure ⟨plainId_quiet PySem.F.plain_extend_loop _,ih (i + 1) _ _ (ys ++ [.ref T]) o1 k1 v1 f1' (by lia) hlt I8 (fun b o z=>?_) zd ?_ (rd.at fun o z=>up d o dS (kp d o dit z)) (up it _ (Ne.symm Sit) hit') ?_ ⟨?_,f1,f2,f3,f4,f5⟩⟩
  ·rw [zk (zJ z hS)];exact S6 _ _ (sm _ _ z)
  ·rw [List.take_add_one,hkv]
   exact VO (VN tS pr) ⟨T,p,rfl,by rw [zk (Ne.symm STn),zd],tS _ _ (sm _ _ hp)⟩
  ·rcases ho1 with z | ⟨a,oa,z1,z2,z3⟩
   ·exact .inl z
   ·have aS:a≠S:=by
     rcases own a z1 with z | z
     ·rw [z];exact Ne.symm STn
     ·rcases ho0 with ⟨y1,_⟩ | ⟨a',oa',y1,_,_,y4⟩
      ·rw [y1] at z;cases z
      ·rw [y1] at z
       rw [← ri z];exact y4
    exact .inr ⟨a,oa,z1,up a _ aS z2,z3,aS⟩
  ·rw [zk (Ne.symm Sit),zk (Ne.symm tn)];exact f0
end
end L2
namespace L2
open PySem PySem.Spec PyProof.Rows
abbrev Z2:RC:=fun vs H Q=>∃ r d kvs,vs=[.ref r]∧H r=some (kT r d)∧H d=some (.dT kvs)∧kvs.length≤1000∧∀ l ys H',Same H H'→H l=none→H' l=some (.lst ys)→Paired (Zp H') ys kvs→Q (.ref l) H'
theorem zbw {P:Program} {w:World} {H:Hp} {h:Heap} {r d:Addr} (k:HOk P w H h) (e:H r=some (kT r d)):h.IsItemsView r d:=(k r _ e).1
theorem zbx {H:Hp}:∀ {kvs:List (List Key × V)} {xs:List (List Key × Addr × Value)},Paired (fun (p:List Key × V) (q:List Key × Addr × Value)=>p.1=q.1∧H q.2.1=some (.tup (p.1.map kV))∧RelV p.2 q.2.2) kvs xs→∀ {i:Nat} {kv:List Key × V} {x:List Key × Addr × Value},kvs[i]?=some kv→xs[i]?=some x→H x.2.1=some (.tup (kv.1.map kV))∧RelV kv.2 x.2.2 :=
 fun {_ _} h {_ _ _} e1 e2=>(yp h e1 e2).2
section
variable {X:Cx}
theorem zcN {pins:List (Addr × Obj)} {σ:St} {H:Hp} {s:Shared} {d:Addr} {kvs:List (List Key × V)} (I:Inv X pins σ H s) (e:H d=some (.dT kvs)):∃ es ep,RawD s.heap d es ep∧es.size=kvs.length ∧
  ∀ (i:Nat) (en:DictEntry) (kv:List Key × V),es[i]?=some en→kvs[i]?=some kv→∃ p,en.key=.ref p∧H p=some (.tup (kv.1.map kV))∧RelV kv.2 en.val:=by
 obtain ⟨z,hd,xs,rel,o,es,ep,h1,h2,h3,h4,_⟩:=(show ObjOk X.prog X.w H s.heap d (.dT kvs) from I.hok d _ e)
 have l1:es.size=xs.length:=by rw [← Array.length_toList,h4,List.length_map]
 refine ⟨es,ep,⟨o,h1,h2,h3⟩,by rw [l1,← Paired.length rel],fun i en kv e1 e2=>?_⟩
 have e3:es.toList[i]?=some en:=by rw [Array.getElem?_toList];exact e1
 rw [h4,List.getElem?_map] at e3
 obtain ⟨x,hx,rfl⟩:=Option.map_eq_some_iff.mp e3
 obtain ⟨g1,g2⟩:=zbx rel e2 hx
 exact ⟨x.2.1,rfl,g1,g2⟩
theorem Wb {A:Around} {R:Result→Shared→Prop} {pins:List (Addr × Obj)} {σ:St} {H:Hp} {s:Shared} {S r d:Addr} {kvs:List (List Key × V)} {res:Value} {c:Nat} (hh:A.handled=none) (hS:H S=none) (hr:H r=some (kT r d)) (hd:H d=some (.dT kvs)) (hl:kvs.length≤1000)
  (I2:Inv X pins σ (upd H S (.lst [])) s) (T2:s.heap.get? S=some { cls:=.type "list",data:=.seq #[] c }) (hR:∀ s' H' ys,Inv X pins σ H' s'→Same H H'→H' S=some (.lst ys)→Paired (Zp H') ys kvs→R (.ok (.ret res)) s') :
  wpAny (model X.prog X.w) A.in1 (Builtin.List.listExtendWith (.ref S) (.ref r) res) (fun fin s'=>match fin with | .done f=>R (.ok f) s' | .again c'=>c'.quiet=true∧codeAny (model X.prog X.w) A c' R s') (fun e s'=>R (.error e) s') s:=by
 have Sr:r≠S:=zJ hr hS
 have Sd:d≠S:=zJ hd hS
 have SS:Same H (upd H S (.lst [])):=isV S hS
 obtain ⟨es,ep,rd,hes,hen0⟩:=zcN I2 (SS _ _ hd)
 have hen:∀ (i:Nat) (en:DictEntry) (kv:List Key × V),es[i]?=some en→kvs[i]?=some kv→∃ p,en.key=.ref p∧H p=some (.tup (kv.1.map kV))∧RelV kv.2 en.val:=fun i en kv e1 e2=>by
  obtain ⟨p,g1,g2,g3⟩:=hen0 i en kv e1 e2
  refine ⟨p,g1,?_,g3⟩
  by_cases hp:p=S
  ·rw [hp,zd] at g2;cases g2
  ·rwa [zk hp] at g2
 have vw:=zbw I2.hok (SS _ _ hr)
 unfold Builtin.List.listExtendWith
 refine wpAny_bind (wpAny_typeOf (T:="dict_items") vw.typeIs ?_)
 have c1:Builtin.List.listSameRef (.ref S) (.ref r)=false:=by simp [Builtin.List.listSameRef,Ne.symm Sr]
 have c2:(Value.type "dict_items" == Value.type "list")=false:=by decide
 have c3:(Value.type "dict_items" == Value.type "tuple")=false:=by decide
 simp only [c1,c2,c3,Bool.or_false,Bool.false_eq_true,if_false]
 refine wpAny_bind (VM vw rd ?_)
 have ni:(upd H S (.lst [])) s.heap.objs.size=none:=I2.hok.fresh (Nat.le_refl _)
 have fp:kL X pins (upd H S (.lst [])) s.heap.objs.size:=I2.fpOk (Nat.le_refl _) ni
 have Si:S≠s.heap.objs.size:=Nat.ne_of_lt (Heap.lt_size T2)
 have di:d≠s.heap.objs.size:=Nat.ne_of_lt rd.lt
 have I3:Inv X pins σ (upd H S (.lst [])) { s with heap:=s.heap.push { cls:=.type "dict_itemiterator",data:=.fields #[.none,.bool false,.ref d,.int 0 0,.int es.size 0,.int ep 0,.none,.none] } }:=I2.kept (t':=s.toks) fun b o e=>Heap.get?_push_of_some _ e
 have T3:=Heap.get?_push_of_some { cls:=.type "dict_itemiterator",data:=.fields #[.none,.bool false,.ref d,.int 0 0,.int es.size 0,.int ep 0,.none,.none] } T2
 have it3:ItA (s.heap.push { cls:=.type "dict_itemiterator",data:=.fields #[.none,.bool false,.ref d,.int 0 0,.int es.size 0,.int ep 0,.none,.none] }) s.heap.objs.size d 0 es.size ep .none false .none .none:=Heap.get?_push_size _ rfl
 have rd3:RawD (s.heap.push { cls:=.type "dict_itemiterator",data:=.fields #[.none,.bool false,.ref d,.int 0 0,.int es.size 0,.int ep 0,.none,.none] }) d es ep:=rd.at fun o e=>Heap.get?_push_of_some _ e
 have vw3:(s.heap.push { cls:=.type "dict_itemiterator",data:=.fields #[.none,.bool false,.ref d,.int 0 0,.int es.size 0,.int ep 0,.none,.none] }).IsItemsView r d:=let ⟨o,ho,x⟩:=vw;⟨o,Heap.get?_push_of_some _ ho,x⟩
 generalize hh3:s.heap.push { cls:=.type "dict_itemiterator",data:=.fields #[.none,.bool false,.ref d,.int 0 0,.int es.size 0,.int ep 0,.none,.none] }=h3 at *
 generalize s.heap.objs.size=it at *
 refine wpAny_bind (wpAny_holding (W.kdx_hint vw3.typeIs ?_))
 have fin:∀ (h4:Heap) (tk:Nat) (R:Result→Shared→Prop),(∀ s' H' ys,Inv X pins σ H' s'→Same H H'→H' S=some (.lst ys)→Paired (Zp H') ys kvs→R (.ok (.ret res)) s')→Inv X pins σ (upd H S (.lst [])) { s with heap:=h4,toks:=tk }→RawD h4 d es ep→ItA h4 it d 0 es.size ep .none false .none .none →
   codeAny (model X.prog X.w) A (.builtin "list.extend.loop" ⟨[.ref S,.ref it,res],[]⟩) R { s with heap:=h4,toks:=tk }:=fun h4 tk R hR I4 rd4 it4 =>
  zam (A:=A) (H:=H) (es:=es) (ep:=ep) hh hS hd Si di hl hes hen hR kvs.length 0 _ (upd H S (.lst [])) [] .none .none .none false (Nat.sub_zero _) (Nat.zero_le _) I4 SS zd .nil rd4 it4 (.inl ⟨rfl,rfl⟩) fp
 refine wpAny_ite_split (fun _=>?_) (fun _=>wpAny_pure ⟨plainId_quiet PySem.F.plain_extend_loop _,fin h3 s.toks _ hR I3 rd3 it3⟩)
 refine wpAny_bind (wpAny_rule ?_);refine wpAny_bind ?_
 show wpAny _ _ (updateSeq S (·.push .none) >>= fun _=>updateSeq S (·.pop)) _ _ _;refine wpAny_bind (wpAny_updateSeq T3 rfl ?_)
 have T4:=Heap.get?_update_self (Obj.mapSeq (·.push Value.none)) T3 rfl
 refine wpAny_updateSeq (hz:=by seq_fits) T4 rfl ?_
 have I4:=I3.lset (f:=fun xs=>xs.push Value.none) (its:=[]) (its':=[Value.none]) (ys:=[V.non]) (t':=s.toks) zd T3 rfl (.cons rfl .nil) (by show 1≤sizeLine;decide)
 have I5:=I4.lset (f:=fun xs=>xs.pop) (its:=[Value.none]) (its':=[]) (ys:=[]) (t':=s.toks) zd T4 rfl .nil (Nat.zero_le _)
 rw [Yi,Yi] at I5
 have oth:∀ b o,b≠S→h3.get? b=some o→((h3.update S (Obj.mapSeq (·.push Value.none))).update S (Obj.mapSeq (·.pop))).get? b=some o:=fun b o hb e=>(Heap.get?_update_other _ _ (Ne.symm hb)).trans ((Heap.get?_update_other _ _ (Ne.symm hb)).trans e)
 exact wpAny_pure ⟨plainId_quiet PySem.F.plain_extend_loop _,fin _ s.toks _ hR I5 (rd3.at fun o e=>oth d o Sd e) (oth it _ (Ne.symm Si) it3)⟩
theorem kA (hc:X.calm=true):ky X (.type "list") Z2:=by
 intro pins s σ H vs us Q I r0 h
 obtain ⟨r,d,kvs,rfl,hr,hd,hl,q⟩:=h
 obtain ⟨u,rfl,ru⟩:=ZX r0
 cases ru
 have hh:X.A.handled=none:=I.ok.hd hc
 refine callType_codes (Q₁:=fun obj s₁=>obj=.ref s.heap.objs.size∧s₁={ s with heap:=s.heap.push { cls:=.type "list",data:=.seq #[] } }) PySem.F.called_list (PySem.F.typeCall_list_1 _) PySem.F.entry_list_init (code_list_new _ ⟨rfl,rfl⟩) ?_;rintro obj s₁ ⟨rfl,rfl⟩
 have hS:H s.heap.objs.size=none:=I.hok.fresh (Nat.le_refl _)
 have I1:Inv X pins σ (upd H s.heap.objs.size (.lst [])) { s with heap:=s.heap.push { cls:=.type "list",data:=.seq #[] } }:=I.lnew (its:=[]) (t':=s.toks) .nil (Nat.zero_le _)
 have T0:(s.heap.push { cls:=.type "list",data:=.seq #[] }).get? s.heap.objs.size=some { cls:=.type "list",data:=.seq #[] }:=Heap.get?_push_size _ rfl
 generalize hT:s.heap.objs.size=S at *
 refine ⟨⟨_,T0,rfl⟩,PySem.F.args_list_init_2 _ _,?_⟩
 show wpAny _ _ (do let old ← Builtin.List.listItems (.ref S);Builtin.List.listUpdate (.ref S) (fun _=>#[]);letGo old.toList.reverse;Builtin.List.listExtendWith (.ref S) (.ref r) .none) _ _ _
 refine wpAny_bind ?_;unfold Builtin.List.listItems;refine wpAny_bind (wpAny_seqItems T0 rfl (wpAny_pure ?_))
 show wpAny _ _ (updateSeq S (fun _=>#[]) >>= fun _=>letGo (#[]:Array Value).toList.reverse >>= fun _=>Builtin.List.listExtendWith (.ref S) (.ref r) .none) _ _ _
 refine wpAny_bind (wpAny_updateSeq T0 rfl ?_)
 have I2:=I1.lset (f:=fun _=>(#[]:Array Value)) (its:=[]) (its':=[]) (ys:=[]) (t':=s.toks) zd T0 rfl .nil (Nat.zero_le _)
 rw [Yi] at I2
 have T2:=Heap.get?_update_self (Obj.mapSeq (fun _=>(#[]:Array Value))) T0 rfl
 refine wpAny_bind (wpAny_letGo ?_)
 generalize hh2:(s.heap.push { cls:=.type "list",data:=.seq #[] }).update S (Obj.mapSeq (fun _=>(#[]:Array Value)))=h2 at *
 exact Wb (A:=X.A.in1) (H:=H) hh hS hr hd hl I2 T2 fun s' H' ys I' sm hy pr=>⟨rfl,.ref S,H',I',rfl,q S ys H' sm hS hy pr⟩
end
end L2
namespace L2
open PySem PySem.Spec PyProof.Rows PySem.W
section
variable {X:Cx}
theorem JQ {A:Around} {E:Value→Shared→Prop} {R:List Value→Shared→Prop} {pins:List (Addr × Obj)} {σ:St} {H:Hp} {s:Shared} {r d:Addr} {kvs:List (List Key × V)} (hh:A.handled=none) (hr:H r=some (kT r d)) (hd:H d=some (.dT kvs)) (hl:kvs.length≤1000) (I:Inv X pins σ H s)
  (h:∀ s1 H' ys us,Inv X pins σ H' s1→Same H H'→Paired (Zp H') ys kvs→Vals ys us→R us s1):wpAny (model X.prog X.w) A (collect (.ref r)) R E s:=by
 have hS:H s.heap.objs.size=none:=I.hok.fresh (Nat.le_refl _)
 have I1:Inv X pins σ (upd H s.heap.objs.size (.lst [])) { s with heap:=s.heap.push { cls:=.type "list",data:=.seq ([]:List Value).toArray } }:=I.lnew (its:=[]) (t':=s.toks) .nil (Nat.zero_le _)
 have T1:(s.heap.push { cls:=.type "list",data:=.seq ([]:List Value).toArray }).get? s.heap.objs.size=some { cls:=.type "list",data:=.seq #[] }:=Heap.get?_push_size _ rfl
 unfold collect;refine wpAny_bind (wpAny_runValue (codeAny_builtin entry_proto_collect' ?_));rw [Around.under_plainId PySem.F.plain_proto_collect _]
 show wpAny _ A.in1 (newList [] >>= fun l=>again (.builtin "list.__iadd__" ⟨[l,.ref r],[]⟩)) _ _ s;refine wpAny_bind (wpAny_newObj_type ?_)
 refine wpAny_pure ⟨plainId_quiet PySem.F.plain_list_iadd _,codeAny_builtin entry_list_iadd' ?_⟩;rw [Around.under_plainId PySem.F.plain_list_iadd _]
 generalize s.heap.objs.size=S at *
 show wpAny _ A.in1 (Builtin.List.listExtendWith (.ref S) (.ref r) (.ref S)) _ _ _
 have key:=Wb (A:=A) (R:=fun (q:Result) (s':Shared)=>∃ H' ys,q=.ok (.ret (.ref S))∧Inv X pins σ H' s'∧Same H H'∧H' S=some (.lst ys)∧Paired (Zp H') ys kvs) (res:=.ref S) hh hS hr hd hl I1 T1 fun s' H' ys I' sm hy pr=>⟨H',ys,rfl,I',sm,hy,pr⟩
 have fin:∀ s':Shared,(∃ H' ys,Inv X pins σ H' s'∧Same H H'∧H' S=some (.lst ys)∧Paired (Zp H') ys kvs)→wpAny (model X.prog X.w) A (load S >>= fun o=>match o.data with | .seq xs _=>pure xs.toList | _=>unsupported "internal:collect") R E s':=fun s' ⟨H',ys,I',sm,hy,pr⟩=>by
  obtain ⟨z,its,n,rv,hl',e⟩:=I'.lstM hy
  refine wpAny_bind (wpAny_load e ?_)
  refine wpAny_pure ?_
  exact h s' H' ys its I' sm pr rv
 refine wpAny_mono key (fun f s' x=>?_) fun e s' x=>?_
 ·cases f with
  | done f =>
   obtain ⟨H',ys,e,x⟩:=x
   cases e
   exact fin s' ⟨H',ys,x⟩
  | again c₁ =>
   refine ⟨x.1,codeAny_mono x.2 fun q s₂ y=>?_⟩
   obtain ⟨H',ys,rfl,y⟩:=y
   exact fin s₂ ⟨H',ys,y⟩
 ·obtain ⟨_,_,e',_⟩:=x
  cases e'
end
section
variable {P:Program} {w:World} {A:Around} {E:Value→Shared→Prop} {s:Shared}
theorem zan {x y:Addr} {a b:Str × Int} {Q:Bool→Shared→Prop} (hu:A.units < cLine) (hx:PlAt s.heap (.ref x) a) (hy:PlAt s.heap (.ref y) b) (h:Q (z4 a b) s):wpAny (model P w) A (oneLt' false (.ref x) (.ref y)) Q E s:=by
 obtain ⟨p,o,t,u,n,e1,ho,hc,hd⟩:=hx
 obtain ⟨p2,o2,t2,u2,n2,e2,ho2,hc2,hd2⟩:=hy
 cases e1
 cases e2
 obtain ⟨c,dd,dat,sl⟩:=o
 obtain ⟨c2,dd2,dat2,sl2⟩:=o2
 simp only at hc hd hc2 hd2
 subst hc hd hc2 hd2
 have T1:s.TypeIs (.ref x) "tuple":=⟨_,ho,rfl⟩
 have T2:s.TypeIs (.ref y) "tuple":=⟨_,ho2,rfl⟩
 refine kat_one _ _ ?_
 show wpAny _ _ (richCompare .Lt (.ref x) (.ref y)) _ _ _
 refine wpAny_richCompare_same_room T1 T2 PySem.F.slot_tuple_lt ?_ hu
 exact call_meets PySem.F.slot_tuple_lt T1 PySem.F.entry_tuple_lt (PySem.F.args_tuple_lt_2 _ _) (YT x y a.1 b.1 a.2 b.2 t u t2 u2 n n2 dd dd2 sl sl2) ⟨ho,ho2,by simp,h⟩
theorem zao {h:Heap} {x:Addr} {a:Str × Int} (hx:PlAt h (.ref x) a):IsTupleKey (yT P w) h (zP a) x:=by
 obtain ⟨p,o,t,u,n,e1,ho,hc,hd⟩:=hx
 cases e1
 exact ⟨o,_,n,ho,hc,hd,ZG (ks:=zP a) (.cons ⟨t,rfl⟩ (.cons ⟨u,rfl⟩ .nil))⟩
def RvAt (h:Heap) (v:Value) (q:Row):Prop:=∃ a o p t n,v=.ref a∧h.get? a=some o∧o.cls=.type "tuple"∧o.data=.seq #[.ref p,.int q.2 t] n∧PlAt h (.ref p) q.1
theorem RvAt.keep {h h':Heap} {v:Value} {q:Row} (x:RvAt h v q) (k:∀ b o,h.get? b=some o→h'.get? b=some o):RvAt h' v q:=by
 obtain ⟨a,o,p,t,n,e,ho,hc,hd,hp⟩:=x
 exact ⟨a,o,p,t,n,e,k _ _ ho,hc,hd,hp.keep k⟩
theorem KC {x y:Value} {a b:Row} {Q:Bool→Shared→Prop} (hu:A.units < cLine) (hx:RvAt s.heap x a) (hy:RvAt s.heap y b) (h:Q (z4 a.1 b.1) s) (hn:a.1≠b.1):wpAny (model P w) A (keyLt' (tuples' false) x y) Q E s:=by
 obtain ⟨p,o,pp,t,n,rfl,ho,hc,hd,hp⟩:=hx
 obtain ⟨p2,o2,pp2,t2,n2,rfl,ho2,hc2,hd2,hp2⟩:=hy
 refine kat_lt ho hd ho2 hd2 (kat_cons (wpAny_eqBool_tuple (knd:=yT P w) hu (zao hp) (zao hp2) (kat_go (fun e=>?_) fun e=>kat_no ?_)))
 ·exact absurd (xD (of_decide_eq_true e)) hn
 ·exact zan hu hp hp2 h
theorem VP {vs:List Value} {qs:List Row} {Q:SortKind→Shared→Prop} (hl:vs.length=qs.length) (hv:∀ (i:Nat) (v:Value) (q:Row),vs[i]?=some v→qs[i]?=some q→RvAt s.heap v q) (h2:0 < vs.length) (h:Q (tuples' false) s) :
  wpAny (model P w) A (keyKind' vs.toArray) Q E s:=by
 have T:∀ (vs:List Value) (qs:List Row),vs.length=qs.length→(∀ (i:Nat) (v:Value) (q:Row),vs[i]?=some v→qs[i]?=some q→RvAt s.heap v q)→∃ fs,KatTups s.heap vs fs∧fs.length=vs.length∧∀ v∈fs,∃ p o,v=Value.ref p∧s.heap.get? p=some o∧o.cls=.type "tuple":=by
  intro vs
  induction vs with
  | nil=>exact fun qs _ _=>⟨[],trivial,rfl,fun _ z=>nomatch z⟩
  | cons v r ih =>
   intro qs hl hv
   match qs,hl with
   | q :: qr,hl =>
    obtain ⟨fs,k,kl,kf⟩:=ih qr (by simpa using hl) fun i v' q' e1 e2=>hv (i + 1) v' q' (by simpa using e1) (by simpa using e2)
    obtain ⟨a,o,p,t,n,rfl,ho,hc,hd,hp⟩:=hv 0 v q rfl rfl
    refine ⟨.ref p :: fs,KatTups.cons ho hc hd rfl k,by simp [kl],fun z hz=>?_⟩
    rcases List.mem_cons.mp hz with rfl | hz
    ·obtain ⟨p',o',_,_,_,e,g1,g2,_⟩:=hp
     cases e
     exact ⟨_,o',rfl,g1,g2⟩
    ·exact kf z hz
 obtain ⟨fs,k,kl,kf⟩:=T vs qs hl hv
 refine kat_kind (T:=.type "tuple") k (by lia) (fun v hv=>?_) (by decide) h
 obtain ⟨p,o,rfl,g1,g2⟩:=kf v hv
 exact g2 ▸ (W.Looks.ld g1).andThen .now
theorem WO {l:Addr} {κ:SortKind} {Q:Value→Shared→Prop} (G:List Value→(Nat→Nat→Bool)→Shared→Prop)
  (coll:∀ R:List Value→Shared→Prop,(∀ vs lt s1,G vs lt s1→R vs s1)→wpAny (model P w) A.in1 (collect (.ref l)) R E s)
  (h64:∀ vs lt s1,G vs lt s1→vs.length < 64∧SO lt vs.length)
  (hk:∀ vs lt s1,G vs lt s1→2≤vs.length→∀ (h:Heap) (Q:SortKind→Shared→Prop),(∀ b o,s1.heap.get? b=some o→h.get? b=some o)→Q κ { s1 with heap:=h }→wpAny (model P w) A.in1.in1 (keyKind' vs.toArray) Q (fun _ _=>False) { s1 with heap:=h })
  (hc:∀ vs lt s1,G vs lt s1→∀ (h:Heap) i j C,(∀ b o,s1.heap.get? b=some o→h.get? b=some o)→i < vs.length→j < vs.length→i≠j→C (lt i j) { s1 with heap:=h }→kas_ask P w A.in1.in1 κ vs i j C { s1 with heap:=h })
  (fin:∀ vs lt s1,G vs lt s1→∀ (h':Heap) (p:Array Nat) (c:Nat),(∀ b o,s1.heap.get? b=some o→h'.get? b=some o)→h'.get? s1.heap.objs.size=some (seqObj "list" (wY vs p).toArray c)→PP vs.length p→kS lt p vs.length→Q (.ref s1.heap.objs.size) { s1 with heap:=h' }) :
  wpAny (model P w) A (call (.builtin "sorted") [.ref l]) Q E s:=by
 refine Calls.call_function_entry kind_sorted plain_sorted entry_sorted (args_sorted1 _) ?_;unfold Builtin.«sorted»
 refine wpAny_bind (m:=checkCount "sorted" 1 1 _) (wpAny_pure ?_);refine wpAny_bind (coll _ fun vs lt s1 g=>?_)
 obtain ⟨l64,S⟩:=h64 vs lt s1 g
 refine wpAny_bind (wpAny_newList ?_ (by rw [sizeLine_eq];lia))
 have hoL:(s1.heap.push (seqObj "list" vs.toArray 0)).get? s1.heap.objs.size=some (seqObj "list" vs.toArray 0):=Heap.get?_push_size _ rfl
 have kept:∀ h',Kp s1.heap.objs.size (s1.heap.push (seqObj "list" vs.toArray 0)) h'→∀ b o,s1.heap.get? b=some o→h'.get? b=some o:=fun h' k b o e=>k b o (Nat.ne_of_lt (Heap.lt_size e)) (Heap.get?_push_of_some _ e)
 refine wpAny_bind (wpAny_holding (wpAny_call_entry slot_list_sort ⟨_,hoL,rfl⟩ entry_list_sort (YS (s:={ s1 with heap:=s1.heap.push (seqObj "list" vs.toArray 0) }) hoL l64 (κ:=κ) (lt:=lt) (fun h2 h' Q' k q=>?_) (fun h' i j C k hi hj hij q=>?_) S fun h' p c k ho hp hr=>?_) (args_list_sort _)))
 ·exact hk vs lt s1 g h2 h' Q' (kept h' k) q
 ·exact hc vs lt s1 g h' i j C (kept h' k) hi hj hij q
 ·exact ⟨_,rfl,wpAny_pure ⟨_,rfl,fin vs lt s1 g h' p c (kept h' k) ho hp hr⟩⟩
end
end L2
namespace L2
open PySem PySem.Spec PyProof.Rows PySem.W
def d0:Row:=(("",0),0)
theorem JR (rows:List Row):∃ its:List Row,dOf rows=its.map (fun q=>(zP q.1,V.int q.2))∧(its.map (·.1)).Nodup∧∀ p w,(p,w)∈its↔zu rows p=some w:=by
 have h:=vX rows
 have:∀ (kvs:List (List Key × V)),(∀ kv∈kvs,∃ (p:Pl) (w:Int),kv=(zP p,.int w))→∃ its:List Row,kvs=its.map (fun q=>(zP q.1,V.int q.2)):=fun kvs=>by
  induction kvs with
  | nil=>exact fun _=>⟨[],rfl⟩
  | cons kv r ih =>
   intro hk
   obtain ⟨qs,e⟩:=ih fun z hz=>hk z (List.mem_cons_of_mem _ hz)
   obtain ⟨p,w,e2⟩:=hk kv List.mem_cons_self
   exact ⟨(p,w) :: qs,by rw [List.map_cons,← e,e2]⟩
 obtain ⟨its,e⟩:=this _ h.2
 refine ⟨its,e,?_,fun p w=>?_⟩
 ·have:=h.1
  rw [e,List.map_map] at this
  refine wP (f:=zP) ?_
  rw [List.map_map]
  exact this
 ·have m:=mem_dOf (rows:=rows) (kv:=(zP p,V.int w))
  constructor
  ·intro hm
   obtain ⟨p',w',e1,e2⟩:=m.mp (by rw [e];exact List.mem_map.mpr ⟨_,hm,rfl⟩)
   have e3:=xD (Prod.mk.inj e1).1
   have e4:=V.int.inj (Prod.mk.inj e1).2
   rw [e3,e4];exact e2
  ·intro hw
   have hm:=m.mpr ⟨p,w,rfl,hw⟩
   rw [e] at hm
   obtain ⟨q,hq,e1⟩:=List.mem_map.mp hm
   have e3:=xD (Prod.mk.inj e1).1
   have e4:=V.int.inj (Prod.mk.inj e1).2
   rw [← e3,← e4];exact hq
theorem YZ {α:Type} (l:List α) (d:α):(List.range l.length).map (fun i=>l.getD i d)=l:=by
 apply List.ext_getElem?
 intro i
 rw [List.getElem?_map]
 by_cases hi:i < l.length
 ·rw [List.getElem?_range hi,List.getElem?_eq_getElem hi]
  simp [List.getD_eq_getElem?_getD,List.getElem?_eq_getElem hi]
 ·rw [List.getElem?_eq_none (by simpa using hi),List.getElem?_eq_none (by lia)]
  rfl
theorem PP.list {n:Nat} {p:Array Nat} (h:PP n p):p.toList.Perm (List.range n):=by
 have:=Array.perm_iff_toList_perm.mp h
 simpa using this
theorem PP.lt {n:Nat} {p:Array Nat} (h:PP n p):∀ i∈p.toList,i < n:=fun i hi=>by
 have:=h.list.mem_iff.mp hi
 simpa using this
theorem Y0 {α:Type} {F:α→α→Bool} {l:List α} {d:α} {n:Nat} {p:Array Nat} (hp:PP n p) (hr:kS (fun i j=>F (l.getD i d) (l.getD j d)) p n):(p.toList.map fun i=>l.getD i d).Pairwise fun a b=>F a b=true:=by
 rw [List.pairwise_map,List.pairwise_iff_getElem]
 intro i j hi hj hij
 rw [Array.length_toList] at hi hj
 have g1:=jO hi
 have g2:=jO hj
 have sz:=hp.size
 have r:=hr i j hij (by lia)
 have x1:p.toList[i]=gt p i:=by
  rw [Array.getElem?_eq_getElem hi] at g1
  simpa using g1
 have x2:p.toList[j]=gt p j:=by
  rw [Array.getElem?_eq_getElem hj] at g2
  simpa using g2
 rw [x1,x2];exact r
theorem wZ {α β:Type} {F:α→β→Prop} {l₁:List α} {l₂:List β} (h:Paired F l₁ l₂) (a:α) (b:β):∀ {is:List Nat},(∀ i∈is,i < l₁.length)→Paired F (is.map fun i=>l₁.getD i a) (is.map fun i=>l₂.getD i b)
 | [],_=>.nil
 | i :: r,hi=>by
  have l:=Paired.length h
  have h1:=hi i List.mem_cons_self
  refine .cons ?_ (wZ h a b fun j hj=>hi j (List.mem_cons_of_mem _ hj))
  show F (l₁.getD i a) (l₂.getD i b)
  have e1:=List.getElem?_eq_getElem h1
  have e2:l₂[i]?=some l₂[i]:=List.getElem?_eq_getElem (by lia)
  rw [List.getD_eq_getElem?_getD,List.getD_eq_getElem?_getD,e1,e2]
  exact yp h e1 e2
abbrev KD:RC:=fun vs H Q=>∃ r d rows,vs=[.ref r]∧H r=some (kT r d)∧H d=some (.dT (dOf rows))∧(dOf rows).length < 64 ∧
 ∀ l ys srt H',Same H H'→H l=none→H' l=some (.lst ys)→Paired (PrAt H') ys srt→Rising srt→(∀ p w,(p,w)∈srt↔zu rows p=some w)→Q (.ref l) H'
theorem KG {H:Hp}:∀ {ys:List V} {its:List Row},Paired (Zp H) ys (its.map fun q=>(zP q.1,V.int q.2))→Paired (PrAt H) ys its
 | _,[],h=>by cases h;exact .nil
 | _,q :: r,h=>by
  rw [List.map_cons] at h
  cases h with
  | cons a t=>exact .cons a (KG t)
section
variable {X:Cx}
theorem zcg {pins:List (Addr × Obj)} {σ:St} {H:Hp} {s:Shared} {v:V} {u:Value} {q:Row} (I:Inv X pins σ H s) (h:PrAt H v q) (r:RelV v u):RvAt s.heap u q:=by
 obtain ⟨a,p,rfl,h1,h2⟩:=h
 cases r
 obtain ⟨_,its,rv,o,o1,o2,n,o3⟩:=(show ObjOk X.prog X.w H s.heap a (.tup [.ref p,.int q.2]) from I.hok a _ h1)
 cases rv with
 | cons r1 rr =>
  cases rr with
  | cons r2 rn =>
   cases rn
   cases r1
   obtain ⟨t,rfl⟩:=r2
   exact ⟨a,o,p,t,n,rfl,o1,o2,o3,VF I h2⟩
theorem Zq (hc:X.calm=true) (hu:X.A.units + 3 < cLine):ky X (.builtin "sorted") KD:=by
 intro pins s σ H vs us Q I r0 h
 obtain ⟨r,d,rows,rfl,hr,hd,h64,q⟩:=h
 obtain ⟨u,rfl,ru⟩:=ZX r0
 cases ru
 have hh:X.A.handled=none:=I.ok.hd hc
 obtain ⟨its,ei,nd,mi⟩:=JR rows
 have li:(dOf rows).length=its.length:=by rw [ei,List.length_map]
 have so:=qU nd
 have vat:∀ {s1:Shared} {H':Hp} {ys:List V} {vs:List Value},Inv X pins σ H' s1→Paired (PrAt H') ys its→Vals ys vs→∀ (i:Nat) (q:Row),its[i]?=some q→∃ v,vs[i]?=some v∧RvAt s1.heap v q:=fun {s1 H' ys vs} I' pr rv i q hq=>by
  have hi:=(List.getElem?_eq_some_iff.mp hq).1
  have l1:=Paired.length pr
  obtain ⟨y,hy⟩:∃ y,ys[i]?=some y:=⟨_,List.getElem?_eq_getElem (by lia)⟩
  obtain ⟨u,hu',ru⟩:=rv.get hy
  exact ⟨u,hu',zcg I' (yp pr hy hq) ru⟩
 refine WO (κ:=tuples' false) (fun vs lt s1=>∃ H' ys,Inv X pins σ H' s1∧Same H H'∧Paired (PrAt H') ys its∧Vals ys vs∧lt=fun i j=>z4 ((its.map (·.1)).getD i (("",0):Pl)) ((its.map (·.1)).getD j (("",0):Pl)))
  (fun R hR=>JQ (A:=X.A.in1) hh hr hd (by lia) I fun s1 H' ys us I' sm pr rv=>hR us _ s1 ⟨H',ys,I',sm,KG (by rw [← ei];exact pr),rv,rfl⟩) ?_ ?_ ?_ ?_
 ·rintro vs lt s1 ⟨H',ys,I',sm,pr,rv,rfl⟩
  have l1:=Paired.length pr
  have l2:=rv.length
  refine ⟨by lia,?_⟩
  rw [show vs.length=(its.map (·.1)).length by rw [List.length_map];lia]
  exact so
 ·rintro vs lt s1 ⟨H',ys,I',sm,pr,rv,rfl⟩ h2 h Q' k q'
  have l1:=Paired.length pr
  have l2:=rv.length
  refine VP (s:={ s1 with heap:=h }) (qs:=its) (by lia) (fun i v q hv hq=>?_) (by lia) q'
  obtain ⟨v',hv',rr⟩:=vat I' pr rv i q hq
  rw [hv] at hv'
  cases hv'
  exact rr.keep k
 ·rintro vs lt s1 ⟨H',ys,I',sm,pr,rv,rfl⟩ h i j C k hi hj hij q'
  have l1:=Paired.length pr
  have l2:=rv.length
  have e1:its[i]?=some its[i]:=List.getElem?_eq_getElem (by lia)
  have e2:its[j]?=some its[j]:=List.getElem?_eq_getElem (by lia)
  obtain ⟨v1,g1,r1⟩:=vat I' pr rv i _ e1
  obtain ⟨v2,g2,r2⟩:=vat I' pr rv j _ e2
  have n1:(its.map (·.1)).getD i (("",0):Pl)=its[i].1:=by rw [List.getD_eq_getElem?_getD,List.getElem?_map,e1];rfl
  have n2:(its.map (·.1)).getD j (("",0):Pl)=its[j].1:=by rw [List.getD_eq_getElem?_getD,List.getElem?_map,e2];rfl
  have m1:vs.getD i Value.none=v1:=by rw [List.getD_eq_getElem?_getD,g1];rfl
  have m2:vs.getD j Value.none=v2:=by rw [List.getD_eq_getElem?_getD,g2];rfl
  simp only [n1,n2] at q'
  have key:=KC (P:=X.prog) (w:=X.w) (A:=X.A.in1.in1) (E:=fun _ _=>False) (s:={ s1 with heap:=h }) (Q:=C) (by have e:X.A.in1.in1.units=X.A.units + 2:=rfl;lia) (r1.keep k) (r2.keep k) q' fun z=>hij (by
   have e3:(its.map (·.1))[i]?=some its[i].1:=by rw [List.getElem?_map,e1];rfl
   have e4:(its.map (·.1))[j]?=some its[j].1:=by rw [List.getElem?_map,e2];rfl
   rw [z] at e3
   exact (List.getElem?_inj (by rw [List.length_map];lia) nd).mp (e3.trans e4.symm))
  rw [← m1,← m2] at key
  exact key
 ·rintro vs lt s1 ⟨H',ys,I',sm,pr,rv,rfl⟩ h' p c k hD hp hr
  have l1:=Paired.length pr
  have l2:=rv.length
  have hp':PP its.length p:=by rw [show its.length=vs.length by lia];exact hp
  have fr:H' s1.heap.objs.size=none:=I'.hok.fresh (Nat.le_refl _)
  have sz:=hp'.size
  have pk:=wZ pr V.non d0 (is:=p.toList) fun i hi=>by have:=hp'.lt i hi;lia
  have vk:Vals (p.toList.map fun i=>ys.getD i V.non) (wY vs p):=wZ rv V.non Value.none (is:=p.toList) fun i hi=>by have:=hp'.lt i hi;lia
  have I2:Inv X pins σ (upd H' s1.heap.objs.size (.lst (p.toList.map fun i=>ys.getD i V.non))) { s1 with heap:=h' }:=I'.laid (a:=s1.heap.objs.size) (o:=.lst (p.toList.map fun i=>ys.getD i V.non)) (t':=s1.toks) k (Nat.le_refl _)
   ⟨by rw [List.length_map,Array.length_toList];exact Nat.le_trans (by lia:_≤64) (by decide),wY vs p,c,vk,hD⟩
  have S2:Same H' (upd H' s1.heap.objs.size (.lst (p.toList.map fun i=>ys.getD i V.non))):=isV _ fr
  have hn:H s1.heap.objs.size=none:=by
   cases e:H s1.heap.objs.size with
   | none=>rfl
   | some o=>rw [sm _ _ e] at fr;cases fr
  have mono:∀ {us:List V} {ws:List Row},Paired (PrAt H') us ws→Paired (PrAt (upd H' s1.heap.objs.size (.lst (p.toList.map fun i=>ys.getD i V.non)))) us ws:=fun {us ws} h=>by
   induction h with
   | nil=>exact .nil
   | cons a _ ih =>
    obtain ⟨r,p,e,h1,h2⟩:=a
    exact .cons ⟨r,p,e,S2 _ _ h1,S2 _ _ h2⟩ ih
  refine ⟨.ref s1.heap.objs.size,_,I2,rfl,q _ _ (p.toList.map fun i=>its.getD i d0) _ (sm.trans S2) hn zd (mono pk) ?_ fun pl wv=>?_⟩
  ·have hr':kS (fun i j=>z4 ((its.map (·.1)).getD i (("",0):Pl)) ((its.map (·.1)).getD j (("",0):Pl))) p its.length:=by rw [show its.length=vs.length by lia];exact hr
   have pw:=Y0 (F:=z4) hp' hr'
   have eq:(p.toList.map fun i=>its.getD i d0).map (·.1)=p.toList.map fun i=>(its.map (·.1)).getD i (("",0):Pl):=by
    rw [List.map_map]
    refine List.map_congr_left fun i hi=>?_
    have hi:=hp'.lt i hi
    simp [List.getD_eq_getElem?_getD,List.getElem?_map,List.getElem?_eq_getElem hi]
   rw [← eq,List.pairwise_map] at pw
   exact pw
  ·have pm:(p.toList.map fun i=>its.getD i d0).Perm its:=by
    refine (hp'.list.map _).trans ?_
    rw [YZ]
   rw [pm.mem_iff]
   exact mi pl wv
end
end L2
namespace L2
open PySem PySem.Spec PyProof.Rows
def zap (lo c:Int) (n:Nat):It:=⟨fun i _=>i < n,fun i H x H'=>H'=H∧x=.int (lo + i * c),fun i _=>n≤i⟩
theorem VQ {P:Program} {w:World} {K:W.Frag} {tg:Expr} (it:Addr) (lo c:Int) (n:Nat):Qa P w K tg (zap lo c n) [it] it (fun i h=>IsRangeIter h it (lo + (i:Nat) * c) ((n:Int) - (i:Nat)) c) where
 mem:=by simp
 obj:=fun i h st b hb=>by
  have e:b=it:=by simpa using hb
  subst e
  refine ⟨_,st,fun v z=>?_⟩
  have z':Data.fields _=Data.cell v:=z
  cases z'
 keep:=fun i h h' st k=>k it (by simp) _ st
 item:=by
  intro X hP hw hK hc i pins s σ H E I hf st hg;subst hP hw hK
  obtain ⟨f0,f1,f2,f3,f4,f5⟩:=hf it (by simp)
  refine (Walks.range (prog:=X.prog) (w:=X.w) (I.ok.hd hc) it lo c n).item i s _ _ hg st fun v h' tk hv st' kk=>?_
  obtain ⟨t,rfl⟩:=hv
  have I1:Inv X pins σ H { s with heap:=h',toks:=tk }:=I.turned (fun b o hb e=>kk b o (by simpa using hb) e) f0 f1 f3 f4 f5
  exact ⟨_,rfl,Kg (s:={ s with heap:=h',toks:=tk }) (n:="range_iterator") st' rfl rfl (by decide) ⟨.int (lo + i * c),H,I1,⟨t,rfl⟩,⟨rfl,rfl⟩,st',fun b hb=>(hf b hb).1⟩⟩
 done:=by
  intro X hP hw hK hc i pins s σ H E I hf st hg;subst hP hw hK
  obtain ⟨f0,f1,f2,f3,f4,f5⟩:=hf it (by simp)
  exact wpAny_pyNext_range_end (I.ok.hd hc) st (by have:n≤i:=hg;lia) fun h' eb=>⟨rfl,I.turned (t':=s.toks) (fun b o hb e=>eb b o hb e) f0 f1 f3 f4 f5⟩
 self:=fun _ _ _ _ _ st h=>wpAny_pyIter_rangeiter st h
def WP (i j c:Int):Nat:=if i < j then ((j - i - 1) / c + 1).toNat else 0
def VR (ta:TA):TI:=fun σ H R=>ta σ H fun vs H1=>∃ i j c:Int,vs=[.int i,.int j,.int c]∧(0≤i∧i < 1073741824∧0≤j∧j < 1073741824∧0 < c∧c < 1073741824)∧R (zap i c (WP i j c)) H1
section
variable {X:Cx} {tg:Expr}
theorem Qr {a b c:Expr} {ta:TA} {p pos:Pos} (hg:Gl X "range") (hm:X.mg "range"=none) (ha:PA X [a,b,c] ta) (hs:starEach [a,b,c] X.env=[(false,eval a X.env),(false,eval b X.env),(false,eval c X.env)]:=by rfl) (hs2:starEach [b,c] X.env=[(false,eval b X.env),(false,eval c X.env)]:=by rfl) :
  PI X tg (.Call (.Name "range" p) [a,b,c] [] pos) (VR ta):=by
 intro pins s σ H R I h
 refine Call_ (Yt I hg hm boot_range (PyProof.Rows.callWith_type1 (thn (ha pos pins s σ H _ I h) fun us s1 ⟨vs,H1,I1,r1,q1⟩=>?_) (by rw [hs,hs2]) (by rw [hs2];rfl)))
 obtain ⟨i,j,c,e,⟨q1,q2,q3,q4,q5,q6⟩,q⟩:=q1
 subst e
 cases r1 with
 | cons r rr =>
  cases rr with
  | cons r' rr =>
   cases rr with
   | cons r'' rr =>
    cases rr
    obtain ⟨t,rfl⟩:=r
    obtain ⟨t',rfl⟩:=r'
    obtain ⟨t'',rfl⟩:=r''
    refine call_range_3 (by lia) ?_ (.inl (PyProof.noPylong_small (by lia)))
    have hz:Builtin.Range.rangeSize i j c=(WP i j c:Int):=by
     unfold Builtin.Range.rangeSize WP
     rw [if_pos q5]
     split
     ·rename_i h
      have:=Int.ediv_nonneg (a:=j - i - 1) (b:=c) (by lia) (by lia)
      lia
     ·rfl
    have hb:(WP i j c:Int)≤1073741824∧(WP i j c:Int) * c≤2147483648:=by
     unfold WP
     split
     ·rename_i h
      have h1:=Int.ediv_nonneg (a:=j - i - 1) (b:=c) (by lia) (by lia)
      have h2:=Int.ediv_le_self (a:=j - i - 1) c (by lia)
      have h3:=Int.ediv_mul_le (j - i - 1) (b:=c) (by lia)
      rw [Int.toNat_of_nonneg (by lia),Int.add_mul]
      lia
     ·simp
    generalize WP i j c=n at *
    have sm:Builtin.Range.small i j c=true:=by
     unfold Builtin.Range.small
     rw [hz]
     simp only [Builtin.Range.rangeFitsLong,Bool.and_eq_true,Bool.or_eq_true,decide_eq_true_eq,beq_iff_eq,show c > 0 from q5,if_true]
     lia
    refine wpAny_pyIter_range (IsRange.new ..) sm ?_
    rw [hz]
    have I2:Inv X pins σ H1 { s1 with heap:=s1.heap.push { cls:=.type "range",data:=.fields #[.int i t,.int j t',.int c t''] },toks:=s1.toks }:=I1.kept fun b o e=>Heap.get?_push_of_some _ e
    refine ⟨(s1.heap.push { cls:=.type "range",data:=.fields #[.int i t,.int j t',.int c t''] }).objs.size,[(s1.heap.push { cls:=.type "range",data:=.fields #[.int i t,.int j t',.int c t''] }).objs.size],_,_,H1,rfl,I2.kept (t':=s1.toks) fun b o e=>Heap.get?_push_of_some _ e,VQ _ i c n,?_,fun b hb=>?_,q⟩
    ·show IsRangeIter _ _ (i + ((0:Nat):Int) * c) ((n:Int) - ((0:Nat):Int)) c
     rw [show i + ((0:Nat):Int) * c=i by simp,show (n:Int) - ((0:Nat):Int)=n by simp]
     exact Heap.get?_push_size _ rfl
    ·have e:b=(s1.heap.push { cls:=.type "range",data:=.fields #[.int i t,.int j t',.int c t''] }).objs.size:=by simpa using hb
     subst e
     exact I2.fpOk (Nat.le_refl _) (I2.hok.fresh (Nat.le_refl _))
end
end L2
namespace L2
open PySem
structure StOk (n:Nat) (s:Sta):Prop where
 so:yL s.sl
 wo:∀ r∈s.wo,inW r.2=true
 l1:s.sl.length≤n
 l2:s.wo.length≤n
 l3:s.sa.length≤n
theorem StOk.mono {n m:Nat} {s:Sta} (h:StOk n s) (l:n≤m):StOk m s:=⟨h.so,h.wo,Nat.le_trans h.l1 l,Nat.le_trans h.l2 l,Nat.le_trans h.l3 l⟩
theorem qx {kvs:List (Key × V)} (h:yL kvs) (k:Key) {i:Int} (hi:inW i=true):yL (yD kvs k (.int i)):=fun k' v e=>by
 rw [YC] at e
 by_cases c:k'=k
 ·rw [if_pos c] at e
  exact ⟨i,(Option.some.inj e).symm,hi⟩
 ·rw [if_neg c] at e
  exact h k' v e
theorem qy {P:Row→Prop} {p:Pl} {w:Int}:∀ {l:List Row},(∀ r∈l,P r)→zu l p=some w→P (p,w)
 | [],_,h=>by cases h
 | r :: t,hp,h=>by
  rw [zu] at h
  cases e:zu t p with
  | some w' =>
   rw [e] at h
   have:w'=w:=by simpa using h
   subst this
   exact qy (fun r hr=>hp r (List.mem_cons_of_mem _ hr)) e
  | none =>
   rw [e] at h
   by_cases c:r.1=p
   ·rw [if_pos c] at h
    have:r.2=w:=by simpa using h
    rw [← c,← this];exact hp r List.mem_cons_self
   ·rw [if_neg c] at h;cases h
theorem VS {l:List Row} (h:∀ r∈l,inW r.2=true) (p:Pl):inW ((zu l p).getD 0)=true:=by
 cases e:zu l p with
 | none=>rfl
 | some w=>exact qy (P:=fun r=>inW r.2=true) h e
theorem zby {n:Nat} {s:Sta} (h:StOk n s) (x:Str) (p:Pl):StOk (n + 1) { s with sl:=yD s.sl (.inr x) (.int ((zu s.wo p).getD 0)) } :=
 ⟨qx h.so _ (VS h.wo p),h.wo,Nat.le_trans (xB _ _ _) (Nat.succ_le_succ h.l1),Nat.le_succ_of_le h.l2,Nat.le_succ_of_le h.l3⟩
theorem zbz {n:Nat} {s:Sta} (h:StOk n s) (p:Pl) {w:Int} (hw:inW w=true):StOk (n + 1) { s with wo:=s.wo ++ [(p,w)] } :=
 ⟨h.so,fun r hr=>by
  rcases List.mem_append.mp hr with hr | hr
  ·exact h.wo r hr
  ·rw [List.mem_singleton.mp hr];exact hw,Nat.le_succ_of_le h.l1,by show (s.wo ++ [(p,w)]).length≤n + 1;rw [List.length_append];exact Nat.succ_le_succ h.l2,Nat.le_succ_of_le h.l3⟩
theorem zcO {n:Nat} {s:Sta} (h:StOk n s) (x:Str) {w:Int} (hw:inW w=true):StOk (n + 1) { s with sl:=yD s.sl (.inr x) (.int w) } :=
 ⟨qx h.so _ hw,h.wo,Nat.le_trans (xB _ _ _) (Nat.succ_le_succ h.l1),Nat.le_succ_of_le h.l2,Nat.le_succ_of_le h.l3⟩
theorem zcP {n:Nat} {s:Sta} (h:StOk n s) (w:Int):StOk (n + 1) { s with sa:=s.sa ++ [w] } :=
 ⟨h.so,h.wo,Nat.le_succ_of_le h.l1,Nat.le_succ_of_le h.l2,by show (s.sa ++ [w]).length≤n + 1;rw [List.length_append];exact Nat.succ_le_succ h.l3⟩
mutual
theorem zaq:∀ (r:Rw) {n:Nat} {s s':Sta},StOk n s→xQ r→goR r s=.go s'→StOk (n + r.cnt) s'
 | .take sh e sl,n,s,s',h,k,g=>by
  unfold goR at g
  unfold xQ at k
  split at g
  ·cases g;exact zby h _ _
  ·cases g
 | .give sh e f,n,s,s',h,k,g=>by
  unfold goR at g
  unfold xQ at k
  split at g
  ·split at g
   ·rename_i w hw
    cases g
    exact zbz h _ (WN h.so k.2.2.1 hw)
   ·cases g
  ·cases g
 | .lt sl e,n,s,s',h,k,g=>by
  unfold goR at g
  unfold xQ at k
  split at g
  ·rename_i w hw
   cases g
   exact zcO h _ (WN h.so k.2.1 hw)
  ·cases g
 | .say e,n,s,s',h,k,g=>by
  unfold goR at g
  split at g
  ·cases g;exact zcP h _
  ·cases g
 | .off e,n,s,s',h,k,g=>by
  unfold goR at g
  split at g
  ·split at g
   ·cases g;exact h.mono (Nat.le_add_right _ _)
   ·cases g
  ·cases g
 | .iff e a b,n,s,s',h,k,g=>by
  unfold goR at g
  unfold xQ at k
  have c:(Rw.iff e a b).cnt=max a.cnt b.cnt + 1:=by rw [Rw.cnt]
  rw [c]
  split at g
  ·split at g
   ·exact (Yp b h k.2.2 g).mono (by lia)
   ·exact (Yp a h k.2.1 g).mono (by lia)
  ·cases g
theorem Yp:∀ (r:Rws) {n:Nat} {s s':Sta},StOk n s→yX r→yE r s=.go s'→StOk (n + r.cnt) s'
 | .nil,n,s,s',h,k,g=>by
  unfold yE at g
  cases g
  exact h.mono (Nat.le_add_right _ _)
 | .cons r rs,n,s,s',h,k,g=>by
  unfold yE at g
  unfold yX at k
  have c:(Rws.cons r rs).cnt=r.cnt + rs.cnt:=by rw [Rws.cnt]
  rw [c]
  split at g
  ·rename_i s1 e1
   exact (Yp rs (zaq r h k.1 e1) k.2 g).mono (by lia)
  ·rename_i x hx
   exact absurd g (hx s')
end
mutual
def JS (P:Pl→Prop):Rw→Prop
 | .give sh e _=>∀ kvs n,rk kvs e=.ok n→P (sh,n)
 | .iff _ a b=>zar P a∧zar P b
 | _=>True
def zar (P:Pl→Prop):Rws→Prop
 | .nil=>True
 | .cons r rs=>JS P r∧zar P rs
end
inductive Oc where
 | done (sa:List Int)
 | off (why:Str)
def Y1:Er→Str
 | .great=>"great"
 | _=>"nought"
def vY (rws:Rws) (tab:List Row) (oc:Oc) (out:List Row):Prop:=match yE rws ⟨[],tab,[]⟩ with
 | .go s=>oc=.done s.sa∧vC s.wo out
 | .off=>oc=.off "told"∧out=tab
 | .er e=>oc=.off (Y1 e)∧out=tab
inductive zcQ:List Rws→List Row→List Oc→List Row→Prop
 | nil {tab:List Row}:zcQ [] tab [] tab
 | cons {d:Rws} {ds:List Rws} {tab mid out:List Row} {oc:Oc} {ocs:List Oc}:vY d tab oc mid→zcQ ds mid ocs out→zcQ (d :: ds) tab (oc :: ocs) out
theorem zbA {rows its out:List Row} (nd:(its.map (·.1)).Nodup) (hi:∀ p w,(p,w)∈its↔zu rows p=some w) (t:vC its out):vC rows out:=by
 refine ⟨t.1,fun p w=>(t.2 p w).trans ?_⟩
 rw [qu nd,hi]
def Z3:V→PyData
 | .int i=>.int i
 | .str x=>.str x
 | _=>.none
def plV (v:V):Prop:=(∃ i,v=.int i)∨∃ x,v=.str x∧PyData.strOk x=true
def Y2 (e:List V):PyData:=.tuple (e.map Z3)
mutual
def rwD:Rw→PyData
 | .take sh e sl=>.tuple [.str "take",.str sh,Y2 e,.str sl]
 | .give sh e f=>.tuple [.str "give",.str sh,Y2 e,Y2 f]
 | .lt sl e=>.tuple [.str "let",.str sl,Y2 e]
 | .say e=>.tuple [.str "say",Y2 e]
 | .off e=>.tuple [.str "off",Y2 e]
 | .iff e a b=>.tuple [.str "if",Y2 e,.list (zcR a),.list (zcR b)]
def zcR:Rws→List PyData
 | .nil=>[]
 | .cons r rs=>rwD r :: zcR rs
end
def tmP (e:List V):Prop:=∀ v∈e,plV v
mutual
def Z9:Rw→Prop
 | .take sh e sl=>PyData.strOk sh=true∧tmP e∧PyData.strOk sl=true
 | .give sh e f=>PyData.strOk sh=true∧tmP e∧tmP f
 | .lt sl e=>PyData.strOk sl=true∧tmP e
 | .say e=>tmP e
 | .off e=>tmP e
 | .iff e a b=>tmP e∧xM a∧xM b
def xM:Rws→Prop
 | .nil=>True
 | .cons r rs=>Z9 r∧xM rs
end
section
variable {K:W.Frag} {H:Hp} {F:Addr→Prop}
theorem zas {v:V} (h:plV v):Dat K H v (Z3 v):=by
 rcases h with ⟨i,rfl⟩ | ⟨x,rfl,_⟩
 ·exact .int i
 ·exact .str x
theorem Qs:∀ {e:List V},tmP e→DatAll K H e (e.map Z3)
 | [],_=>.nil
 | v :: r,h=>.cons (zas (h v List.mem_cons_self)) (Qs fun u hu=>h u (List.mem_cons_of_mem _ hu))
end
theorem VT:∀ {e:List V},tmP e→yw (e.map Z3)=true
 | [],_=>by simp [yw]
 | v :: r,h=>by
  rw [List.map_cons,yw,VT fun u hu=>h u (List.mem_cons_of_mem _ hu),Bool.and_true]
  rcases h v List.mem_cons_self with ⟨i,rfl⟩ | ⟨x,rfl,hx⟩
  ·rw [Z3,zV]
  ·rw [Z3,zV];exact hx
theorem JT:∀ (e:List V),PyData.depthAll (e.map Z3)=0
 | []=>by simp [PyData.depthAll]
 | v :: r=>by
  rw [List.map_cons,PyData.depthAll,JT r]
  cases v <;> simp [Z3,PyData.depth]
theorem zbB:PyData.strOk "off"=true:=by decide +kernel
def Rws.snoc:Rws→Rw→Rws
 | .nil,x=>.cons x .nil
 | .cons r rs,x=>.cons r (rs.snoc x)
def Rws.app:Rws→Rws→Rws
 | .nil,x=>x
 | .cons r rs,x=>.cons r (rs.app x)
theorem RwsAt.snoc {F:Addr→Prop} {H:Hp} {v:V} {x:Rw} (hx:RwAt F H v x):∀ (r:Rws) {vs:List V},RwsAt F H vs r→RwsAt F H (vs ++ [v]) (r.snoc x)
 | .nil,vs,h=>by
  unfold RwsAt at h
  subst h
  show RwsAt F H [v] (.cons x .nil)
  unfold RwsAt
  exact ⟨v,[],rfl,hx,by unfold RwsAt;rfl⟩
 | .cons r rs,vs,h=>by
  unfold RwsAt at h
  obtain ⟨u,ws,rfl,e2,e3⟩:=h
  show RwsAt F H (u :: (ws ++ [v])) (.cons r (rs.snoc x))
  unfold RwsAt
  exact ⟨u,ws ++ [v],rfl,e2,RwsAt.snoc hx rs e3⟩
theorem RwsAt.len {F:Addr→Prop} {H:Hp}:∀ (r:Rws) {vs:List V},RwsAt F H vs r→vs.length≤r.cnt
 | .nil,vs,h=>by
  unfold RwsAt at h
  subst h
  exact Nat.zero_le _
 | .cons r rs,vs,h=>by
  unfold RwsAt at h
  obtain ⟨u,ws,rfl,e2,e3⟩:=h
  have:=RwsAt.len rs e3
  have c:(Rws.cons r rs).cnt=r.cnt + rs.cnt:=by rw [Rws.cnt]
  have:1≤r.cnt:=by cases r <;> simp [Rw.cnt]
  rw [c,List.length_cons];lia
theorem RwsAt.get {F:Addr→Prop} {H:Hp}:∀ {r:Rws} {vs:List V} {i:Nat} {v:V},RwsAt F H (vs.drop i) r→vs[i]?=some v→∃ x rs,r=.cons x rs∧RwAt F H v x∧RwsAt F H (vs.drop (i + 1)) rs
 | .nil,vs,i,v,h,e=>by
  unfold RwsAt at h
  have:=(List.getElem?_eq_some_iff.mp e).1
  have:=congrArg List.length h
  rw [List.length_drop] at this
  simp at this
  lia
 | .cons x rs,vs,i,v,h,e=>by
  unfold RwsAt at h
  obtain ⟨u,ws,e1,e2,e3⟩:=h
  have hi:=(List.getElem?_eq_some_iff.mp e).1
  have d:=List.drop_eq_getElem_cons hi
  rw [e1] at d
  have e4:vs[i]=v:=(List.getElem?_eq_some_iff.mp e).2
  rw [e4] at d
  injection d with d1 d2
  subst d1 d2
  exact ⟨x,rs,rfl,e2,e3⟩
theorem RwsAt.none {F:Addr→Prop} {H:Hp} {r:Rws} {vs:List V} (h:RwsAt F H (vs.drop vs.length) r):r=.nil:=by
 rw [List.drop_length] at h
 cases r with
 | nil=>rfl
 | cons x rs =>
  unfold RwsAt at h
  obtain ⟨_,_,e,_⟩:=h
  cases e
theorem KH {x:Rw} (hx:xQ x):∀ (r:Rws),yX r→yX (r.snoc x)
 | .nil,_=>by show yX (.cons x .nil);unfold yX;exact ⟨hx,by unfold yX;trivial⟩
 | .cons y r,h=>by
  unfold yX at h
  show yX (.cons y (r.snoc x))
  unfold yX
  exact ⟨h.1,KH hx r h.2⟩
theorem KI {x:Rw} (hx:Z9 x):∀ (r:Rws),xM r→xM (r.snoc x)
 | .nil,_=>by show xM (.cons x .nil);unfold xM;exact ⟨hx,by unfold xM;trivial⟩
 | .cons y r,h=>by
  unfold xM at h
  show xM (.cons y (r.snoc x))
  unfold xM
  exact ⟨h.1,KI hx r h.2⟩
theorem Wc (x:Rw):∀ (r:Rws),(r.snoc x).deep=max r.deep x.deep
 | .nil=>by show (Rws.cons x .nil).deep=_;simp [Rws.deep]
 | .cons y r=>by
  show (Rws.cons y (r.snoc x)).deep=_
  rw [Rws.deep,Rws.deep,Wc x r];lia
theorem zat {v:V} (h:j8 v) (j:isJ v=false):TermOk [v] :=
 ⟨fun kvs=>⟨_,Qm j⟩,fun u hu=>by rw [List.mem_singleton.mp hu];exact h,by simp⟩
theorem Paired.takeP {α β:Type} {F:α→β→Prop}:∀ (k:Nat) {a:List α} {b:List β},Paired F a b→Paired F (a.take k) (b.take k)
 | 0,_,_,_=>.nil
 | _ + 1,_,_,.nil=>.nil
 | k + 1,_,_,.cons h r=>.cons h (Paired.takeP k r)
theorem Paired.snocP {α β:Type} {F:α→β→Prop} {x:α} {y:β}:∀ {a:List α} {b:List β},Paired F a b→F x y→Paired F (a ++ [x]) (b ++ [y])
 | _,_,.nil,h=>.cons h .nil
 | _,_,.cons a r,h=>.cons a (Paired.snocP r h)
theorem FnOkH.mono {P:Program} {w:World} {K:W.Frag} {mg:Str→Option Value} {base:Heap} {j k:Nat} {f:Addr} {fd:FuncData} {ps:List Str} {sp:Sp} (F:FnOkH P w K mg base j f fd ps sp) (h:j≤k):FnOkH P w K mg base k f fd ps sp :=
 ⟨F.len,fun A outer s H args us vs Q E hr he hb hv hs=>F.run A outer s H args us vs Q E (hr.mono h) he hb hv hs⟩
end L2
namespace L2
open PySem PySem.Spec PyProof.Rows
abbrev zcS:RM:=fun x xs H Q=>∃ a b,x=.str a∧xs=[.str b]∧(b.length == 0)=false∧a.length≤100000∧(Txt.split a b).length≤100000∧∀ l,H l=none→Q (.ref l) (upd H l (.lst ((Txt.split a b).map V.str)))
section
variable {X:Cx}
end
def zdZ (K:W.Frag) (p:Addr) (xs:List V):It:=⟨fun i H=>i < xs.length∧SqL K H p xs,fun i H x H'=>∃ T u,x=.ref T∧H T=none∧H'=upd H T (.tup [.int i,u])∧xs[i]?=some u,fun i H=>xs.length≤i∧SqL K H p xs⟩
def zeP (K:W.Frag) (ta:TA):TI:=fun σ H R=>ta σ H fun vs H1=>∃ p xs,vs=[.ref p]∧SqL K H1 p xs∧R (zdZ K p xs) H1
section
variable {X:Cx}
end
section
variable {σ:St} {H:Hp} {nx:St→Hp→Prop} {B:V→St→Hp→(St→Hp→Prop)→Prop}
end
end L2
namespace L2
open PySem PySem.Spec PyProof.Rows
theorem zcT {c:Nat}:∀ {a b r s:List Nat},c ∉ a→c ∉ b→a ++ c :: r=b ++ c :: s→a=b∧r=s
 | [],[],r,s,_,_,h=>by simpa using h
 | [],y :: b,r,s,_,hb,h=>by
  simp only [List.nil_append,List.cons_append,List.cons.injEq] at h
  exact absurd h.1 (fun z=>hb (by rw [z];exact List.mem_cons_self))
 | x :: a,[],r,s,ha,_,h=>by
  simp only [List.nil_append,List.cons_append,List.cons.injEq] at h
  exact absurd h.1.symm (fun z=>ha (by rw [z];exact List.mem_cons_self))
 | x :: a,y :: b,r,s,ha,hb,h=>by
  simp only [List.cons_append,List.cons.injEq] at h
  obtain ⟨e1,e2⟩:=zcT (fun z=>ha (List.mem_cons_of_mem _ z)) (fun z=>hb (List.mem_cons_of_mem _ z)) h.2
  exact ⟨by rw [h.1,e1],e2⟩
end L2
namespace L2
open PySem PySem.Spec PyProof.Rows
abbrev zel (K:W.Frag):RC:=fun xs H Q=>∃ (x:V) (p:Addr) (t:Value) (Ts:List String) (b:Bool),xs=[x,.ref p]∧Zh K H x t∧H p=some (.tup (Ts.map V.ty))∧W.kitAny K t (Ts.map Value.type)=some b∧Q (.bl b) H
section
variable {X:Cx}
end
section
variable {prog:Program} {w:World} {A:Around} {E:Value→Shared→Prop} {s:Shared}
end
def zem (td ty tv:TE):TS:=fun D σ H=>tv σ H fun v H1=>td σ H1 fun x H2=>ty σ H2 fun y H3=>∃ a xs i j,x=.ref a∧y=.int i∧H3 a=some (.lst xs)∧ixN xs.length i=some j∧(-1000≤i∧i≤1000)∧D.nx σ (upd H3 a (.lst (xs.set j v)))
section
variable {X:Cx} {o i value:Expr} {pos pos':Pos} {td ty tv:TE}
end
section
variable {X:Cx} {st:Stmt} {hs:List ExceptHandler} {pos:Pos} {tb:TS}
end
end L2
namespace L2
open PySem PySem.Spec PyProof.Rows
def zen (K:W.Frag) (ta:TA):TI:=fun σ H R=>ta σ H fun vs H1=>∃ p q xs ys,vs=[.ref p,.ref q]∧xs.length=ys.length∧((SqL K H1 p xs∧SqL K H1 q ys∧R (zdx K p q xs ys) H1)∨(SqT K H1 p xs∧SqT K H1 q ys∧R (Itz K p q xs ys) H1))
section
variable {X:Cx}
abbrev Y3 (K:W.Frag):R2:=fun x y H Q=>∃ a b xs,x=.ref a∧y=.ref b∧SqL K H a xs∧SqL K H b []∧Q (.bl (!decide (xs=[]))) H
theorem zau (hu:X.A.units + 64 < cLine):OpR X (compareOp .NotEq) (Y3 X.K):=by
 intro pins s σ H x y v u Q I rx ry h
 obtain ⟨a,b,xs,rfl,rfl,ha,hb,q⟩:=h
 by_cases e:xs=[]
 ·subst e
  exact zcJ hu pins s σ H _ _ v u Q I rx ry ⟨a,b,[],[],rfl,rfl,ha,hb,⟨rfl,rfl,rfl⟩,q⟩
 ·cases rx
  cases ry
  obtain ⟨us,r1,p1,_⟩:=I.list ha
  obtain ⟨ws,r2,p2,_⟩:=I.list hb
  cases r2
  have e1:=r1.length
  have e2:xs.length≠0:=fun z=>e (List.eq_nil_of_length_eq_zero z)
  rw [decide_eq_false e] at q
  exact PySem.SeqAt.RcNeAt.lists_lengths p1.isList p2.isList (by simp;intro z;rw [z] at e1;exact e2 e1) (by lia) X.prog X.w X.xe _ ⟨.bl true,H,I,rfl,q⟩
end
mutual
inductive zav (H:Hp):V→PyData→Prop
 | int (i:Int):zav H (.int i) (.int i)
 | str (x:Str):zav H (.str x) (.str x)
 | lst {a:Addr} {xs:List V} {ds:List PyData}:H a=some (.lst xs)→VU H xs ds→zav H (.ref a) (.list ds)
 | tup {a:Addr} {xs:List V} {ds:List PyData}:H a=some (.tup xs)→VU H xs ds→zav H (.ref a) (.tuple ds)
inductive VU (H:Hp):List V→List PyData→Prop
 | nil:VU H [] []
 | cons {x:V} {d:PyData} {xs:List V} {ds:List PyData}:zav H x d→VU H xs ds→VU H (x :: xs) (d :: ds)
end
end L2
namespace L2
open PySem
end L2
namespace L2
open PySem
abbrev kU:RM:=Ym
end L2
namespace L2
open PySem PySem.Spec PyProof.Rows
abbrev zcU:RM:=zcz
abbrev zeo (K:W.Frag):RC:=fun xs H Q=>∃ a,∃ ns:List Int,xs=[.ref a]∧SqL K H a (ns.map V.int)∧Q (.int ns.sum) H
abbrev zep (K:W.Frag):RC:=fun xs H Q=>∃ a,∃ ns:List Int,xs=[.ref a]∧SqL K H a (ns.map V.int)∧0 < ns.length∧∀ M,M∈ns→(∀ x∈ns,x≤M)→Q (.int M) H
section
variable {X:Cx}
end
end L2
namespace L2
open PySem PySem.Spec PyProof.Rows
abbrev KJ:RC:=fun xs H Q=>∃ i j,xs=[.int i,.int j]∧Q (.int (if j > i then j else i)) H
abbrev zeQ (K:W.Frag) (neg:Bool):R2:=fun x y H Q=>∃ (p:Addr) (xs:List V) (d:PyData) (ds:List PyData),y=.ref p∧(SqL K H p xs∨SqT K H p xs)∧Dat K H x d∧DatAll K H xs ds∧(zV d=true∧d.depth≤50∧∀ e∈ds,zV e=true) ∧
 ∀ b:Bool,(b=true↔d∈ds)→Q (.bl (if neg then !b else b)) H
section
variable {X:Cx}
open Classical in
noncomputable def zeR (K:PySem.W.Frag) (H:Hp) (d:PyData) (u:Value):Bool:=decide (∃ x,RelV x u∧Dat K H x d)
open Classical in
end
abbrev VV (K:W.Frag):RC:=fun vs H Q=>∃ r xs its,vs=[.ref r]∧SqL K H r xs∧Paired (PrAt H) xs its∧(its.map (·.1)).Nodup∧its.length < 64 ∧
 ∀ l ys srt H',Same H H'→H l=none→H' l=some (.lst ys)→Paired (PrAt H') ys srt→Rising srt→srt.Perm its→Q (.ref l) H'
section
variable {X:Cx}
theorem WQ (hc:X.calm=true) (hu:X.A.units + 3 < cLine):ky X (.builtin "sorted") (VV X.K):=by
 intro pins s σ H vs us Q I r0 h
 obtain ⟨r,xs,its,rfl,hq,pr,nd,h64,q⟩:=h
 obtain ⟨u,rfl,ru⟩:=ZX r0
 cases ru
 obtain ⟨vs,rv,⟨o,n,ho,oc,_,od⟩,hz⟩:=I.list hq
 have so:=qU nd
 have l1:=Paired.length pr
 have l2:=rv.length
 have vat:∀ {h:Heap},(∀ b o,s.heap.get? b=some o→h.get? b=some o)→∀ (i:Nat) (q:Row),its[i]?=some q→∃ v,vs[i]?=some v∧RvAt h v q:=fun {h} k i q hq=>by
  have hi:=(List.getElem?_eq_some_iff.mp hq).1
  obtain ⟨y,hy⟩:∃ y,xs[i]?=some y:=⟨_,List.getElem?_eq_getElem (by lia)⟩
  obtain ⟨u,hu',ru⟩:=rv.get hy
  exact ⟨u,hu',(zcg I (yp pr hy hq) ru).keep k⟩
 refine Z1 (vs:=vs) (κ:=tuples' false) (lt:=fun i j=>z4 ((its.map (·.1)).getD i (("",0):Pl)) ((its.map (·.1)).getD j (("",0):Pl))) (by lia) (by rw [show vs.length=(its.map (·.1)).length by rw [List.length_map];lia];exact so) (fun R hR=>?_) (fun h2 h tk Q' k q'=>?_) (fun h tk i j C k hi hj hij q'=>?_) fun h tk h' p c k1 k2 hD hp hr=>?_
 ·refine wpAny_collect_seq r (.inl rfl) ho oc od (fun h' k=>?_) (by rw [List.size_toArray];exact Nat.le_trans (by lia:_≤64) (by decide))
  have e:({ s with heap:=h' }:Shared)={ s with heap:=h',toks:=s.toks }:=rfl
  rw [e]
  exact hR h' s.toks k
 ·refine VP (s:={ s with heap:=h,toks:=tk }) (qs:=its) (by lia) (fun i v q hv hq=>?_) (by lia) q'
  obtain ⟨v',hv',rr⟩:=vat k i q hq
  rw [hv] at hv'
  cases hv'
  exact rr
 ·have e1:its[i]?=some its[i]:=List.getElem?_eq_getElem (by lia)
  have e2:its[j]?=some its[j]:=List.getElem?_eq_getElem (by lia)
  obtain ⟨v1,g1,r1⟩:=vat k i _ e1
  obtain ⟨v2,g2,r2⟩:=vat k j _ e2
  have n1:(its.map (·.1)).getD i (("",0):Pl)=its[i].1:=by rw [List.getD_eq_getElem?_getD,List.getElem?_map,e1];rfl
  have n2:(its.map (·.1)).getD j (("",0):Pl)=its[j].1:=by rw [List.getD_eq_getElem?_getD,List.getElem?_map,e2];rfl
  have m1:vs.getD i Value.none=v1:=by rw [List.getD_eq_getElem?_getD,g1];rfl
  have m2:vs.getD j Value.none=v2:=by rw [List.getD_eq_getElem?_getD,g2];rfl
  simp only [n1,n2] at q'
  have key:=KC (P:=X.prog) (w:=X.w) (A:=X.A.in1.in1) (E:=fun _ _=>False) (s:={ s with heap:=h,toks:=tk }) (Q:=C) (by have e:X.A.in1.in1.units=X.A.units + 2:=rfl;lia) r1 r2 q' fun z=>hij (by
   have e3:(its.map (·.1))[i]?=some its[i].1:=by rw [List.getElem?_map,e1];rfl
   have e4:(its.map (·.1))[j]?=some its[j].1:=by rw [List.getElem?_map,e2];rfl
   rw [z] at e3
   exact (List.getElem?_inj (by rw [List.length_map];lia) nd).mp (e3.trans e4.symm))
  rw [← m1,← m2] at key
  exact key
 ·have I1:Inv X pins σ H { s with heap:=h,toks:=tk }:=I.kept k1
  have hp':PP its.length p:=by rw [show its.length=vs.length by lia];exact hp
  have fr:H h.objs.size=none:=I1.hok.fresh (Nat.le_refl _)
  have sz:=hp'.size
  have pk:=wZ pr V.non d0 (is:=p.toList) fun i hi=>by have:=hp'.lt i hi;lia
  have vk:Vals (p.toList.map fun i=>xs.getD i V.non) (wY vs p):=wZ rv V.non Value.none (is:=p.toList) fun i hi=>by have:=hp'.lt i hi;lia
  have I2:Inv X pins σ (upd H h.objs.size (.lst (p.toList.map fun i=>xs.getD i V.non))) { s with heap:=h',toks:=tk }:=I1.laid (s:={ s with heap:=h,toks:=tk }) (a:=h.objs.size) (o:=.lst (p.toList.map fun i=>xs.getD i V.non)) (t':=tk) k2 (Nat.le_refl _)
   ⟨by rw [List.length_map,Array.length_toList];exact Nat.le_trans (by lia:_≤64) (by decide),wY vs p,c,vk,hD⟩
  have S2:Same H (upd H h.objs.size (.lst (p.toList.map fun i=>xs.getD i V.non))):=isV _ fr
  have mono:∀ {us:List V} {ws:List Row},Paired (PrAt H) us ws→Paired (PrAt (upd H h.objs.size (.lst (p.toList.map fun i=>xs.getD i V.non)))) us ws:=fun {us ws} h=>by
   induction h with
   | nil=>exact .nil
   | cons a _ ih =>
    obtain ⟨r,p,e,h1,h2⟩:=a
    exact .cons ⟨r,p,e,S2 _ _ h1,S2 _ _ h2⟩ ih
  refine ⟨.ref h.objs.size,_,I2,rfl,q _ _ (p.toList.map fun i=>its.getD i d0) _ S2 fr zd (mono pk) ?_ ?_⟩
  ·have hr':kS (fun i j=>z4 ((its.map (·.1)).getD i (("",0):Pl)) ((its.map (·.1)).getD j (("",0):Pl))) p its.length:=by rw [show its.length=vs.length by lia];exact hr
   have pw:=Y0 (F:=z4) hp' hr'
   have eq:(p.toList.map fun i=>its.getD i d0).map (·.1)=p.toList.map fun i=>(its.map (·.1)).getD i (("",0):Pl):=by
    rw [List.map_map]
    refine List.map_congr_left fun i hi=>?_
    have hi:=hp'.lt i hi
    simp [List.getD_eq_getElem?_getD,List.getElem?_map,List.getElem?_eq_getElem hi]
   rw [← eq,List.pairwise_map] at pw
   exact pw
  ·refine (hp'.list.map _).trans ?_
   rw [YZ]
end
def Cb (i:Int):Prop:=Builtin.Int.intBits i≤1048576
section
variable {X:Cx}
end
open Att PySem.W PySem.Calls in
theorem zaw {l:W.OpenLaw} {n k:Nat} {q:Program} {loose:List Str} {XP:(Str→Option Value)→Heap→Prop} {YP:World→Heap→Prop} {d:DefRec} {K:Params→W.Frag} {CX:World→CXT} {sp:World→Sp} {x:Str}
  (hn:l.most=some n) (hn2:n≤sizeLine) (hdf:d.params.defaults=[]) (hr:Room k callerA) (hY:∀ (w:World) (h:Heap),YP w h→(K w.params).In h)
  (F:∀ (w:World) (mg:Str→Option Value) (fa:Addr) (h:Heap),(K w.params).In h→h.Ns mainGlobals mg→mg d.name=some (.ref fa) →
   ∃ fd:FuncData,(∀ (s:Shared) (u:Value),BindsTo s fd ⟨[u],[]⟩ [(x,u)]) ∧
    ∀ base:Heap,(K w.params).In base→base.Ns mainGlobals mg→FnOk l.prog w (K w.params) mg base (CX w) k fa fd [x] (sp w))
  (hsp:∀ (w:World) (H:Hp) (a:Addr) (ns:List Int),ns.length≤n→(∀ i∈ns,Cb i)→JH H→SqL (K w.params) H a (ns.map V.int)→sp w [.ref a] H (fun v _=>v=.bl true) fun _ _ _=>False)
  (hCX:∀ (w:World) (H:Hp) (s:Shared) (e:Value) (s':Shared),CX w [] H s (fun _ _ _=>False) e s'→False) :
  W.WalkO q loose XP YP l.row.toRowW d [] (fun f vs=>PySem.call f vs):=by
 intro w s₀ s₁ mg mb G Y fa o pm cd doc dV kV ho hd hcd hD hmg hg args vals as hpre hlay hrd hwl hlo
 obtain rfl:dV=.none:=Dflts.none hD hdf
 obtain rfl:kV=.none:=Dflts.noKw hD
 obtain ⟨a,vs,ns,rfl,rfl,hobj,hints,hlen⟩:=X2 hn hpre hwl
 have hb:∀ i∈ns,Cb i:=fun i hi=>intBits_le_of_layable (layable_of_mem (lay0_int (layableW_item (layableW_arg hlay _ List.mem_cons_self) _ (List.mem_map.mpr ⟨i,hi,rfl⟩))) List.mem_cons_self)
 have KX:=hY w _ Y
 obtain ⟨fd,hbd,hF⟩:=F w mg fa _ KX G.T.g hmg
 refine enter_call (codeAny_mono (Vr KX G.T.g G.T.b G.T.builtins G.T.nolimit hg hobj hints (Nat.le_trans hlen hn2) hr hF hbd (fun H hO hS=>hsp w H a ns hlen hb hO hS) fun H e s'=>hCX w H s₁ e s') fun r s' hq=>?_)
 obtain ⟨rfl,h2,h3,h4⟩:=hq
 exact ⟨.inl ⟨.bool true,.bool true,[],rfl,fun _=>rfl,.bool true,X3 l _,fun _=>⟨List.Pairwise.nil,fun _ hm=>(nomatch hm)⟩⟩,h2,h3,h4⟩
theorem zdf {l:W.OpenLaw} {n k:Nat} {q:Program} {loose:List Str} {XP:(Str→Option Value)→Heap→Prop} {YP:World→Heap→Prop} {d:DefRec} {K:Params→W.Frag} {sp:W.Frag→Sp} {x:Str}
  (hn:l.most=some n) (hn2:n≤sizeLine) (hdf:d.params.defaults=[]) (hr:Room k callerA) (hY:∀ (w:World) (h:Heap),YP w h→(K w.params).In h)
  (F:∀ (w:World) (mg:Str→Option Value) (fa:Addr) (h:Heap),(K w.params).In h→h.Ns mainGlobals mg→mg d.name=some (.ref fa) →
   ∃ fd:FuncData,(∀ (s:Shared) (u:Value),BindsTo s fd ⟨[u],[]⟩ [(x,u)]) ∧
    ∀ base:Heap,(K w.params).In base→base.Ns mainGlobals mg→FnOk l.prog w (K w.params) mg base (CX1 l.prog w) k fa fd [x] (sp (K w.params)))
  (hsp:∀ (K:W.Frag) (H:Hp) (a:Addr) (ns:List Int),ns.length≤n→(∀ i∈ns,Cb i)→JH H→SqL K H a (ns.map V.int)→sp K [.ref a] H (fun v _=>v=.bl true) fun _ _ _=>False) :
  W.WalkO q loose XP YP l.row.toRowW d [] (fun f vs=>PySem.call f vs) :=
 zaw (K:=K) (CX:=fun w=>CX1 l.prog w) (sp:=fun w=>sp (K w.params)) hn hn2 hdf hr hY F (fun w H a ns h1 hb h2 h3=>hsp (K w.params) H a ns h1 hb h2 h3) fun _ _ _ _ _ z=>by
  obtain ⟨_,_,_,_,_,_,_,_,_,y⟩:=z
  exact y
end L2
namespace L2
open PySem PySem.Spec PyProof.Rows
def Itk (a:Addr) (o:Obj) (kvs:List (Key × V)):It :=
 ⟨fun i H=>H a=some (.frz o (.dK kvs))∧i < kvs.length,fun i H x H'=>H'=H∧∃ k v,kvs[i]?=some (k,v)∧x=kV k,fun i H=>H a=some (.frz o (.dK kvs))∧kvs.length≤i⟩
section
variable {X:Cx}
def iDK (tl:TE):TI:=fun σ H R=>tl σ H fun x H1=>∃ a o kvs,x=.ref a∧H1 a=some (.frz o (.dK kvs))∧R (Itk a o kvs) H1
end
section
variable {σ:St} {H:Hp} {nx:St→Hp→Prop} {B:V→St→Hp→(St→Hp→Prop)→Prop}
end
end L2
namespace L2
open PySem PySem.Spec PyProof.Rows
def zdy (H:Hp) (v:V) (q:Pl):Prop:=∃ p,v=.ref p∧H p=some (.tup [.str q.1,.int q.2])
abbrev zeq (K:W.Frag):RC:=fun vs H Q=>∃ r xs its,vs=[.ref r]∧SqL K H r xs∧Paired (zdy H) xs its∧its.Nodup∧its.length < 64 ∧
 ∀ l ys srt H',Same H H'→H l=none→H' l=some (.lst ys)→Paired (zdy H') ys srt→srt.Pairwise (fun a b=>z4 a b=true)→srt.Perm its→Q (.ref l) H'
section
variable {X:Cx}
end
end L2
namespace L2
open PySem PySem.Spec PyProof.Rows
section
variable {K:Type} [DecidableEq K]
end
section
variable {prog:Program} {w:World} {K:Type} [DecidableEq K] {knd:HeapKind prog w K} {A:Around} {E:Value→Shared→Prop} {s:Shared} {d a:Addr} {xs:List (K × Addr × Value)} {k:K}
end
section
variable {X:Cx} {pins:List (Addr × Obj)} {σ:St} {H:Hp} {s:Shared} {a b:Addr} {kvs:List (List Key × V)} {k:List Key} {A:Around} {E:Value→Shared→Prop}
end
def zd0 (td ty:TE):TE:=fun σ H Q=>td σ H fun x H1=>∃ a,x=.ref a∧IsD H1 a∧ty σ H1 fun y H2=>∃ kvs k b v,H2 a=some (.dT kvs)∧y=.ref b∧H2 b=some (.tup (k.map kV))∧yN kvs k=some v∧Q v (upd H2 a (.dT (XZ kvs k)))
def zd1 (td ty tx:TE):TE:=fun σ H Q=>td σ H fun x H1=>∃ a,x=.ref a∧IsD H1 a∧ty σ H1 fun y H2=>tx σ H2 fun z H3=>∃ kvs k b,H3 a=some (.dT kvs)∧y=.ref b∧H3 b=some (.tup (k.map kV))∧kvs.length < sizeLine ∧
 (∀ v,yN kvs k=some v→Q v H3)∧(yN kvs k=none→Q z (upd H3 a (.dT (yD kvs k z))))
section
variable {X:Cx} {o e f:Expr} {apos cpos:Pos} {td ty tx:TE}
end
abbrev zch:RM:=fun x vs H Q=>∃ (l:Addr) (xs:List V) (k:Nat) (y:V),x=.ref l∧vs=[.int k,y]∧H l=some (.lst xs)∧k≤xs.length∧xs.length < 1000000∧Q .non (upd H l (.lst (xs.take k ++ y :: xs.drop k)))
abbrev zci:RM:=fun x vs H Q=>∃ (l:Addr) (ns:List Int) (i:Int),x=.ref l∧vs=[.int i]∧H l=some (.lst (ns.map V.int))∧i∈ns∧Q .non (upd H l (.lst ((ns.erase i).map V.int)))
section
variable {X:Cx}
end
def zd2 (H:Hp) (y:V) (kv:List Key × V):Prop:=∃ p,y=.ref p∧H p=some (.tup (kv.1.map kV))
abbrev zer:RC:=fun vs H Q=>∃ a kvs,vs=[.ref a]∧H a=some (.dT kvs)∧∀ l ys,H l=none→Paired (zd2 H) ys kvs→Q (.ref l) (upd H l (.lst ys))
abbrev zes:RC:=fun vs H Q=>∃ a kvs,vs=[.ref a]∧H a=some (.dT kvs)∧Q (.int (kvs.length:Nat)) H
section
variable {X:Cx}
end
end L2
namespace L2
open PySem PySem.Spec PyProof.Rows
section
variable {X:Cx} {c:Expr} {s₁ s₂:Stmt} {tc:TT} {t1 t2:EXK→TS} {pos:Pos}
end
section
variable {X:Cx} {e:Expr} {te:TE} {a b:Str} {j k:Nat} {p1 p2 p3 p4:Pos}
end
end L2
namespace L2
open PySem PySem.Spec PyProof.Rows
structure FunD (K:W.Frag) (x qual:Str) (st:Stmt) (f:Addr) (fd:FuncData):Prop where
 ex:∃ (oc:Value) (od:Option Addr) (dV kV doc pm:Value) (an:Option Addr) (cdv ct:Value) (osl:Array (Option Value)),fd=W.fnOf x qual (zE st) (zB st) (zh st) dV kV doc pm an cdv ct∧K.lookup f=some ⟨oc,od,.func fd,osl⟩∧W.codeIn K cdv qual=true
 kp:W.keepIn K (.ref f)=true
section
variable {P:Program} {w:World} {K:W.Frag} {mg:Str→Option Value} {base:Heap} {x qual:Str} {st:Stmt} {f:Addr} {fd:FuncData} {N ps:List Str} {k:Nat} {sp:Sp}
theorem FunD.ok1 (F:FunD K x qual st f fd) (S:zC N ps (zh st)) (len:∀ vs H Q E,sp vs H Q E→vs.length=ps.length)
  (hbody:∀ (cdv:Value) (A:Around) (outer:List Env) (s:Shared) (H:Hp) (vs:List V) (Q:VK) (E:XK),Room k (A.deeper (envOfC qual (zh st) s.heap.objs.size f cdv))→sp vs H Q E→∃ t,PSs (kH (CX1 P w) P w K mg base N qual (zh st) f cdv A outer s H E) (zB st) t∧t { nx:=fun _ H'=>Q .non H',rt:=Q } (start N vs) H):FnOk P w K mg base (CX1 P w) (k + 1) f fd ps sp:=by
 obtain ⟨oc,od,dV,kV,doc,pm,an,cdv,ct,osl,rfl,lk,hcd⟩:=F.ex
 exact zb9 lk hcd S len fun A outer s H vs Q E hr hsp=>hbody cdv A outer s H vs Q E hr hsp
theorem FunD.ok0 (F:FunD K x qual st f fd) (S:zC N ps (zh st)) (len:∀ vs H Q E,sp vs H Q E→vs.length=ps.length)
  (hbody:∀ (cdv:Value) (A:Around) (outer:List Env) (s:Shared) (H:Hp) (vs:List V) (Q:VK) (E:XK),Room k (A.deeper (envOfC qual (zh st) s.heap.objs.size f cdv))→sp vs H Q E→∃ t,PSs (kH (CX1 P w) P w K mg base N qual (zh st) f cdv A outer s H E).nox (zB st) t∧t { nx:=fun _ H'=>Q .non H',rt:=Q } (start N vs) H):FnOk P w K mg base (CX1 P w) (k + 1) f fd ps sp :=
 F.ok1 S len fun cdv A outer s H vs Q E hr h=>let ⟨t,a,b⟩:=hbody cdv A outer s H vs Q E hr h;⟨t,a.nox,b⟩
theorem zbC {oc:Value} {od an:Option Addr} {osl:Array (Option Value)} {dV kV doc pm cdv ct:Value} (l:K.lookup f=some ⟨oc,od,.func (W.fnOf x qual (zE st) (zB st) (zh st) dV kV doc pm an cdv ct),osl⟩)
  (c:W.codeIn K cdv qual=true) (k:W.keepIn K (.ref f)=true):FunD K x qual st f (W.fnOf x qual (zE st) (zB st) (zh st) dV kV doc pm an cdv ct):=⟨⟨oc,od,dV,kV,doc,pm,an,cdv,ct,osl,rfl,l,c⟩,k⟩
end
section
variable {X:Cx} {o value:Expr} {f:Str} {pos pos':Pos} {ta:TE} {tx:EXK→TE}
def zax (K:W.Frag) (ta:TE) (tx:EXK→TE) (f:Str) (EX:EXK):TS:=ji K ta (tx EX) f
theorem zbD (ha:PE X.nox o ta) (hv:PEX X value tx) (hs:swapsWith value (some (.Attribute o f pos')) pos.line X.env=pure false):PSX X (.Assign [.Attribute o f pos'] value pos) (zax X.K ta tx f):=by
 intro pins s σ H D EX I h
 refine plainObj_wpAny_Assign_Attribute (thn (hv pins s σ H _ EX I h) fun u s1 ⟨y,H1,I1,ry,q⟩=>wpAny_mono (ha pins s1 σ H1 _ (I1.wish _) q) (fun ov s2 ⟨x,H2,I2',rx,a,C,dx,fs,ex,ea,c,n,l,q2⟩=>?_) fun _ _ z=>False.elim z) hs
 subst ex
 obtain rfl:ov=Value.ref a:=rx
 exact Yz I2'.unwish ea c n l ry fun s3 I3=>⟨σ,_,I3,q2⟩
end
def KK (K:W.Frag) (tb:EXK→TS) (C1 C2:Addr) (th:TS):TS:=fun D σ H=>tb (fun cls σ1 H1=>∃ C,cls=.ref C∧W.exmAny K (.ref C) [.ref C1,.ref C2]=some true∧th D σ1 H1) D σ H
theorem zay {base h:Heap} {l:List Env} {e:Addr} {cls a0:Value} (x:Heap.FlyingW base l e cls a0 h) (o:Obj):Heap.FlyingW base l e cls a0 (h.push o):=by
 obtain ⟨f1,f2,f3,oe,vs,T,oT,ts,a1,a2,a3,a4,a5,a6,a7,a8,a9⟩:=x
 exact ⟨fun b u q=>Heap.get?_push_of_some _ (f1 b u q),f2,f3.of_keeps (fun b u q _=>⟨u,Heap.get?_push_of_some _ q,rfl⟩),oe,vs,T,oT,ts,Heap.get?_push_of_some _ a1,a2,a3,a4,a5,a6,Heap.get?_push_of_some _ a7,a8,a9⟩
section
variable {X:Cx} {st b₀:Stmt} {suite:List Stmt} {tb:EXK→TS} {th:TS} {c1 c2:Str} {C1 C2:Addr} {np np2 hpos tpos pos:Pos} {x1:Nat}
theorem zbE (hst:X.stack=X.env :: X.outer∧X.env.frame=some X.env.locals) (hex:X.ex=[]) (hb:PSX X st tb) (hg1:Gl X c1) (hm1:X.mg c1=some (.ref C1)) (hg2:Gl X c2) (hm2:X.mg c2=some (.ref C2))
  (hs:∀ e,PSs (X.sub e) (b₀ :: suite) th) (hdb1:(c1 == ("__debug__":Str))=false:=by decide) (hdb2:(c2 == ("__debug__":Str))=false:=by decide) :
  PS X (.Try [st] [.ExceptHandler (some (.Tuple [.Name c1 np,.Name c2 np2] x1 tpos)) none (b₀ :: suite) hpos] [] [] pos) (KK X.K tb C1 C2 th):=by
 intro pins s σ H D I h
 refine wpAny_Try_except (wpAny_execs_cons (wpAny_mono (hb pins s σ H D _ I h) (fun f s1 q=>?_) fun ev s1 q=>?_))
 ·cases f with
  | next=>exact wpAny_execs_nil (wpAny_execs_nil q)
  | ret v=>exact q
  | brk=>exact q
  | cont=>exact q
 obtain ⟨e,cls,σ1,s0,H0,H1,rfl,I0,I1,xf,C,rfl,hx,hth⟩:=q
 obtain ⟨oe,vs,a0,T,oT,ts,h1,h2,h3,h4,h5,h6,h7,h8,h9,h10,h11,h12⟩:=xf
 have fr:s1.heap.FunFrames (W.hideAll s1.heap (frs X.stack ++ [e,T])) (X.env :: X.outer):=by
  have q:=W.funFrames_hide (as:=frs X.stack ++ [e,T]) I1.stack fun env he a ha=>List.mem_append_left _ (List.mem_filterMap.mpr ⟨env,he,ha⟩)
  rw [hst.1] at q ⊢
  exact q
 have two:∀ b∈[e,T],s0.heap.get? b=none∧H1 b=none:=fun b z=>by
  have z':b=e∨b=T:=by simpa using z
  rcases z' with rfl | rfl
  ·exact ⟨h9,h11⟩
  ·exact ⟨h10,h12⟩
 have hcs:∀ b∈[e,T],H1 b=none∧X.s₀.heap.get? b=none:=fun b z=>⟨(two b z).2,jM (I0.there0 hex) (two b z).1⟩
 have hcp:∀ b∈[e,T],∀ p∈X.pn ++ pins,p.1≠b:=fun b z p hp q=>by
  have:=(I0.pin p hp).1
  rw [q,(two b z).1] at this;cases this
 refine wpAny_looks_onW (base:=W.hideAll s1.heap (frs X.stack ++ [e,T])) (a0:=a0) (cls:=.ref C) (by rw [I1.ok.frames,hst.1]) hst.2
  ⟨fun b o q=>W.of_hideAll _ q,W.hideAll_none _ (List.mem_append_right _ (by simp)),fr,oe,vs,T,oT,ts,h1,h2,h3,h4,W.hideAll_none _ (List.mem_append_right _ (by simp)),h5,h6,h7,h8⟩ fun g4 held4 sm4=>?_
 refine wpAny_landsW held4 fun g5 fly5 sm5=>?_
 have hB:∀ {g:Heap},(W.hideAll s1.heap (frs X.stack ++ [e,T])).StaysIn g→∀ b o,s1.heap.get? b=some o→b ∉ frs X.stack→b ∉ [e,T]→g.get? b=some o :=
  fun {g} k b o q n1 n2=>k b o (W.hideAll_get _ q fun z=>(List.mem_append.mp z).elim n1 n2)
 have I5:Inv X pins σ1 H1 { s1 with heap:=g5 }:=I1.land hex hcs hcp (hB fly5.1) (sm4.trans sm5)
 refine wpAny_handleBy_cons (codeAny_handlers_test ?_) (by intro q;cases q)
 refine wpAny_Tuple_spliced (Calls.spliced_cons (vD (X:=X.sub e) (I5.toSub (e:=e)) hg1 hm1 (Calls.spliced_cons (vD (X:=X.sub e) (I5.toSub (e:=e)) hg2 hm2 (Calls.spliced_nil ⟨(by show 2≤sizeLine;decide),?_⟩) hdb2)) hdb1))
 have fly6:=zay fly5 { cls:=.type "tuple",data:=.seq [Value.ref C1,Value.ref C2].toArray }
 have kp:∀ b o,g5.get? b=some o→(g5.push { cls:=.type "tuple",data:=.seq [Value.ref C1,Value.ref C2].toArray }).get? b=some o:=fun b o q=>Heap.get?_push_of_some _ q
 have hp:(g5.push { cls:=.type "tuple",data:=.seq [Value.ref C1,Value.ref C2].toArray }).get? g5.objs.size=some { cls:=.type "tuple",data:=.seq [Value.ref C1,Value.ref C2].toArray }:=Heap.get?_push_size _ rfl
 have K6:X.K.In (g5.push { cls:=.type "tuple",data:=.seq [Value.ref C1,Value.ref C2].toArray }):=(I5.kept (t':=s1.toks) kp).kIn
 have ty6:W.Looks (model X.prog X.w) (g5.push { cls:=.type "tuple",data:=.seq [Value.ref C1,Value.ref C2].toArray }) (typeOf (.ref e)) (.ref C):=by
  obtain ⟨o,p1,p2⟩:=fly6.there
  exact p2 ▸ (W.Looks.ld p1).andThen .now
 refine (W.exm_tup2 K6 ty6 hp hx).here ?_
 refine codeAny_handlers_suite (lands_againW fly6 fun g7 fly7 sm7=>?_)
 have I7:Inv X pins σ1 H1 { s1 with heap:=g7 }:=I1.land hex hcs hcp (hB fly7.1) (((sm4.trans sm5).trans (Heap.UpToSlots.of_keeps kp)).trans sm7)
 refine wpAny_mono (hs e pins _ σ1 H1 D I7.toSub hth) (fun f s9 q=>?_) fun _ _ z=>False.elim z
 cases f with
 | next=>obtain ⟨σ9,H9,J,z⟩:=q;exact ⟨σ9,H9,Inv.ofSub (J:=I) J,z⟩
 | brk=>obtain ⟨σ9,H9,J,z⟩:=q;exact ⟨σ9,H9,Inv.ofSub (J:=I) J,z⟩
 | cont=>obtain ⟨σ9,H9,J,z⟩:=q;exact ⟨σ9,H9,Inv.ofSub (J:=I) J,z⟩
 | ret u=>obtain ⟨v,σ9,H9,J,r,z⟩:=q;exact ⟨v,σ9,H9,Inv.ofSub (J:=I) J,r,z⟩
end
section
variable {X:Cx} {CX:CXT} {k:Nat} {f C:Addr} {fd:FuncData} {ps:List Str} {sp:Sp} {dvs:List V} {E:XK} {m:Str} {pos apos:Pos} {o:Expr} {ta:TE}
end
end L2
namespace L2
open PySem PySem.Spec PyProof.Rows
abbrev zeS:R2:=fun x y H Q=>∃ a b p r,x=.ref a∧y=.ref b∧H a=some (.tup [.str p.1,.int p.2])∧H b=some (.tup [.str r.1,.int r.2])∧Q (.bl (z4 p r)) H
section
variable {X:Cx}
open PySem.SeqAt
open PySem.AutoSeq1 (wpAny_loadPart')
open PySem.MeetsSeq PySem.MeetsSeq2 PySem.MeetsSeq3
end
end L2
namespace L2
open PySem PySem.Spec PyProof.Rows
def zd3 (C:Addr):TE:=fun _ H Q=>∀ x dx,H x=none→H dx=none→dx≠x→Q (.ref x) (upd (upd H dx (.own x)) x (.ins C dx []))
section
variable {X:Cx} {C:Addr} {x:Str} {p pos:Pos}
end
def zd4 (L:List (Addr × Sp)) (m:Str) (E:XK) (ta:TE) (t:TA):TE:=fun σ H Q=>ta σ H fun x H1=>∃ a dx fs C sp,x=.ref a∧H1 a=some (.ins C dx fs)∧fs.lookup m=none∧(C,sp)∈L∧t σ H1 fun vs H2=>sp (x :: vs) H2 Q E
section
variable {X:Cx} {CX:CXT} {E:XK} {m:Str} {pos apos:Pos} {e o:Expr} {es:List Expr} {ta:TE} {t:TA} {L:List (Addr × Sp)} {C:Addr} {sp:Sp}
end
structure zd5 (K:W.Frag) (C:Addr):Prop where
 cl:Cls K C
 ha:W.findIn K (.ref C) "__class__"=some (some (.builtin "object.__class__"))
 hn:W.specialIn K (.builtin "object.__class__") "__get__"=some (some (.builtin "getset_descriptor.__get__"))
 tk:W.takesIn K (.builtin "object.__class__")=some true
 hm:W.mroIn K C (.type "object")=some true
abbrev zeT (K:W.Frag):RC:=fun xs H Q=>∃ a C dx fs D b,xs=[.ref a,.ref D]∧H a=some (.ins C dx fs)∧zd5 K C∧W.kitOne K (.ref C) (.ref D)=some b∧Q (.bl b) H
section
variable {X:Cx}
end
end L2
namespace L2
open PySem PySem.Spec PyProof.Rows
abbrev zeU (K:W.Frag):RC:=fun xs H Q=>∃ (a:Addr) (bs:List Bool),xs=[.ref a]∧SqL K H a (bs.map V.bl)∧Q (.bl (bs.any id)) H
section
variable {X:Cx}
end
def zet (te ts:TE):TE:=fun σ H Q=>te σ H fun x H1=>ts σ H1 fun k H2=>∃ z y,x=.str z∧k=.int (-1)∧z.length≤sizeLine∧(∀ u,Txt.sliceBy z none none (-1,u)=y)∧Q (.str y) H2
section
variable {X:Cx} {e st:Expr} {p2 pos:Pos} {te ts:TE}
end
section
variable {P:Program} {w:World} {A:Around} {E:Value→Shared→Prop} {s:Shared}
end
def zeu (K:W.Frag) (ta:TA):TE:=fun σ H Q=>ta σ H fun vs H1=>∃ a xs,vs=[.ref a]∧SqL K H1 a xs∧∀ l,H1 l=none→Q (.ref l) (upd H1 l (.lst xs.reverse))
section
variable {X:Cx} {a:Expr} {ta:TA} {p p2 pos pos2:Pos}
end
end L2
namespace L2
open PySem PySem.Spec PyProof.Rows
abbrev zev:RC:=fun vs H Q=>∃ a kvs,vs=[.ref a]∧H a=some (.dK kvs)∧Q (.int (kvs.length:Nat)) H
section
variable {X:Cx}
end
end L2
namespace L2
open PySem PySem.Spec PyProof.Rows
section
variable {X:Cx} {CX:CXT} {k:Nat} {f C:Addr} {fd:FuncData} {ps:List Str} {sp:Sp} {dvs:List V} {E:XK} {x:Str} {p pos:Pos} {e:Expr} {es:List Expr} {t:TA}
end
section
variable {X:Cx} {e:Expr} {te:TE} {a:Str} {j:Nat} {p1 p2 p3:Pos}
end
section
variable {X:Cx} {st b₀:Stmt} {suite:List Stmt} {tb:EXK→TS} {th1:TS} {c1:Str} {C1:Addr} {np hpos pos:Pos}
end
end L2
namespace L2
open PySem PySem.Spec PyProof.Rows
section
variable {X:Cx} {tg:Expr}
def zeV (K:W.Frag) (tl:TE):TI:=fun σ H R=>tl σ H fun x H1=>∃ a,x=.ref a∧(((∃ xs,SqL K H1 a xs)∧R (Itl K a) H1)∨((∃ xs,SqT K H1 a xs)∧R (Itt K a) H1))
end
end L2
namespace HT
open PySem PySem.Spec PyProof.Rows
section
variable {prog:Program} {w:World} {A:Around} {E:Value→Shared→Prop} {s:Shared}
end
end HT
namespace L2
open PySem PySem.Spec PyProof.Rows
section
variable {X:Cx}
def zew (K:W.Frag):V→Option Int→Option Int→Hp→VK→Prop:=fun x lo hi H Q=>∃ a xs,x=.ref a∧SqT K H a xs ∧
 ((HT.sIx xs.length 0 lo=0∧HT.sIx xs.length xs.length hi=xs.length)→Q (.ref a) H)∧(¬ (HT.sIx xs.length 0 lo=0∧HT.sIx xs.length xs.length hi=xs.length)→∀ p,H p=none→Q (.ref p) (upd H p (.tup (Z7 xs lo hi))))
end
end L2
namespace L2
open PySem PySem.Spec PyProof.Rows
def zd6 (K:W.Frag) (te ts:TE):TE:=fun σ H Q=>te σ H fun x H1=>ts σ H1 fun k H2=>∃ a xs,x=.ref a∧k=.int (-1)∧SqL K H2 a xs∧∀ p,H2 p=none→Q (.ref p) (upd H2 p (.lst xs.reverse))
section
variable {X:Cx} {e st:Expr} {p2 pos:Pos} {te ts:TE}
end
end L2
namespace L2
open PySem
section
variable {P:Program} {w:World} {A:Around} {E:Value→Shared→Prop} {s:Shared}
theorem Qt {it d:Addr} {i ep:Nat} {es:Array DictEntry} {e:DictEntry} {ok ov:Value} {Q:Option Value→Shared→Prop} (hit:ItA s.heap it d i es.size ep .none false ok ov) (hm:RawD s.heap d es ep) (hx:es[i]?=some e)
  (q:∀ h',IsItemIterOut h' it d (i + 1) es.size ep e.key e.val s.heap.objs.size→h'.get? s.heap.objs.size=some { cls:=.type "tuple",data:=.seq #[e.key,e.val] }→h'.objs.size=s.heap.objs.size + 1 →
   (∀ b o,b≠it→s.heap.get? b=some o→h'.get? b=some o)→Q (some (.ref s.heap.objs.size)) { s with heap:=h' }):wpAny (model P w) A (pyNext (.ref it)) Q E s:=by
 obtain ⟨hp,g,dr,tk,os⟩:=s;obtain ⟨od,hod,hcd,hdd⟩:=id hm
 have T:Shared.TypeIs ⟨hp,g,dr,tk,os⟩ (.ref it) "dict_itemiterator":=⟨_,hit,rfl⟩
 unfold pyNext;refine wpAny_bind (wpAny_attempt (wpAny_callSpecial?_slot (name:=Str.ofString "__next__") T F.slot_dict_itemiterator_next (wpAny_call_entry F.slot_dict_itemiterator_next T F.entry_dict_itemiterator_next ?_ (F.args_dict_itemiterator_next_1 _))))
 refine wpAny_bind (wpAny_pure ?_);refine wpAny_bind ?_;refine wpAny_bind ?_
 first | (refine wpAny_bind (wpAny_typeNameOfWhole_itemiter T (wpAny_pure ?_))) | (refine wpAny_bind (wpAny_typeNameOf_itemiter T (wpAny_pure ?_)))
 refine wpAny_bind (wpAny_fieldsOf hit rfl ?_);have own:Builtin.Dict_items.ownsTuple "dict_itemiterator"=true:=by decide
 simp only [own,if_true];show wpAny _ _ (if (Value.ref d == Value.none)=true then _ else _) _ _ _
 rw [if_neg (show ¬ ((Value.ref d == Value.none)=true) from Bool.false_ne_true)];refine wpAny_bind (wpAny_pure ?_);refine wpAny_bind (wpAny_dictEntries hod hdd ?_)
 rw [if_neg (by simp)];refine wpAny_bind (wpAny_pure ?_);refine wpAny_bind (wpAny_dictEpoch hod hdd ?_);rw [if_neg (by simp)];refine wpAny_pure ?_
 simp only [show ¬ ((i:Int) < 0) from by lia,if_false,Int.toNat_natCast,hx];refine wpAny_bind ?_
 first | (refine wpAny_bind (wpAny_typeNameOfWhole_itemiter T (wpAny_pure ?_))) | (refine wpAny_bind (wpAny_typeNameOf_itemiter T (wpAny_pure ?_)))
 refine wpAny_bind (wpAny_isOneOf_itemiter T ?_);show wpAny _ _ (setField (.ref it) 3 (rawInt ((i:Int) + 1)) >>= _) _ _ ⟨hp,g,dr,tk,os⟩
 refine wpAny_bind (wpAny_setField_rec hit (by simp) fun h₁ e1 s1=>?_)
 replace s1:Heap.SameBut it hp h₁:=s1
 replace e1:ItA h₁ it d (i + 1) es.size ep .none false ok ov:=by
  have z:((i + 1:Nat):Int)=(i:Int) + 1:=by lia
  unfold ItA;rw [z];simpa [rawInt] using e1
 have T1:Shared.TypeIs ⟨h₁,g,dr,tk,os⟩ (.ref it) "dict_itemiterator":=⟨_,e1,rfl⟩
 refine wpAny_bind (wpAny_holding ?_);refine wpAny_bind (wpAny_isOneOf_itemiter T1 ?_);refine wpAny_bind (wpAny_isOneOf_itemiter T1 ?_)
 show wpAny _ _ (Builtin.Dict_items.pairFromOwner (.ref it) 6 e.key e.val) _ _ ⟨h₁,g,dr,tk,os⟩
 unfold Builtin.Dict_items.pairFromOwner;refine wpAny_bind (wpAny_newTuple ?_)
 have e2:ItA (h₁.push { cls:=.type "tuple",data:=.seq #[e.key,e.val] }) it d (i + 1) es.size ep .none false ok ov:=Heap.get?_push_of_some _ e1
 generalize hg:h₁.push { cls:=.type "tuple",data:=.seq #[e.key,e.val] }=h₂ at e2
 have z1:h₁.objs.size=hp.objs.size:=s1.1;have il:it < hp.objs.size:=Heap.lt_size hit
 have t2:h₂.get? hp.objs.size=some { cls:=.type "tuple",data:=.seq #[e.key,e.val] }:=by rw [← hg,← z1];exact Heap.get?_push_size _ rfl
 have z2:h₂.objs.size=hp.objs.size + 1:=by rw [← hg,Heap.size_push,z1]
 have k2:∀ b o,b≠it→hp.get? b=some o→h₂.get? b=some o:=fun b o hb z=>by rw [← hg];exact Heap.get?_push_of_some _ (s1.extBut b o hb z)
 show wpAny _ _ (Builtin.Dict_items.ownedTupleIsFree (.ref it) >>= _) _ _ ⟨h₂,g,dr,tk,os⟩;rw [z1]
 clear hg e1 s1 T1 z1 h₁;refine wpAny_bind ?_;unfold Builtin.Dict_items.ownedTupleIsFree
 refine wpAny_bind (wpAny_field e2 rfl (x:=.none) rfl (wpAny_pure ?_));simp only [if_true]
 refine wpAny_bind (wpAny_field e2 rfl (x:=ok) rfl ?_);refine wpAny_bind (wpAny_field e2 rfl (x:=ov) rfl ?_)
 refine wpAny_bind (wpAny_setField_rec e2 (by simp) fun h₃ e3 s3=>?_);replace s3:Heap.SameBut it h₂ h₃:=s3;replace e3:ItA h₃ it d (i + 1) es.size ep .none false e.key ov:=e3
 refine wpAny_bind (wpAny_setField_rec e3 (by simp) fun h₄ e4 s4=>?_);replace s4:Heap.SameBut it h₃ h₄:=s4;replace e4:ItA h₄ it d (i + 1) es.size ep .none false e.key e.val:=e4
 refine wpAny_bind (wpAny_setField_rec e4 (by simp) fun h₅ e5 s5=>?_);replace s5:Heap.SameBut it h₄ h₅:=s5;replace e5:ItA h₅ it d (i + 1) es.size ep (rawInt (hp.objs.size:Nat)) false e.key e.val:=e5
 refine wpAny_bind (wpAny_setField_rec e5 (by simp) fun h₆ e6 s6=>?_);replace s6:Heap.SameBut it h₅ h₆:=s6;replace e6:ItA h₆ it d (i + 1) es.size ep (rawInt (hp.objs.size:Nat)) false e.key e.val:=e6
 have k6:∀ b o,b≠it→h₂.get? b=some o→h₆.get? b=some o:=fun b o hb z=>s6.extBut b o hb (s5.extBut b o hb (s4.extBut b o hb (s3.extBut b o hb z)))
 have t6:=k6 _ _ (Nat.ne_of_gt il) t2
 refine wpAny_bind (wpAny_letGo (wpAny_pure (wpAny_pure ⟨_,rfl,wpAny_pure (q h₆ e6 t6 ?_ (fun b o hb z=>k6 b o hb (k2 b o hb z)))⟩)))
 show h₆.objs.size=hp.objs.size + 1;rw [s6.1,s5.1,s4.1,s3.1,z2]
theorem Y4:entryFor table "dict_itemiterator.__iter__"=some Builtin.«dict_keyiterator.__iter__» :=
 entryFor_alias (id':="dict_keyiterator.__iter__") (by kernel_rfl) rfl (by decide +kernel) (by kernel_rfl)
theorem JU {it d:Addr} {i n ep:Nat} {ok ov:Value} {Q:Value→Shared→Prop} (hit:IsItemIter s.heap it d i n ep ok ov) (h:Q (.ref it) s):wpAny (model P w) A (pyIter (.ref it)) Q E s:=by
 have T:s.TypeIs (.ref it) "dict_itemiterator":=⟨_,hit,rfl⟩
 refine wpAny_pyIter_slot T F.slot_dict_itemiterator_iter (wpAny_call_entry F.slot_dict_itemiterator_iter T Y4 ?_ (F.args_dict_itemiterator_iter_1 _))
 show wpAny _ _ (ret (.ref it)) _ _ s
 exact wpAny_pure ⟨_,rfl,"dict_itemiterator",_,T,F.slot_dict_itemiterator_next.lookup,h⟩
end
end L2
namespace L2
open PySem PySem.Spec PyProof.Rows
def Itm (a:Addr) (o:Obj) (kvs:List (List Key × V)):It :=
 ⟨fun i H=>H a=some (.frz o (.dT kvs))∧i < kvs.length,fun i H x H'=>∃ T k v p,kvs[i]?=some (k,v)∧x=.ref T∧H T=none∧H p=some (.tup (k.map kV))∧H'=upd H T (.tup [.ref p,v]),fun i H=>H a=some (.frz o (.dT kvs))∧kvs.length≤i⟩
section
variable {X:Cx}
theorem Y5 {pins:List (Addr × Obj)} {σ:St} {H:Hp} {s:Shared} {a:Addr} {o:Obj} {kvs:List (List Key × V)} (I:Inv X pins σ H s) (ha:H a=some (.frz o (.dT kvs))) :
  (a == sysModules)=false∧∃ (es:Array DictEntry) (ep:Nat),o.data=.dict es ep∧RawD s.heap a es ep∧es.size=kvs.length∧∀ (i:Nat) (e:DictEntry),es[i]?=some e→∃ (k:List Key) (v:V) (p:Addr),kvs[i]?=some (k,v)∧e.key=Value.ref p∧H p=some (.tup (k.map kV))∧RelV v e.val:=by
 obtain ⟨hg,hz,lo,xs,rel,o',es,ep,ho,hx,hd,he,hn⟩:=(show ObjOk X.prog X.w H s.heap a (.frz o (.dT kvs)) from I.hok a _ ha)
 rw [hg] at ho
 cases ho
 have lx:kvs.length=xs.length:=Paired.length rel
 have les:es.size=xs.length:=by rw [← Array.length_toList,he,List.length_map]
 refine ⟨lo,es,ep,hd,⟨o,hg,hx,hd⟩,by lia,fun i e hi=>?_⟩
 have e2:es.toList[i]?=some e:=by rw [Array.getElem?_toList];exact hi
 rw [he,List.getElem?_map] at e2
 obtain ⟨x,hxx,ex⟩:=Option.map_eq_some_iff.mp e2
 have hl:=(List.getElem?_eq_some_iff.mp hxx).1
 have hk:kvs[i]?=some kvs[i]:=List.getElem?_eq_getElem (by lia)
 have rl:=yp rel hk hxx
 refine ⟨kvs[i].1,kvs[i].2,x.2.1,hk,by rw [← ex];rfl,rl.2.1,by rw [← ex];exact rl.2.2⟩
theorem JV {P:Program} {w:World} {K:W.Frag} {elts:List Expr} {x1} {pos:Pos} {a it:Addr} {o:Obj} {kvs:List (List Key × V)} {es:Array DictEntry} {ep:Nat} (hd:o.data=.dict es ep) :
  Qa P w K (.Tuple elts x1 pos) (Itm a o kvs) [it] it (fun i h=>∃ ok ov,IsItemIter h it a i es.size ep ok ov) where
 mem:=by simp
 obj:=fun i h st b hb=>by
  have e:b=it:=by simpa using hb
  subst e
  obtain ⟨ok,ov,st⟩:=st
  exact ⟨_,st,fun v z=>by cases z⟩
 keep:=fun i h h' ⟨ok,ov,st⟩ k=>⟨ok,ov,k it (by simp) _ st⟩
 item:=by
  intro X hP hw hK hc i pins s σ H E I hf st hg
  subst hP hw hK
  obtain ⟨ha,hi⟩:=hg
  obtain ⟨lo,es',ep',hd',raw,hs,key⟩:=Y5 I ha
  rw [hd] at hd'
  cases hd'
  obtain ⟨ok,ov,st⟩:=st
  have hx:es[i]?=some es[i]:=Array.getElem?_eq_getElem (by lia)
  obtain ⟨k,v,p,hk,ek,hp,rv⟩:=key i _ hx
  refine Qt st raw hx fun h e8 t8 sz k8=>?_
  have I6:Inv X pins σ (upd H s.heap.objs.size (.tup [.ref p,v])) { s with heap:=s.heap.push { cls:=.type "tuple",data:=.seq #[es[i].key,es[i].val] } } :=
   I.laid (a:=s.heap.objs.size) (o:=.tup [.ref p,v]) (t':=s.toks) (fun b u e=>Heap.get?_push_of_some _ e) (Nat.le_refl _) ⟨by show 2≤sizeLine;decide,[es[i].key,es[i].val],.cons (by rw [ek];rfl) (.cons rv .nil),⟨_,Heap.get?_push_size _ rfl,rfl,_,rfl⟩⟩
  have old:∀ c∈[it],c≠s.heap.objs.size:=fun c hc=>by
   rw [List.mem_singleton.mp hc];exact Nat.ne_of_lt (Heap.lt_size st)
  have free:∀ c∈[it],upd H s.heap.objs.size (HO.tup [.ref p,v]) c=none:=fun c hc=>by rw [zk (old c hc)];exact (hf c hc).1
  have fz:∀ c∈[it],kL X pins (upd H s.heap.objs.size (HO.tup [.ref p,v])) c:=fun c hc=>⟨free c hc,(hf c hc).2⟩
  refine ⟨.ref s.heap.objs.size,rfl,wpAny_letOwnedTupleGo_items e8 fun h2 z9 sb2=>?_⟩
  have up:∀ c o,c≠it→h.get? c=some o→h2.get? c=some o:=fun c o hc e=>by
   rw [show h2.get? c=h.get? c from sb2.2 c hc];exact e
  have I7:Inv X pins σ (upd H s.heap.objs.size (.tup [.ref p,v])) { s with heap:=h2 }:=I6.turnedL (s:={ s with heap:=s.heap.push { cls:=.type "tuple",data:=.seq #[es[i].key,es[i].val] } }) (t':=s.toks) (ch:=[it]) (fun c o hc e=>by
   have hc:c≠it:=fun z=>hc (List.mem_singleton.mpr z)
   refine up c o hc ?_
   rcases Heap.get?_push_cases (show (s.heap.push { cls:=.type "tuple",data:=.seq #[es[i].key,es[i].val] }).get? c=some o from e) with ⟨rfl,rfl⟩ | e
   ·exact t8
   ·exact k8 c o hc e) fun c hc=>fz c hc
  exact ⟨.ref s.heap.objs.size,_,I7,rfl,⟨_,k,v,p,hk,rfl,I.hok.fresh (Nat.le_refl _),hp,rfl⟩,⟨_,_,z9⟩,free⟩
 done:=by
  intro X hP hw hK hc i pins s σ H E I hf st hg
  subst hP hw hK
  obtain ⟨ha,hi⟩:=hg
  obtain ⟨lo,es',ep',hd',raw,hs,key⟩:=Y5 I ha
  rw [hd] at hd'
  cases hd'
  obtain ⟨ok,ov,st⟩:=st
  obtain ⟨f0,f1,f2,f3,f4,f5⟩:=hf it (by simp)
  exact KB (I.ok.hd hc) st raw (by lia) fun h' eb=>⟨rfl,I.turned (t':=s.toks) (fun b o hb e=>eb b o hb e) f0 f1 f3 f4 f5⟩
 self:=fun _ _ _ _ _ st h=>by
  obtain ⟨ok,ov,st⟩:=st
  exact JU st h
def zaz (td:TE):TI:=fun σ H R=>td σ H fun x H1=>∃ a o kvs,x=.ref a∧H1 a=some (.frz o (.dT kvs))∧R (Itm a o kvs) H1
theorem zaA {elts:List Expr} {x1} {tp:Pos} {o:Expr} {apos cpos:Pos} {td:TE} (ho:PE X o td) (hbase:attributeBase o "items" X.env (eval o X.env)=eval o X.env:=by rfl) (hline:(apos.endLine == cpos.line)=true:=by rfl):PI X (.Tuple elts x1 tp) (.Call (.Attribute o "items" apos) [] [] cpos) (zaz td):=by
 intro pins s σ H R I h
 refine wpAny_Call_method0_late hbase hline (thn (ho pins s σ H _ I h) fun v s1 ⟨x,H1,I1,r1,d,ob,kvs,ex,hd,q1⟩=>?_)
 subst ex
 obtain rfl:v=Value.ref d:=r1
 obtain ⟨lo,es,ep,hdd,raw,hs,key⟩:=Y5 I1 hd
 obtain ⟨t1,t2,t3⟩:=JG I1 (.inr ⟨kvs,.inr ⟨ob,hd⟩⟩)
 refine ⟨"dict","dict.items",PySem.F.plainAttrs_dict,PySem.F.slot_dict_items,PySem.F.type_dict_items,t1,t2,Calls.callWith_builtin rfl (PySem.evalArgs_none ?_)⟩
 refine wpAny_call_entry PySem.F.slot_dict_items t1 PySem.F.entry_dict_items ?_ (PySem.F.args_dict_items_1 _)
 unfold Builtin.«dict.items»;refine wpAny_bind ?_;unfold Builtin.Dict.noArgs;refine wpAny_bind (wpAny_notOrdered_dict t1 ?_)
 show wpAny _ _ (pure d) _ _ s1;refine wpAny_pure ?_
 show wpAny _ _ (Builtin.Dict.showsAll d >>= _) _ _ s1;unfold Builtin.Dict.showsAll
 rw [if_neg (by rw [t3];exact Bool.false_ne_true)];refine wpAny_bind (wpAny_pure ?_)
 refine wpAny_bind (wpAny_newObj_type (wpAny_pure ⟨_,rfl,?_⟩))
 have at0:(s1.heap.push { cls:=.type "dict_items",data:=.fields #[.ref d] }).get? s1.heap.objs.size=some { cls:=.type "dict_items",data:=.fields #[.ref d] }:=Heap.get?_push_size _ rfl
 have I2:Inv X pins σ H1 { s1 with heap:=s1.heap.push { cls:=.type "dict_items",data:=.fields #[.ref d] } }:=I1.kept (t':=s1.toks) fun b u e=>Heap.get?_push_of_some _ e
 have raw2:RawD (s1.heap.push { cls:=.type "dict_items",data:=.fields #[.ref d] }) d es ep:=raw.at fun o e=>Heap.get?_push_of_some _ e
 refine VM (s:={ s1 with heap:=s1.heap.push { cls:=.type "dict_items",data:=.fields #[.ref d] } }) ⟨_,at0,rfl,rfl⟩ raw2 ?_
 generalize hg:(s1.heap.push { cls:=.type "dict_items",data:=.fields #[.ref d] }:Heap)=h2 at *
 refine ⟨h2.objs.size,[h2.objs.size],_,_,H1,rfl,I2.kept (s:={ s1 with heap:=h2 }) (t':=s1.toks) fun b o e=>Heap.get?_push_of_some _ e,JV hdd,⟨.none,.none,Heap.get?_push_size _ rfl⟩,fun b hb=>?_,q1⟩
 have e:b=h2.objs.size:=by simpa using hb
 subst e
 exact I2.fpOk (Nat.le_refl _) (I2.hok.fresh (Nat.le_refl _))
end
end L2
namespace K29
open PySem L2
theorem jqa {α:Type} {a:α} {l m:List α}:a :: l ++ m=a :: (l ++ m):=rfl
theorem jqb {α:Type} (l:List α):[] ++ l=l:=rfl
theorem jqc {α:Type} (l:List α):l ++ []=l:=List.append_nil l
theorem jqd {α:Type} {a:α} {l:List α}:(a :: l)[0]?=some a:=rfl
theorem jqe {α:Type} {a:α} {l:List α} {i:Nat}:(a :: l)[i + 1]?=l[i]?:=rfl
theorem jqf {α:Type} (a b:α):(some a=some b)=(a=b):=Option.some.injEq a b
theorem jqg {α:Sort _} {p:α→Prop} {a:α}:(∃ x,a=x∧p x)↔p a:=exists_eq_left'
theorem jqh {α:Sort _} {p:α→Prop} {a:α}:(∃ x,x=a∧p x)↔p a:=exists_eq_left
theorem jqi (a b:Int):(V.int a=V.int b)=(a=b):=V.int.injEq a b
theorem jqj (a b:Addr):(V.ref a=V.ref b)=(a=b):=V.ref.injEq a b
theorem jqk (a b:Str):(V.str a=V.str b)=(a=b):=V.str.injEq a b
theorem jql (a b:Bool):(V.bl a=V.bl b)=(a=b):=V.bl.injEq a b
theorem jqm (a b:String):(V.ty a=V.ty b)=(a=b):=V.ty.injEq a b
theorem jqn {α:Type} (a:α) (l:List α) (b:α) (m:List α):(a :: l=b :: m)=(a=b∧l=m):=List.cons.injEq a l b m
theorem jqo {α:Sort _} {p:α→Prop} {b:Prop}:(∃ x,b∧p x)↔b∧(∃ x,p x):=exists_and_left
theorem jqp {α:Type} {x:α} {l:List α} {a:α}:(x :: l).set 0 a=a :: l:=rfl
theorem jqq {α:Type} {x:α} {l:List α} {i:Nat} {a:α}:(x :: l).set (i + 1) a=x :: l.set i a:=rfl
theorem jqr {p:Prop} [Decidable p]:(decide p=true)=p:=decide_eq_true_eq
theorem jqs (b:Bool):((!b)=true)=(b=false):=Bool.not_eq_true' b
theorem jqt {p:Prop} {_:Decidable p}:decide p=false↔¬p:=decide_eq_false_iff_not
theorem jqu:(false=true)=False:=Bool.false_eq_true
def top (i:Nat):Stmt:=PySem.Challenge.pw_forerun_k29_whole_led_by_its_notes.main.body.getD i (.Pass ⟨0,0,0,0⟩)
abbrev xX:Stmt:=top 28
abbrev xc:Stmt:=top 29
abbrev yZ:Stmt:=top 27
abbrev xY:Stmt:=top 34
abbrev xn:Stmt:=top 30
abbrev xZ:Stmt:=top 31
abbrev wB:Stmt:=top 32
abbrev x0:Stmt:=top 33
abbrev xo:Stmt:=top 20
abbrev wC:Stmt:=top 19
abbrev vM:Stmt:=top 21
abbrev wD:Stmt:=xv (top 16) 0
abbrev wE:Stmt:=xv (top 16) 1
abbrev x6:Stmt:=xv (top 16) 4
abbrev vN:Stmt:=top 11
abbrev vO:Stmt:=top 12
abbrev wF:Stmt:=top 8
abbrev jQ:Stmt:=top 13
abbrev wG:Stmt:=top 14
abbrev y0:Stmt:=xv (top 16) 5
abbrev y6:Stmt:=xv (top 16) 6
abbrev wH:Stmt:=xv (top 16) 2
abbrev x8:Stmt:=xv (top 16) 9
abbrev wI:Stmt:=xv (top 16) 8
abbrev xE:Stmt:=xv (top 16) 7
abbrev wJ:Stmt:=xv (top 16) 3
abbrev jR:Stmt:=top 6
abbrev Wd:Stmt:=top 17
abbrev xF:Stmt:=top 37
abbrev yU:Stmt:=top 36
abbrev xp:Stmt:=top 38
abbrev yQ:Stmt:=top 39
abbrev xG:Stmt:=xv (top 23) 0
abbrev yF:Stmt:=xv (top 23) 1
abbrev xH:Stmt:=xv (top 23) 3
abbrev yi:Stmt:=xv (top 23) 2
abbrev xI:Stmt:=top 24
abbrev xU:Stmt:=top 5
abbrev qz:Stmt:=top 25
abbrev wK:Stmt:=top 40
abbrev xJ:Stmt:=top 35
abbrev We:Stmt:=top 41
theorem sc__law_draw:zC ["cell","j","far"] ["cell","j"] (zh xX):=⟨rfl,rfl,rfl,by decide +kernel,rfl,by decide +kernel,by decide +kernel⟩
theorem sc__law_names:zC ["cell","many","size","signs","stem","k","at","turn"] ["cell","many"] (zh xc):=⟨rfl,rfl,rfl,by decide +kernel,rfl,by decide +kernel,by decide +kernel⟩
theorem Ya:zC ["script","k"] ["script","k"] (zh yZ):=⟨rfl,rfl,rfl,by decide +kernel,rfl,by decide +kernel,by decide +kernel⟩
theorem sc__law_deep:zC ["rows","deep","row"] ["rows"] (zh xY):=⟨rfl,rfl,rfl,by decide +kernel,rfl,by decide +kernel,by decide +kernel⟩
theorem Y6:zC ["cell","j"] ["cell","j"] (zh xn):=⟨rfl,rfl,rfl,by decide +kernel,rfl,by decide +kernel,by decide +kernel⟩
theorem sc__law_term:zC ["cell","j","slots","slot","kind","words"] ["cell","j","slots"] (zh xZ):=⟨rfl,rfl,rfl,by decide +kernel,rfl,by decide +kernel,by decide +kernel⟩
theorem sc__law_row:zC ["cell","slots","shelves","kind","shelf","slot","spot"] ["cell","slots","shelves"] (zh wB):=⟨rfl,rfl,rfl,by decide +kernel,rfl,by decide +kernel,by decide +kernel⟩
theorem sc__law_rows:zC ["cells","slots","shelves","rows","block","cell","kind"] ["cells","slots","shelves"] (zh x0):=⟨rfl,rfl,rfl,by decide +kernel,rfl,by decide +kernel,by decide +kernel⟩
theorem sc_block_steps:zC ["row","at","steps","to","others"] ["row","at"] (zh xo):=⟨rfl,rfl,rfl,by decide +kernel,rfl,by decide +kernel,by decide +kernel⟩
theorem sc_steps_of:zC ["rows","first","steps","row"] ["rows","first"] (zh wC):=⟨rfl,rfl,rfl,by decide +kernel,rfl,by decide +kernel,by decide +kernel⟩
theorem JW:zC ["rows"] ["rows"] (zh vM):=⟨rfl,rfl,rfl,by decide +kernel,rfl,by decide +kernel,by decide +kernel⟩
theorem VW:zC ["self","code"] ["self","code"] (zh wD):=⟨rfl,rfl,rfl,by decide +kernel,rfl,by decide +kernel,by decide +kernel⟩
theorem VX:zC ["self"] ["self"] (zh wE):=⟨rfl,rfl,rfl,by decide +kernel,rfl,by decide +kernel,by decide +kernel⟩
theorem sc_Run_paper:zC ["self","notes"] ["self"] (zh x6):=⟨rfl,rfl,rfl,by decide +kernel,rfl,by decide +kernel,by decide +kernel⟩
theorem JX:zC ["word","first","second"] ["word","first","second"] (zh vN):=⟨rfl,rfl,rfl,by decide +kernel,rfl,by decide +kernel,by decide +kernel⟩
theorem JY:zC ["word","first","second"] ["word","first","second"] (zh vO):=⟨rfl,rfl,rfl,by decide +kernel,rfl,by decide +kernel,by decide +kernel⟩
theorem VY:zC ["thing"] ["thing"] (zh wF):=⟨rfl,rfl,rfl,by decide +kernel,rfl,by decide +kernel,by decide +kernel⟩
theorem sc_joined:zC ["word","first","second","worth"] ["word","first","second"] (zh jQ):=⟨rfl,rfl,rfl,by decide +kernel,rfl,by decide +kernel,by decide +kernel⟩
theorem sc_reckoned:zC ["term","slots","worths","part","second","first"] ["term","slots"] (zh wG):=⟨rfl,rfl,rfl,by decide +kernel,rfl,by decide +kernel,by decide +kernel⟩
theorem Yb:zC ["self","term"] ["self","term"] (zh y0):=⟨rfl,rfl,rfl,by decide +kernel,rfl,by decide +kernel,by decide +kernel⟩
theorem Yc:zC ["self","due"] ["self","due"] (zh y6):=⟨rfl,rfl,rfl,by decide +kernel,rfl,by decide +kernel,by decide +kernel⟩
theorem sc_Run_asks:zC ["self","place"] ["self"] (zh wH):=⟨rfl,rfl,rfl,by decide +kernel,rfl,by decide +kernel,by decide +kernel⟩
theorem WR:zC ["self","place","worth"] ["self","place","worth"] (zh x8):=⟨rfl,rfl,rfl,by decide +kernel,rfl,by decide +kernel,by decide +kernel⟩
theorem sc_Run_does:zC ["self","due","worth","place"] ["self","due","worth"] (zh wI):=⟨rfl,rfl,rfl,by decide +kernel,rfl,by decide +kernel,by decide +kernel⟩
theorem Xv:zC ["self","due","worth"] ["self","due","worth"] (zh xE):=⟨rfl,rfl,rfl,by decide +kernel,rfl,by decide +kernel,by decide +kernel⟩
theorem VZ:zC ["self","worth"] ["self","worth"] (zh wJ):=⟨rfl,rfl,rfl,by decide +kernel,rfl,by decide +kernel,by decide +kernel⟩
theorem Qu:zC ["table","place"] ["table","place"] (zh jR):=⟨rfl,rfl,rfl,by decide +kernel,rfl,by decide +kernel,by decide +kernel⟩
theorem sc_fed:zC ["code","table","run","place"] ["code","table"] (zh Wd):=⟨rfl,rfl,rfl,by decide +kernel,rfl,by decide +kernel,by decide +kernel⟩
theorem sc__law_other:zC ["cell","shelves","table","paper","worths","place","worth","k"] ["cell","shelves","table","paper"] (zh xF):=⟨rfl,rfl,rfl,by decide +kernel,rfl,by decide +kernel,by decide +kernel⟩
theorem Y7:zC ["worths"] ["worths"] (zh yU):=⟨rfl,rfl,rfl,by decide +kernel,rfl,by decide +kernel,by decide +kernel⟩
theorem sc__law_turned:zC ["worth","cell","other"] ["worth","cell"] (zh xp):=⟨rfl,rfl,rfl,by decide +kernel,rfl,by decide +kernel,by decide +kernel⟩
theorem ZM:zC ["paper"] ["paper"] (zh yQ):=⟨rfl,rfl,rfl,by decide +kernel,rfl,by decide +kernel,by decide +kernel⟩
theorem Xw:zC ["self","table"] ["self","table"] (zh xG):=⟨rfl,rfl,rfl,by decide +kernel,rfl,by decide +kernel,by decide +kernel⟩
theorem Zr:zC ["self","term"] ["self","term"] (zh yF):=⟨rfl,rfl,rfl,by decide +kernel,rfl,by decide +kernel,by decide +kernel⟩
theorem sc_Doing_does:zC ["self","row","place"] ["self","row"] (zh xH):=⟨rfl,rfl,rfl,by decide +kernel,rfl,by decide +kernel,by decide +kernel⟩
theorem sc_Doing_goes_through:zC ["self","rows","row"] ["self","rows"] (zh yi):=⟨rfl,rfl,rfl,by decide +kernel,rfl,by decide +kernel,by decide +kernel⟩
theorem Xx:zC ["why","table"] ["why","table"] (zh xI):=⟨rfl,rfl,rfl,by decide +kernel,rfl,by decide +kernel,by decide +kernel⟩
theorem sc_table_of:zC ["rows","worths"] ["rows"] (zh xU):=⟨rfl,rfl,rfl,by decide +kernel,rfl,by decide +kernel,by decide +kernel⟩
theorem sc_alone:zC ["rows","table","doing","came_through"] ["rows","table"] (zh qz):=⟨rfl,rfl,rfl,by decide +kernel,rfl,by decide +kernel,by decide +kernel⟩
theorem sc__law_led:zC ["rows","cell","shelves","table","code","paper","worths","second","at","place","worth","third","kept","turned"] ["rows","cell","shelves","table"] (zh wK):=⟨rfl,rfl,rfl,by decide +kernel,rfl,by decide +kernel,by decide +kernel⟩
theorem sc__law_table:zC ["cell","shelves","worths","k"] ["cell","shelves"] (zh xJ):=⟨rfl,rfl,rfl,by decide +kernel,rfl,by decide +kernel,by decide +kernel⟩
theorem sc_law:zC ["script","slots","shelves","many","cells","at","rows"] ["script"] (zh We):=⟨rfl,rfl,rfl,by decide +kernel,rfl,by decide +kernel,by decide +kernel⟩
set_option genSizeOf false in
set_option genInjectivity false in
structure Adr where
 a__law_draw:Addr
 d__law_draw:FuncData
 a__law_names:Addr
 d__law_names:FuncData
 a__law_cell_at:Addr
 d__law_cell_at:FuncData
 a__law_deep:Addr
 d__law_deep:FuncData
 a__law_number:Addr
 d__law_number:FuncData
 a__law_term:Addr
 d__law_term:FuncData
 a__law_row:Addr
 d__law_row:FuncData
 a__law_rows:Addr
 d__law_rows:FuncData
 a_block_steps:Addr
 d_block_steps:FuncData
 a_steps_of:Addr
 d_steps_of:FuncData
 a_code_of:Addr
 d_code_of:FuncData
 a_Run_init:Addr
 d_Run_init:FuncData
 a_Run_over:Addr
 d_Run_over:FuncData
 a_Run_paper:Addr
 d_Run_paper:FuncData
 a_divided:Addr
 d_divided:FuncData
 a_come_to:Addr
 d_come_to:FuncData
 a_is_worth:Addr
 d_is_worth:FuncData
 a_joined:Addr
 d_joined:FuncData
 a_reckoned:Addr
 d_reckoned:FuncData
 a_Run_worth_of:Addr
 d_Run_worth_of:FuncData
 a_Run_place_in:Addr
 d_Run_place_in:FuncData
 a_Run_asks:Addr
 d_Run_asks:FuncData
 a_Run_taken:Addr
 d_Run_taken:FuncData
 a_Run_does:Addr
 d_Run_does:FuncData
 a_Run_led_by:Addr
 d_Run_led_by:FuncData
 a_Run_step:Addr
 d_Run_step:FuncData
 a_stands:Addr
 d_stands:FuncData
 a_fed:Addr
 d_fed:FuncData
 a__law_other:Addr
 d__law_other:FuncData
 a__law_listed:Addr
 d__law_listed:FuncData
 a__law_turned:Addr
 d__law_turned:FuncData
 a__law_is_paper:Addr
 d__law_is_paper:FuncData
 a_Doing_init:Addr
 d_Doing_init:FuncData
 a_Doing_worth_of:Addr
 d_Doing_worth_of:FuncData
 a_Doing_does:Addr
 d_Doing_does:FuncData
 a_Doing_goes_through:Addr
 d_Doing_goes_through:FuncData
 a_broken_off:Addr
 d_broken_off:FuncData
 a_table_of:Addr
 d_table_of:FuncData
 a_alone:Addr
 d_alone:FuncData
 a__law_led:Addr
 d__law_led:FuncData
 a__law_table:Addr
 d__law_table:FuncData
 a_law:Addr
 d_law:FuncData
 c_JOINING:Addr
 c_Doing:Addr
 c_Great:Addr
 c_Nought:Addr
 c_Run:Addr
structure Txt (K:W.Frag) (mg:Str→Option Value) (t:Adr):Prop where
 f__law_draw:Fun K "_law_draw" "_law_draw" xX t.a__law_draw t.d__law_draw
 b__law_draw:Binds K t.d__law_draw ["cell","j"] []
 m__law_draw:mg "_law_draw"=some (.ref t.a__law_draw)
 f__law_names:Fun K "_law_names" "_law_names" xc t.a__law_names t.d__law_names
 b__law_names:Binds K t.d__law_names ["cell","many"] []
 m__law_names:mg "_law_names"=some (.ref t.a__law_names)
 f__law_cell_at:Fun K "_law_cell_at" "_law_cell_at" yZ t.a__law_cell_at t.d__law_cell_at
 b__law_cell_at:Binds K t.d__law_cell_at ["script","k"] []
 m__law_cell_at:mg "_law_cell_at"=some (.ref t.a__law_cell_at)
 f__law_deep:Fun K "_law_deep" "_law_deep" xY t.a__law_deep t.d__law_deep
 b__law_deep:Binds K t.d__law_deep ["rows"] []
 m__law_deep:mg "_law_deep"=some (.ref t.a__law_deep)
 f__law_number:Fun K "_law_number" "_law_number" xn t.a__law_number t.d__law_number
 b__law_number:Binds K t.d__law_number ["cell","j"] []
 m__law_number:mg "_law_number"=some (.ref t.a__law_number)
 f__law_term:Fun K "_law_term" "_law_term" xZ t.a__law_term t.d__law_term
 b__law_term:Binds K t.d__law_term ["cell","j","slots"] []
 m__law_term:mg "_law_term"=some (.ref t.a__law_term)
 f__law_row:Fun K "_law_row" "_law_row" wB t.a__law_row t.d__law_row
 b__law_row:Binds K t.d__law_row ["cell","slots","shelves"] []
 m__law_row:mg "_law_row"=some (.ref t.a__law_row)
 f__law_rows:Fun K "_law_rows" "_law_rows" x0 t.a__law_rows t.d__law_rows
 b__law_rows:Binds K t.d__law_rows ["cells","slots","shelves"] []
 m__law_rows:mg "_law_rows"=some (.ref t.a__law_rows)
 f_block_steps:Fun K "block_steps" "block_steps" xo t.a_block_steps t.d_block_steps
 b_block_steps:Binds K t.d_block_steps ["row","at"] []
 m_block_steps:mg "block_steps"=some (.ref t.a_block_steps)
 f_steps_of:Fun K "steps_of" "steps_of" wC t.a_steps_of t.d_steps_of
 b_steps_of:Binds K t.d_steps_of ["rows","first"] []
 m_steps_of:mg "steps_of"=some (.ref t.a_steps_of)
 f_code_of:Fun K "code_of" "code_of" vM t.a_code_of t.d_code_of
 b_code_of:Binds K t.d_code_of ["rows"] []
 m_code_of:mg "code_of"=some (.ref t.a_code_of)
 f_Run_init:Fun K "__init__" "Run.__init__" wD t.a_Run_init t.d_Run_init
 b_Run_init:Binds K t.d_Run_init ["self","code"] []
 f_Run_over:Fun K "over" "Run.over" wE t.a_Run_over t.d_Run_over
 b_Run_over:Binds K t.d_Run_over ["self"] []
 me_Run_over:qC K t.c_Run "over" t.a_Run_over
 f_Run_paper:Fun K "paper" "Run.paper" x6 t.a_Run_paper t.d_Run_paper
 b_Run_paper:Binds K t.d_Run_paper ["self"] []
 me_Run_paper:qC K t.c_Run "paper" t.a_Run_paper
 f_divided:Fun K "divided" "divided" vN t.a_divided t.d_divided
 b_divided:Binds K t.d_divided ["word","first","second"] []
 m_divided:mg "divided"=some (.ref t.a_divided)
 f_come_to:Fun K "come_to" "come_to" vO t.a_come_to t.d_come_to
 b_come_to:Binds K t.d_come_to ["word","first","second"] []
 m_come_to:mg "come_to"=some (.ref t.a_come_to)
 f_is_worth:Fun K "is_worth" "is_worth" wF t.a_is_worth t.d_is_worth
 b_is_worth:Binds K t.d_is_worth ["thing"] []
 m_is_worth:mg "is_worth"=some (.ref t.a_is_worth)
 f_joined:Fun K "joined" "joined" jQ t.a_joined t.d_joined
 b_joined:Binds K t.d_joined ["word","first","second"] []
 m_joined:mg "joined"=some (.ref t.a_joined)
 f_reckoned:Fun K "reckoned" "reckoned" wG t.a_reckoned t.d_reckoned
 b_reckoned:Binds K t.d_reckoned ["term","slots"] []
 m_reckoned:mg "reckoned"=some (.ref t.a_reckoned)
 f_Run_worth_of:Fun K "worth_of" "Run.worth_of" y0 t.a_Run_worth_of t.d_Run_worth_of
 b_Run_worth_of:Binds K t.d_Run_worth_of ["self","term"] []
 me_Run_worth_of:qC K t.c_Run "worth_of" t.a_Run_worth_of
 f_Run_place_in:Fun K "place_in" "Run.place_in" y6 t.a_Run_place_in t.d_Run_place_in
 b_Run_place_in:Binds K t.d_Run_place_in ["self","due"] []
 me_Run_place_in:qC K t.c_Run "place_in" t.a_Run_place_in
 f_Run_asks:Fun K "asks" "Run.asks" wH t.a_Run_asks t.d_Run_asks
 b_Run_asks:Binds K t.d_Run_asks ["self"] []
 me_Run_asks:qC K t.c_Run "asks" t.a_Run_asks
 f_Run_taken:Fun K "taken" "Run.taken" x8 t.a_Run_taken t.d_Run_taken
 b_Run_taken:Binds K t.d_Run_taken ["self","place","worth"] []
 me_Run_taken:qC K t.c_Run "taken" t.a_Run_taken
 f_Run_does:Fun K "does" "Run.does" wI t.a_Run_does t.d_Run_does
 b_Run_does:Binds K t.d_Run_does ["self","due","worth"] []
 me_Run_does:qC K t.c_Run "does" t.a_Run_does
 f_Run_led_by:Fun K "led_by" "Run.led_by" xE t.a_Run_led_by t.d_Run_led_by
 b_Run_led_by:Binds K t.d_Run_led_by ["self","due","worth"] []
 me_Run_led_by:qC K t.c_Run "led_by" t.a_Run_led_by
 f_Run_step:FunD K "step" "Run.step" wJ t.a_Run_step t.d_Run_step
 b_Run_step:Binds K t.d_Run_step ["self","worth"] []
 me_Run_step:qC K t.c_Run "step" t.a_Run_step
 f_stands:Fun K "stands" "stands" jR t.a_stands t.d_stands
 b_stands:Binds K t.d_stands ["table","place"] []
 m_stands:mg "stands"=some (.ref t.a_stands)
 f_fed:Fun K "fed" "fed" Wd t.a_fed t.d_fed
 b_fed:Binds K t.d_fed ["code","table"] []
 m_fed:mg "fed"=some (.ref t.a_fed)
 f__law_other:Fun K "_law_other" "_law_other" xF t.a__law_other t.d__law_other
 b__law_other:Binds K t.d__law_other ["cell","shelves","table","paper"] []
 m__law_other:mg "_law_other"=some (.ref t.a__law_other)
 f__law_listed:Fun K "_law_listed" "_law_listed" yU t.a__law_listed t.d__law_listed
 b__law_listed:Binds K t.d__law_listed ["worths"] []
 m__law_listed:mg "_law_listed"=some (.ref t.a__law_listed)
 f__law_turned:Fun K "_law_turned" "_law_turned" xp t.a__law_turned t.d__law_turned
 b__law_turned:Binds K t.d__law_turned ["worth","cell"] []
 m__law_turned:mg "_law_turned"=some (.ref t.a__law_turned)
 f__law_is_paper:Fun K "_law_is_paper" "_law_is_paper" yQ t.a__law_is_paper t.d__law_is_paper
 b__law_is_paper:Binds K t.d__law_is_paper ["paper"] []
 m__law_is_paper:mg "_law_is_paper"=some (.ref t.a__law_is_paper)
 f_Doing_init:Fun K "__init__" "Doing.__init__" xG t.a_Doing_init t.d_Doing_init
 b_Doing_init:Binds K t.d_Doing_init ["self","table"] []
 f_Doing_worth_of:Fun K "worth_of" "Doing.worth_of" yF t.a_Doing_worth_of t.d_Doing_worth_of
 b_Doing_worth_of:Binds K t.d_Doing_worth_of ["self","term"] []
 me_Doing_worth_of:qC K t.c_Doing "worth_of" t.a_Doing_worth_of
 f_Doing_does:Fun K "does" "Doing.does" xH t.a_Doing_does t.d_Doing_does
 b_Doing_does:Binds K t.d_Doing_does ["self","row"] []
 me_Doing_does:qC K t.c_Doing "does" t.a_Doing_does
 f_Doing_goes_through:Fun K "goes_through" "Doing.goes_through" yi t.a_Doing_goes_through t.d_Doing_goes_through
 b_Doing_goes_through:Binds K t.d_Doing_goes_through ["self","rows"] []
 me_Doing_goes_through:qC K t.c_Doing "goes_through" t.a_Doing_goes_through
 f_broken_off:Fun K "broken_off" "broken_off" xI t.a_broken_off t.d_broken_off
 b_broken_off:Binds K t.d_broken_off ["why","table"] []
 m_broken_off:mg "broken_off"=some (.ref t.a_broken_off)
 f_table_of:Fun K "table_of" "table_of" xU t.a_table_of t.d_table_of
 b_table_of:Binds K t.d_table_of ["rows"] []
 m_table_of:mg "table_of"=some (.ref t.a_table_of)
 f_alone:Fun K "alone" "alone" qz t.a_alone t.d_alone
 b_alone:Binds K t.d_alone ["rows","table"] []
 m_alone:mg "alone"=some (.ref t.a_alone)
 f__law_led:Fun K "_law_led" "_law_led" wK t.a__law_led t.d__law_led
 b__law_led:Binds K t.d__law_led ["rows","cell","shelves","table"] []
 m__law_led:mg "_law_led"=some (.ref t.a__law_led)
 f__law_table:Fun K "_law_table" "_law_table" xJ t.a__law_table t.d__law_table
 b__law_table:Binds K t.d__law_table ["cell","shelves"] []
 m__law_table:mg "_law_table"=some (.ref t.a__law_table)
 f_law:Fun K "law" "law" We t.a_law t.d_law
 b_law:Binds K t.d_law ["script"] []
 m_law:mg "law"=some (.ref t.a_law)
 w_law:∀ (s:Shared) (v:Value),BindsTo s t.d_law ⟨[v],[]⟩ [("script",v)]
 b_bool:mg "bool"=none
 b_dict:mg "dict"=none
 b_int:mg "int"=none
 b_isinstance:mg "isinstance"=none
 b_len:mg "len"=none
 b_list:mg "list"=none
 b_max:mg "max"=none
 b_range:mg "range"=none
 b_sorted:mg "sorted"=none
 b_str:mg "str"=none
 b_tuple:mg "tuple"=none
 g_JOINING:mg "JOINING"=some (.ref t.c_JOINING)
 v_JOINING:∀ H:Hp,SqT K H t.c_JOINING [.str "plus",.str "minus",.str "times",.str "over",.str "rest",.str "under",.str "same"]
 g_Doing:mg "Doing"=some (.ref t.c_Doing)
 g_Great:mg "Great"=some (.ref t.c_Great)
 g_Nought:mg "Nought"=some (.ref t.c_Nought)
 g_Run:mg "Run"=some (.ref t.c_Run)
 cl_Doing:Cls K t.c_Doing
 mk_Doing:Mk K t.c_Doing t.a_Doing_init
 na_Doing_sayings:NoAttr K t.c_Doing "sayings"
 na_Doing_slots:NoAttr K t.c_Doing "slots"
 na_Doing_worths:NoAttr K t.c_Doing "worths"
 cl_Run:Cls K t.c_Run
 mk_Run:Mk K t.c_Run t.a_Run_init
 na_Run_at:NoAttr K t.c_Run "at"
 na_Run_code:NoAttr K t.c_Run "code"
 na_Run_gifts:NoAttr K t.c_Run "gifts"
 na_Run_notes:NoAttr K t.c_Run "notes"
 na_Run_sayings:NoAttr K t.c_Run "sayings"
 na_Run_slots:NoAttr K t.c_Run "slots"
 na_Run_why:NoAttr K t.c_Run "why"
 x_Nought:W.excIn K t.c_Nought Vw ZI=true
 y_Nought:ExK K t.c_Nought
 e_Nought_Great:W.exmOne K (.ref t.c_Nought) (.ref t.c_Great)=some false
 e_Nought_Nought:W.exmOne K (.ref t.c_Nought) (.ref t.c_Nought)=some true
 m_Nought_Great_Nought:W.exmAny K (.ref t.c_Nought) [.ref t.c_Great,.ref t.c_Nought]=some true
 x_Great:W.excIn K t.c_Great Vw ZI=true
 y_Great:ExK K t.c_Great
 e_Great_Great:W.exmOne K (.ref t.c_Great) (.ref t.c_Great)=some true
 e_Great_Nought:W.exmOne K (.ref t.c_Great) (.ref t.c_Nought)=some false
 m_Great_Great_Nought:W.exmAny K (.ref t.c_Great) [.ref t.c_Great,.ref t.c_Nought]=some true
theorem txt_mk {K:W.Frag} {h:Heap} {mg:Str→Option Value} (X:K.In h) (G:h.Ns mainGlobals mg)
  {f0:Addr} {od0 an0:Option Addr} {sl0:Array (Option Value)} {oc0 kV0 dc0 pm0 cd0 ct0:Value}
  {f1:Addr} {od1 an1:Option Addr} {sl1:Array (Option Value)} {oc1 kV1 dc1 pm1 cd1 ct1:Value}
  {f2:Addr} {od2 an2:Option Addr} {sl2:Array (Option Value)} {oc2 kV2 dc2 pm2 cd2 ct2:Value}
  {f3:Addr} {od3 an3:Option Addr} {sl3:Array (Option Value)} {oc3 kV3 dc3 pm3 cd3 ct3:Value}
  {f4:Addr} {od4 an4:Option Addr} {sl4:Array (Option Value)} {oc4 kV4 dc4 pm4 cd4 ct4:Value}
  {f5:Addr} {od5 an5:Option Addr} {sl5:Array (Option Value)} {oc5 kV5 dc5 pm5 cd5 ct5:Value}
  {f6:Addr} {od6 an6:Option Addr} {sl6:Array (Option Value)} {oc6 kV6 dc6 pm6 cd6 ct6:Value}
  {f7:Addr} {od7 an7:Option Addr} {sl7:Array (Option Value)} {oc7 kV7 dc7 pm7 cd7 ct7:Value}
  {f8:Addr} {od8 an8:Option Addr} {sl8:Array (Option Value)} {oc8 kV8 dc8 pm8 cd8 ct8:Value}
  {f9:Addr} {od9 an9:Option Addr} {sl9:Array (Option Value)} {oc9 kV9 dc9 pm9 cd9 ct9:Value}
  {f10:Addr} {od10 an10:Option Addr} {sl10:Array (Option Value)} {oc10 kV10 dc10 pm10 cd10 ct10:Value}
  {f11:Addr} {od11 an11:Option Addr} {sl11:Array (Option Value)} {oc11 kV11 dc11 pm11 cd11 ct11:Value}
  {f12:Addr} {od12 an12:Option Addr} {sl12:Array (Option Value)} {oc12 kV12 dc12 pm12 cd12 ct12:Value}
  {f13:Addr} {od13 an13:Option Addr} {sl13:Array (Option Value)} {oc13 kV13 dc13 pm13 cd13 ct13:Value}
  {f14:Addr} {od14 an14:Option Addr} {sl14:Array (Option Value)} {oc14 kV14 dc14 pm14 cd14 ct14:Value}
  {f15:Addr} {od15 an15:Option Addr} {sl15:Array (Option Value)} {oc15 kV15 dc15 pm15 cd15 ct15:Value}
  {f16:Addr} {od16 an16:Option Addr} {sl16:Array (Option Value)} {oc16 kV16 dc16 pm16 cd16 ct16:Value}
  {f17:Addr} {od17 an17:Option Addr} {sl17:Array (Option Value)} {oc17 kV17 dc17 pm17 cd17 ct17:Value}
  {f18:Addr} {od18 an18:Option Addr} {sl18:Array (Option Value)} {oc18 kV18 dc18 pm18 cd18 ct18:Value}
  {f19:Addr} {od19 an19:Option Addr} {sl19:Array (Option Value)} {oc19 kV19 dc19 pm19 cd19 ct19:Value}
  {f20:Addr} {od20 an20:Option Addr} {sl20:Array (Option Value)} {oc20 kV20 dc20 pm20 cd20 ct20:Value}
  {f21:Addr} {od21 an21:Option Addr} {sl21:Array (Option Value)} {oc21 kV21 dc21 pm21 cd21 ct21:Value}
  {f22:Addr} {od22 an22:Option Addr} {sl22:Array (Option Value)} {oc22 kV22 dc22 pm22 cd22 ct22:Value}
  {f23:Addr} {od23 an23:Option Addr} {sl23:Array (Option Value)} {oc23 kV23 dc23 pm23 cd23 ct23:Value}
  {f24:Addr} {od24 an24:Option Addr} {sl24:Array (Option Value)} {oc24 kV24 dc24 pm24 cd24 ct24:Value}
  {f25:Addr} {od25 an25:Option Addr} {sl25:Array (Option Value)} {oc25 kV25 dc25 pm25 cd25 ct25:Value} {dA25:Addr} {dn25:Nat} {dt25_0:Tok}
  {f26:Addr} {od26 an26:Option Addr} {sl26:Array (Option Value)} {oc26 kV26 dc26 pm26 cd26 ct26:Value}
  {f27:Addr} {od27 an27:Option Addr} {sl27:Array (Option Value)} {oc27 kV27 dc27 pm27 cd27 ct27:Value}
  {f28:Addr} {od28 an28:Option Addr} {sl28:Array (Option Value)} {oc28 kV28 dc28 pm28 cd28 ct28:Value}
  {f29:Addr} {od29 an29:Option Addr} {sl29:Array (Option Value)} {oc29 kV29 dc29 pm29 cd29 ct29:Value}
  {f30:Addr} {od30 an30:Option Addr} {sl30:Array (Option Value)} {oc30 kV30 dc30 pm30 cd30 ct30:Value}
  {f31:Addr} {od31 an31:Option Addr} {sl31:Array (Option Value)} {oc31 kV31 dc31 pm31 cd31 ct31:Value}
  {f32:Addr} {od32 an32:Option Addr} {sl32:Array (Option Value)} {oc32 kV32 dc32 pm32 cd32 ct32:Value}
  {f33:Addr} {od33 an33:Option Addr} {sl33:Array (Option Value)} {oc33 kV33 dc33 pm33 cd33 ct33:Value}
  {f34:Addr} {od34 an34:Option Addr} {sl34:Array (Option Value)} {oc34 kV34 dc34 pm34 cd34 ct34:Value}
  {f35:Addr} {od35 an35:Option Addr} {sl35:Array (Option Value)} {oc35 kV35 dc35 pm35 cd35 ct35:Value}
  {f36:Addr} {od36 an36:Option Addr} {sl36:Array (Option Value)} {oc36 kV36 dc36 pm36 cd36 ct36:Value}
  {f37:Addr} {od37 an37:Option Addr} {sl37:Array (Option Value)} {oc37 kV37 dc37 pm37 cd37 ct37:Value}
  {f38:Addr} {od38 an38:Option Addr} {sl38:Array (Option Value)} {oc38 kV38 dc38 pm38 cd38 ct38:Value}
  {f39:Addr} {od39 an39:Option Addr} {sl39:Array (Option Value)} {oc39 kV39 dc39 pm39 cd39 ct39:Value}
  {f40:Addr} {od40 an40:Option Addr} {sl40:Array (Option Value)} {oc40 kV40 dc40 pm40 cd40 ct40:Value}
  {f41:Addr} {od41 an41:Option Addr} {sl41:Array (Option Value)} {oc41 kV41 dc41 pm41 cd41 ct41:Value}
  {ga0:Addr} {gn0:Nat} {gt0_0:Tok} {gt0_1:Tok} {gt0_2:Tok} {gt0_3:Tok} {gt0_4:Tok} {gt0_5:Tok} {gt0_6:Tok}
  {ca0:Addr}
  {ca1:Addr}
  {ca2:Addr}
  {ca3:Addr}
  {cl0:ClassData}
  {cl1:ClassData}
  (qa0:W.nsIn K mainGlobals "_law_draw"=some (some (.ref f0))) (ql0:K.lookup f0=some ⟨oc0,od0,.func (W.fnOf "_law_draw" "_law_draw" (zE xX) (zB xX) (zh xX) .none kV0 dc0 pm0 an0 cd0 ct0),sl0⟩) (qc0:W.codeIn K cd0 "_law_draw"=true) (qk0:W.keepIn K (.ref f0)=true)
  (qa1:W.nsIn K mainGlobals "_law_names"=some (some (.ref f1))) (ql1:K.lookup f1=some ⟨oc1,od1,.func (W.fnOf "_law_names" "_law_names" (zE xc) (zB xc) (zh xc) .none kV1 dc1 pm1 an1 cd1 ct1),sl1⟩) (qc1:W.codeIn K cd1 "_law_names"=true) (qk1:W.keepIn K (.ref f1)=true)
  (qa2:W.nsIn K mainGlobals "_law_cell_at"=some (some (.ref f2))) (ql2:K.lookup f2=some ⟨oc2,od2,.func (W.fnOf "_law_cell_at" "_law_cell_at" (zE yZ) (zB yZ) (zh yZ) .none kV2 dc2 pm2 an2 cd2 ct2),sl2⟩) (qc2:W.codeIn K cd2 "_law_cell_at"=true) (qk2:W.keepIn K (.ref f2)=true)
  (qa3:W.nsIn K mainGlobals "_law_deep"=some (some (.ref f3))) (ql3:K.lookup f3=some ⟨oc3,od3,.func (W.fnOf "_law_deep" "_law_deep" (zE xY) (zB xY) (zh xY) .none kV3 dc3 pm3 an3 cd3 ct3),sl3⟩) (qc3:W.codeIn K cd3 "_law_deep"=true) (qk3:W.keepIn K (.ref f3)=true)
  (qa4:W.nsIn K mainGlobals "_law_number"=some (some (.ref f4))) (ql4:K.lookup f4=some ⟨oc4,od4,.func (W.fnOf "_law_number" "_law_number" (zE xn) (zB xn) (zh xn) .none kV4 dc4 pm4 an4 cd4 ct4),sl4⟩) (qc4:W.codeIn K cd4 "_law_number"=true) (qk4:W.keepIn K (.ref f4)=true)
  (qa5:W.nsIn K mainGlobals "_law_term"=some (some (.ref f5))) (ql5:K.lookup f5=some ⟨oc5,od5,.func (W.fnOf "_law_term" "_law_term" (zE xZ) (zB xZ) (zh xZ) .none kV5 dc5 pm5 an5 cd5 ct5),sl5⟩) (qc5:W.codeIn K cd5 "_law_term"=true) (qk5:W.keepIn K (.ref f5)=true)
  (qa6:W.nsIn K mainGlobals "_law_row"=some (some (.ref f6))) (ql6:K.lookup f6=some ⟨oc6,od6,.func (W.fnOf "_law_row" "_law_row" (zE wB) (zB wB) (zh wB) .none kV6 dc6 pm6 an6 cd6 ct6),sl6⟩) (qc6:W.codeIn K cd6 "_law_row"=true) (qk6:W.keepIn K (.ref f6)=true)
  (qa7:W.nsIn K mainGlobals "_law_rows"=some (some (.ref f7))) (ql7:K.lookup f7=some ⟨oc7,od7,.func (W.fnOf "_law_rows" "_law_rows" (zE x0) (zB x0) (zh x0) .none kV7 dc7 pm7 an7 cd7 ct7),sl7⟩) (qc7:W.codeIn K cd7 "_law_rows"=true) (qk7:W.keepIn K (.ref f7)=true)
  (qa8:W.nsIn K mainGlobals "block_steps"=some (some (.ref f8))) (ql8:K.lookup f8=some ⟨oc8,od8,.func (W.fnOf "block_steps" "block_steps" (zE xo) (zB xo) (zh xo) .none kV8 dc8 pm8 an8 cd8 ct8),sl8⟩) (qc8:W.codeIn K cd8 "block_steps"=true) (qk8:W.keepIn K (.ref f8)=true)
  (qa9:W.nsIn K mainGlobals "steps_of"=some (some (.ref f9))) (ql9:K.lookup f9=some ⟨oc9,od9,.func (W.fnOf "steps_of" "steps_of" (zE wC) (zB wC) (zh wC) .none kV9 dc9 pm9 an9 cd9 ct9),sl9⟩) (qc9:W.codeIn K cd9 "steps_of"=true) (qk9:W.keepIn K (.ref f9)=true)
  (qa10:W.nsIn K mainGlobals "code_of"=some (some (.ref f10))) (ql10:K.lookup f10=some ⟨oc10,od10,.func (W.fnOf "code_of" "code_of" (zE vM) (zB vM) (zh vM) .none kV10 dc10 pm10 an10 cd10 ct10),sl10⟩) (qc10:W.codeIn K cd10 "code_of"=true) (qk10:W.keepIn K (.ref f10)=true)
  (qa11:W.findIn K (.ref ca3) "__init__"=some (some (.ref f11))) (qi11:W.isFn K (.ref f11)=true) (ql11:K.lookup f11=some ⟨oc11,od11,.func (W.fnOf "__init__" "Run.__init__" (zE wD) (zB wD) (zh wD) .none kV11 dc11 pm11 an11 cd11 ct11),sl11⟩) (qc11:W.codeIn K cd11 "Run.__init__"=true) (qk11:W.keepIn K (.ref f11)=true)
  (qa12:W.findIn K (.ref ca3) "over"=some (some (.ref f12))) (qi12:W.isFn K (.ref f12)=true) (ql12:K.lookup f12=some ⟨oc12,od12,.func (W.fnOf "over" "Run.over" (zE wE) (zB wE) (zh wE) .none kV12 dc12 pm12 an12 cd12 ct12),sl12⟩) (qc12:W.codeIn K cd12 "Run.over"=true) (qk12:W.keepIn K (.ref f12)=true)
  (qa13:W.findIn K (.ref ca3) "paper"=some (some (.ref f13))) (qi13:W.isFn K (.ref f13)=true) (ql13:K.lookup f13=some ⟨oc13,od13,.func (W.fnOf "paper" "Run.paper" (zE x6) (zB x6) (zh x6) .none kV13 dc13 pm13 an13 cd13 ct13),sl13⟩) (qc13:W.codeIn K cd13 "Run.paper"=true) (qk13:W.keepIn K (.ref f13)=true)
  (qa14:W.nsIn K mainGlobals "divided"=some (some (.ref f14))) (ql14:K.lookup f14=some ⟨oc14,od14,.func (W.fnOf "divided" "divided" (zE vN) (zB vN) (zh vN) .none kV14 dc14 pm14 an14 cd14 ct14),sl14⟩) (qc14:W.codeIn K cd14 "divided"=true) (qk14:W.keepIn K (.ref f14)=true)
  (qa15:W.nsIn K mainGlobals "come_to"=some (some (.ref f15))) (ql15:K.lookup f15=some ⟨oc15,od15,.func (W.fnOf "come_to" "come_to" (zE vO) (zB vO) (zh vO) .none kV15 dc15 pm15 an15 cd15 ct15),sl15⟩) (qc15:W.codeIn K cd15 "come_to"=true) (qk15:W.keepIn K (.ref f15)=true)
  (qa16:W.nsIn K mainGlobals "is_worth"=some (some (.ref f16))) (ql16:K.lookup f16=some ⟨oc16,od16,.func (W.fnOf "is_worth" "is_worth" (zE wF) (zB wF) (zh wF) .none kV16 dc16 pm16 an16 cd16 ct16),sl16⟩) (qc16:W.codeIn K cd16 "is_worth"=true) (qk16:W.keepIn K (.ref f16)=true)
  (qa17:W.nsIn K mainGlobals "joined"=some (some (.ref f17))) (ql17:K.lookup f17=some ⟨oc17,od17,.func (W.fnOf "joined" "joined" (zE jQ) (zB jQ) (zh jQ) .none kV17 dc17 pm17 an17 cd17 ct17),sl17⟩) (qc17:W.codeIn K cd17 "joined"=true) (qk17:W.keepIn K (.ref f17)=true)
  (qa18:W.nsIn K mainGlobals "reckoned"=some (some (.ref f18))) (ql18:K.lookup f18=some ⟨oc18,od18,.func (W.fnOf "reckoned" "reckoned" (zE wG) (zB wG) (zh wG) .none kV18 dc18 pm18 an18 cd18 ct18),sl18⟩) (qc18:W.codeIn K cd18 "reckoned"=true) (qk18:W.keepIn K (.ref f18)=true)
  (qa19:W.findIn K (.ref ca3) "worth_of"=some (some (.ref f19))) (qi19:W.isFn K (.ref f19)=true) (ql19:K.lookup f19=some ⟨oc19,od19,.func (W.fnOf "worth_of" "Run.worth_of" (zE y0) (zB y0) (zh y0) .none kV19 dc19 pm19 an19 cd19 ct19),sl19⟩) (qc19:W.codeIn K cd19 "Run.worth_of"=true) (qk19:W.keepIn K (.ref f19)=true)
  (qa20:W.findIn K (.ref ca3) "place_in"=some (some (.ref f20))) (qi20:W.isFn K (.ref f20)=true) (ql20:K.lookup f20=some ⟨oc20,od20,.func (W.fnOf "place_in" "Run.place_in" (zE y6) (zB y6) (zh y6) .none kV20 dc20 pm20 an20 cd20 ct20),sl20⟩) (qc20:W.codeIn K cd20 "Run.place_in"=true) (qk20:W.keepIn K (.ref f20)=true)
  (qa21:W.findIn K (.ref ca3) "asks"=some (some (.ref f21))) (qi21:W.isFn K (.ref f21)=true) (ql21:K.lookup f21=some ⟨oc21,od21,.func (W.fnOf "asks" "Run.asks" (zE wH) (zB wH) (zh wH) .none kV21 dc21 pm21 an21 cd21 ct21),sl21⟩) (qc21:W.codeIn K cd21 "Run.asks"=true) (qk21:W.keepIn K (.ref f21)=true)
  (qa22:W.findIn K (.ref ca3) "taken"=some (some (.ref f22))) (qi22:W.isFn K (.ref f22)=true) (ql22:K.lookup f22=some ⟨oc22,od22,.func (W.fnOf "taken" "Run.taken" (zE x8) (zB x8) (zh x8) .none kV22 dc22 pm22 an22 cd22 ct22),sl22⟩) (qc22:W.codeIn K cd22 "Run.taken"=true) (qk22:W.keepIn K (.ref f22)=true)
  (qa23:W.findIn K (.ref ca3) "does"=some (some (.ref f23))) (qi23:W.isFn K (.ref f23)=true) (ql23:K.lookup f23=some ⟨oc23,od23,.func (W.fnOf "does" "Run.does" (zE wI) (zB wI) (zh wI) .none kV23 dc23 pm23 an23 cd23 ct23),sl23⟩) (qc23:W.codeIn K cd23 "Run.does"=true) (qk23:W.keepIn K (.ref f23)=true)
  (qa24:W.findIn K (.ref ca3) "led_by"=some (some (.ref f24))) (qi24:W.isFn K (.ref f24)=true) (ql24:K.lookup f24=some ⟨oc24,od24,.func (W.fnOf "led_by" "Run.led_by" (zE xE) (zB xE) (zh xE) .none kV24 dc24 pm24 an24 cd24 ct24),sl24⟩) (qc24:W.codeIn K cd24 "Run.led_by"=true) (qk24:W.keepIn K (.ref f24)=true)
  (qa25:W.findIn K (.ref ca3) "step"=some (some (.ref f25))) (qi25:W.isFn K (.ref f25)=true) (ql25:K.lookup f25=some ⟨oc25,od25,.func (W.fnOf "step" "Run.step" (zE wJ) (zB wJ) (zh wJ) (.ref dA25) kV25 dc25 pm25 an25 cd25 ct25),sl25⟩) (qc25:W.codeIn K cd25 "Run.step"=true) (qk25:W.keepIn K (.ref f25)=true) (qd25:K.lookup dA25=some ⟨.type "tuple",none,.seq #[.int 0 dt25_0] dn25,#[]⟩)
  (qa26:W.nsIn K mainGlobals "stands"=some (some (.ref f26))) (ql26:K.lookup f26=some ⟨oc26,od26,.func (W.fnOf "stands" "stands" (zE jR) (zB jR) (zh jR) .none kV26 dc26 pm26 an26 cd26 ct26),sl26⟩) (qc26:W.codeIn K cd26 "stands"=true) (qk26:W.keepIn K (.ref f26)=true)
  (qa27:W.nsIn K mainGlobals "fed"=some (some (.ref f27))) (ql27:K.lookup f27=some ⟨oc27,od27,.func (W.fnOf "fed" "fed" (zE Wd) (zB Wd) (zh Wd) .none kV27 dc27 pm27 an27 cd27 ct27),sl27⟩) (qc27:W.codeIn K cd27 "fed"=true) (qk27:W.keepIn K (.ref f27)=true)
  (qa28:W.nsIn K mainGlobals "_law_other"=some (some (.ref f28))) (ql28:K.lookup f28=some ⟨oc28,od28,.func (W.fnOf "_law_other" "_law_other" (zE xF) (zB xF) (zh xF) .none kV28 dc28 pm28 an28 cd28 ct28),sl28⟩) (qc28:W.codeIn K cd28 "_law_other"=true) (qk28:W.keepIn K (.ref f28)=true)
  (qa29:W.nsIn K mainGlobals "_law_listed"=some (some (.ref f29))) (ql29:K.lookup f29=some ⟨oc29,od29,.func (W.fnOf "_law_listed" "_law_listed" (zE yU) (zB yU) (zh yU) .none kV29 dc29 pm29 an29 cd29 ct29),sl29⟩) (qc29:W.codeIn K cd29 "_law_listed"=true) (qk29:W.keepIn K (.ref f29)=true)
  (qa30:W.nsIn K mainGlobals "_law_turned"=some (some (.ref f30))) (ql30:K.lookup f30=some ⟨oc30,od30,.func (W.fnOf "_law_turned" "_law_turned" (zE xp) (zB xp) (zh xp) .none kV30 dc30 pm30 an30 cd30 ct30),sl30⟩) (qc30:W.codeIn K cd30 "_law_turned"=true) (qk30:W.keepIn K (.ref f30)=true)
  (qa31:W.nsIn K mainGlobals "_law_is_paper"=some (some (.ref f31))) (ql31:K.lookup f31=some ⟨oc31,od31,.func (W.fnOf "_law_is_paper" "_law_is_paper" (zE yQ) (zB yQ) (zh yQ) .none kV31 dc31 pm31 an31 cd31 ct31),sl31⟩) (qc31:W.codeIn K cd31 "_law_is_paper"=true) (qk31:W.keepIn K (.ref f31)=true)
  (qa32:W.findIn K (.ref ca0) "__init__"=some (some (.ref f32))) (qi32:W.isFn K (.ref f32)=true) (ql32:K.lookup f32=some ⟨oc32,od32,.func (W.fnOf "__init__" "Doing.__init__" (zE xG) (zB xG) (zh xG) .none kV32 dc32 pm32 an32 cd32 ct32),sl32⟩) (qc32:W.codeIn K cd32 "Doing.__init__"=true) (qk32:W.keepIn K (.ref f32)=true)
  (qa33:W.findIn K (.ref ca0) "worth_of"=some (some (.ref f33))) (qi33:W.isFn K (.ref f33)=true) (ql33:K.lookup f33=some ⟨oc33,od33,.func (W.fnOf "worth_of" "Doing.worth_of" (zE yF) (zB yF) (zh yF) .none kV33 dc33 pm33 an33 cd33 ct33),sl33⟩) (qc33:W.codeIn K cd33 "Doing.worth_of"=true) (qk33:W.keepIn K (.ref f33)=true)
  (qa34:W.findIn K (.ref ca0) "does"=some (some (.ref f34))) (qi34:W.isFn K (.ref f34)=true) (ql34:K.lookup f34=some ⟨oc34,od34,.func (W.fnOf "does" "Doing.does" (zE xH) (zB xH) (zh xH) .none kV34 dc34 pm34 an34 cd34 ct34),sl34⟩) (qc34:W.codeIn K cd34 "Doing.does"=true) (qk34:W.keepIn K (.ref f34)=true)
  (qa35:W.findIn K (.ref ca0) "goes_through"=some (some (.ref f35))) (qi35:W.isFn K (.ref f35)=true) (ql35:K.lookup f35=some ⟨oc35,od35,.func (W.fnOf "goes_through" "Doing.goes_through" (zE yi) (zB yi) (zh yi) .none kV35 dc35 pm35 an35 cd35 ct35),sl35⟩) (qc35:W.codeIn K cd35 "Doing.goes_through"=true) (qk35:W.keepIn K (.ref f35)=true)
  (qa36:W.nsIn K mainGlobals "broken_off"=some (some (.ref f36))) (ql36:K.lookup f36=some ⟨oc36,od36,.func (W.fnOf "broken_off" "broken_off" (zE xI) (zB xI) (zh xI) .none kV36 dc36 pm36 an36 cd36 ct36),sl36⟩) (qc36:W.codeIn K cd36 "broken_off"=true) (qk36:W.keepIn K (.ref f36)=true)
  (qa37:W.nsIn K mainGlobals "table_of"=some (some (.ref f37))) (ql37:K.lookup f37=some ⟨oc37,od37,.func (W.fnOf "table_of" "table_of" (zE xU) (zB xU) (zh xU) .none kV37 dc37 pm37 an37 cd37 ct37),sl37⟩) (qc37:W.codeIn K cd37 "table_of"=true) (qk37:W.keepIn K (.ref f37)=true)
  (qa38:W.nsIn K mainGlobals "alone"=some (some (.ref f38))) (ql38:K.lookup f38=some ⟨oc38,od38,.func (W.fnOf "alone" "alone" (zE qz) (zB qz) (zh qz) .none kV38 dc38 pm38 an38 cd38 ct38),sl38⟩) (qc38:W.codeIn K cd38 "alone"=true) (qk38:W.keepIn K (.ref f38)=true)
  (qa39:W.nsIn K mainGlobals "_law_led"=some (some (.ref f39))) (ql39:K.lookup f39=some ⟨oc39,od39,.func (W.fnOf "_law_led" "_law_led" (zE wK) (zB wK) (zh wK) .none kV39 dc39 pm39 an39 cd39 ct39),sl39⟩) (qc39:W.codeIn K cd39 "_law_led"=true) (qk39:W.keepIn K (.ref f39)=true)
  (qa40:W.nsIn K mainGlobals "_law_table"=some (some (.ref f40))) (ql40:K.lookup f40=some ⟨oc40,od40,.func (W.fnOf "_law_table" "_law_table" (zE xJ) (zB xJ) (zh xJ) .none kV40 dc40 pm40 an40 cd40 ct40),sl40⟩) (qc40:W.codeIn K cd40 "_law_table"=true) (qk40:W.keepIn K (.ref f40)=true)
  (qa41:W.nsIn K mainGlobals "law"=some (some (.ref f41))) (ql41:K.lookup f41=some ⟨oc41,od41,.func (W.fnOf "law" "law" (zE We) (zB We) (zh We) .none kV41 dc41 pm41 an41 cd41 ct41),sl41⟩) (qc41:W.codeIn K cd41 "law"=true) (qk41:W.keepIn K (.ref f41)=true)
  (qz0:W.nsIn K mainGlobals "bool"=some none)
  (qz1:W.nsIn K mainGlobals "dict"=some none)
  (qz2:W.nsIn K mainGlobals "int"=some none)
  (qz3:W.nsIn K mainGlobals "isinstance"=some none)
  (qz4:W.nsIn K mainGlobals "len"=some none)
  (qz5:W.nsIn K mainGlobals "list"=some none)
  (qz6:W.nsIn K mainGlobals "max"=some none)
  (qz7:W.nsIn K mainGlobals "range"=some none)
  (qz8:W.nsIn K mainGlobals "sorted"=some none)
  (qz9:W.nsIn K mainGlobals "str"=some none)
  (qz10:W.nsIn K mainGlobals "tuple"=some none)
  (qg0:W.nsIn K mainGlobals "JOINING"=some (some (.ref ga0))) (qh0:K.lookup ga0=some ⟨.type "tuple",none,.seq #[.str "plus" gt0_0,.str "minus" gt0_1,.str "times" gt0_2,.str "over" gt0_3,.str "rest" gt0_4,.str "under" gt0_5,.str "same" gt0_6] gn0,#[]⟩)
  (qv0:W.nsIn K mainGlobals "Doing"=some (some (.ref ca0)))
  (qv1:W.nsIn K mainGlobals "Great"=some (some (.ref ca1)))
  (qv2:W.nsIn K mainGlobals "Nought"=some (some (.ref ca2)))
  (qv3:W.nsIn K mainGlobals "Run"=some (some (.ref ca3)))
  (pg0:W.plainGet K ca0 Str.empty=true) (pd0:W.hasDictIn K ca0=true) (po0:W.plainOver K ca0=true) (pe0:W.findIn K (.ref ca0) "__setattr__"=some (some (.builtin "object.__setattr__"))) (pm0_:W.makesIn K ca0=true) (pk0:W.keepIn K (.ref ca0)=true)
  (pn0_0:W.findIn K (.ref ca0) "sayings"=some none)
  (pn0_1:W.findIn K (.ref ca0) "slots"=some none)
  (pn0_2:W.findIn K (.ref ca0) "worths"=some none)
  (pg3:W.plainGet K ca3 Str.empty=true) (pd3:W.hasDictIn K ca3=true) (po3:W.plainOver K ca3=true) (pe3:W.findIn K (.ref ca3) "__setattr__"=some (some (.builtin "object.__setattr__"))) (pm3_:W.makesIn K ca3=true) (pk3:W.keepIn K (.ref ca3)=true)
  (pn3_0:W.findIn K (.ref ca3) "at"=some none)
  (pn3_1:W.findIn K (.ref ca3) "code"=some none)
  (pn3_2:W.findIn K (.ref ca3) "gifts"=some none)
  (pn3_3:W.findIn K (.ref ca3) "notes"=some none)
  (pn3_4:W.findIn K (.ref ca3) "sayings"=some none)
  (pn3_5:W.findIn K (.ref ca3) "slots"=some none)
  (pn3_6:W.findIn K (.ref ca3) "why"=some none)
  (rx0:W.excIn K ca2 Vw ZI=true)
  (ry0_0:W.findIn K (.ref ca2) "__getattribute__"=some (some (.builtin "BaseException.__getattribute__")))
  (ry0_1:W.findIn K (.ref ca2) "__getattr__"=some none)
  (ry0_2:W.findIn K (.ref ca2) "__class__"=some (some (.builtin "object.__class__")))
  (ry0_3:W.mroIn K ca2 (.type "object")=some true)
  (ry0_4:W.mroIn K ca2 (.type "BaseException")=some true)
  (ry0_5:W.specialIn K (.builtin "object.__class__") "__get__"=some (some (.builtin "getset_descriptor.__get__")))
  (ry0_6:W.takesIn K (.builtin "object.__class__")=some true)
  (ry0_7:W.clsIn K ca2=some cl0)
  (re0_0:W.exmOne K (.ref ca2) (.ref ca1)=some false)
  (re0_1:W.exmOne K (.ref ca2) (.ref ca2)=some true)
  (rm0_0:W.exmAny K (.ref ca2) [(.ref ca1),(.ref ca2)]=some true)
  (rx1:W.excIn K ca1 Vw ZI=true)
  (ry1_0:W.findIn K (.ref ca1) "__getattribute__"=some (some (.builtin "BaseException.__getattribute__")))
  (ry1_1:W.findIn K (.ref ca1) "__getattr__"=some none)
  (ry1_2:W.findIn K (.ref ca1) "__class__"=some (some (.builtin "object.__class__")))
  (ry1_3:W.mroIn K ca1 (.type "object")=some true)
  (ry1_4:W.mroIn K ca1 (.type "BaseException")=some true)
  (ry1_5:W.specialIn K (.builtin "object.__class__") "__get__"=some (some (.builtin "getset_descriptor.__get__")))
  (ry1_6:W.takesIn K (.builtin "object.__class__")=some true)
  (ry1_7:W.clsIn K ca1=some cl1)
  (re1_0:W.exmOne K (.ref ca1) (.ref ca1)=some true)
  (re1_1:W.exmOne K (.ref ca1) (.ref ca2)=some false)
  (rm1_0:W.exmAny K (.ref ca1) [(.ref ca1),(.ref ca2)]=some true):∃ t,Txt K mg t:=by
 have F0:=zW (st:=xX) ql0 qc0 qk0
 have F1:=zW (st:=xc) ql1 qc1 qk1
 have F2:=zW (st:=yZ) ql2 qc2 qk2
 have F3:=zW (st:=xY) ql3 qc3 qk3
 have F4:=zW (st:=xn) ql4 qc4 qk4
 have F5:=zW (st:=xZ) ql5 qc5 qk5
 have F6:=zW (st:=wB) ql6 qc6 qk6
 have F7:=zW (st:=x0) ql7 qc7 qk7
 have F8:=zW (st:=xo) ql8 qc8 qk8
 have F9:=zW (st:=wC) ql9 qc9 qk9
 have F10:=zW (st:=vM) ql10 qc10 qk10
 have F11:=zW (st:=wD) ql11 qc11 qk11
 have F12:=zW (st:=wE) ql12 qc12 qk12
 have F13:=zW (st:=x6) ql13 qc13 qk13
 have F14:=zW (st:=vN) ql14 qc14 qk14
 have F15:=zW (st:=vO) ql15 qc15 qk15
 have F16:=zW (st:=wF) ql16 qc16 qk16
 have F17:=zW (st:=jQ) ql17 qc17 qk17
 have F18:=zW (st:=wG) ql18 qc18 qk18
 have F19:=zW (st:=y0) ql19 qc19 qk19
 have F20:=zW (st:=y6) ql20 qc20 qk20
 have F21:=zW (st:=wH) ql21 qc21 qk21
 have F22:=zW (st:=x8) ql22 qc22 qk22
 have F23:=zW (st:=wI) ql23 qc23 qk23
 have F24:=zW (st:=xE) ql24 qc24 qk24
 have F25:=zbC (st:=wJ) ql25 qc25 qk25
 have F26:=zW (st:=jR) ql26 qc26 qk26
 have F27:=zW (st:=Wd) ql27 qc27 qk27
 have F28:=zW (st:=xF) ql28 qc28 qk28
 have F29:=zW (st:=yU) ql29 qc29 qk29
 have F30:=zW (st:=xp) ql30 qc30 qk30
 have F31:=zW (st:=yQ) ql31 qc31 qk31
 have F32:=zW (st:=xG) ql32 qc32 qk32
 have F33:=zW (st:=yF) ql33 qc33 qk33
 have F34:=zW (st:=xH) ql34 qc34 qk34
 have F35:=zW (st:=yi) ql35 qc35 qk35
 have F36:=zW (st:=xI) ql36 qc36 qk36
 have F37:=zW (st:=xU) ql37 qc37 qk37
 have F38:=zW (st:=qz) ql38 qc38 qk38
 have F39:=zW (st:=wK) ql39 qc39 qk39
 have F40:=zW (st:=xJ) ql40 qc40 qk40
 have F41:=zW (st:=We) ql41 qc41 qk41
 exact ⟨⟨f0,_,f1,_,f2,_,f3,_,f4,_,f5,_,f6,_,f7,_,f8,_,f9,_,f10,_,f11,_,f12,_,f13,_,f14,_,f15,_,f16,_,f17,_,f18,_,f19,_,f20,_,f21,_,f22,_,f23,_,f24,_,f25,_,f26,_,f27,_,f28,_,f29,_,f30,_,f31,_,f32,_,f33,_,f34,_,f35,_,f36,_,f37,_,f38,_,f39,_,f40,_,f41,_,ga0,ca0,ca1,ca2,ca3⟩,⟨F0,F0.binds (ps:=["cell","j"]) (fun _ _ _ _ _ _ us hl=>match us,hl with | [_,_],_=>rfl),W.mg_of X G qa0,
  F1,F1.binds (ps:=["cell","many"]) (fun _ _ _ _ _ _ us hl=>match us,hl with | [_,_],_=>rfl),W.mg_of X G qa1,
  F2,F2.binds (ps:=["script","k"]) (fun _ _ _ _ _ _ us hl=>match us,hl with | [_,_],_=>rfl),W.mg_of X G qa2,
  F3,F3.binds (ps:=["rows"]) (fun _ _ _ _ _ _ us hl=>match us,hl with | [_],_=>rfl),W.mg_of X G qa3,
  F4,F4.binds (ps:=["cell","j"]) (fun _ _ _ _ _ _ us hl=>match us,hl with | [_,_],_=>rfl),W.mg_of X G qa4,
  F5,F5.binds (ps:=["cell","j","slots"]) (fun _ _ _ _ _ _ us hl=>match us,hl with | [_,_,_],_=>rfl),W.mg_of X G qa5,
  F6,F6.binds (ps:=["cell","slots","shelves"]) (fun _ _ _ _ _ _ us hl=>match us,hl with | [_,_,_],_=>rfl),W.mg_of X G qa6,
  F7,F7.binds (ps:=["cells","slots","shelves"]) (fun _ _ _ _ _ _ us hl=>match us,hl with | [_,_,_],_=>rfl),W.mg_of X G qa7,
  F8,F8.binds (ps:=["row","at"]) (fun _ _ _ _ _ _ us hl=>match us,hl with | [_,_],_=>rfl),W.mg_of X G qa8,
  F9,F9.binds (ps:=["rows","first"]) (fun _ _ _ _ _ _ us hl=>match us,hl with | [_,_],_=>rfl),W.mg_of X G qa9,
  F10,F10.binds (ps:=["rows"]) (fun _ _ _ _ _ _ us hl=>match us,hl with | [_],_=>rfl),W.mg_of X G qa10,
  F11,F11.binds (ps:=["self","code"]) (fun _ _ _ _ _ _ us hl=>match us,hl with | [_,_],_=>rfl),
  F12,F12.binds (ps:=["self"]) (fun _ _ _ _ _ _ us hl=>match us,hl with | [_],_=>rfl),⟨qa12,qi12,qk12⟩,
  F13,F13.binds (ps:=["self"]) (fun _ _ _ _ _ _ us hl=>match us,hl with | [_],_=>rfl),⟨qa13,qi13,qk13⟩,
  F14,F14.binds (ps:=["word","first","second"]) (fun _ _ _ _ _ _ us hl=>match us,hl with | [_,_,_],_=>rfl),W.mg_of X G qa14,
  F15,F15.binds (ps:=["word","first","second"]) (fun _ _ _ _ _ _ us hl=>match us,hl with | [_,_,_],_=>rfl),W.mg_of X G qa15,
  F16,F16.binds (ps:=["thing"]) (fun _ _ _ _ _ _ us hl=>match us,hl with | [_],_=>rfl),W.mg_of X G qa16,
  F17,F17.binds (ps:=["word","first","second"]) (fun _ _ _ _ _ _ us hl=>match us,hl with | [_,_,_],_=>rfl),W.mg_of X G qa17,
  F18,F18.binds (ps:=["term","slots"]) (fun _ _ _ _ _ _ us hl=>match us,hl with | [_,_],_=>rfl),W.mg_of X G qa18,
  F19,F19.binds (ps:=["self","term"]) (fun _ _ _ _ _ _ us hl=>match us,hl with | [_,_],_=>rfl),⟨qa19,qi19,qk19⟩,
  F20,F20.binds (ps:=["self","due"]) (fun _ _ _ _ _ _ us hl=>match us,hl with | [_,_],_=>rfl),⟨qa20,qi20,qk20⟩,
  F21,F21.binds (ps:=["self"]) (fun _ _ _ _ _ _ us hl=>match us,hl with | [_],_=>rfl),⟨qa21,qi21,qk21⟩,
  F22,F22.binds (ps:=["self","place","worth"]) (fun _ _ _ _ _ _ us hl=>match us,hl with | [_,_,_],_=>rfl),⟨qa22,qi22,qk22⟩,
  F23,F23.binds (ps:=["self","due","worth"]) (fun _ _ _ _ _ _ us hl=>match us,hl with | [_,_,_],_=>rfl),⟨qa23,qi23,qk23⟩,
  F24,F24.binds (ps:=["self","due","worth"]) (fun _ _ _ _ _ _ us hl=>match us,hl with | [_,_,_],_=>rfl),⟨qa24,qi24,qk24⟩,
  F25,(fun s us hK hl=>match us,(show us.length=2 by simpa using hl) with | [_,_],_=>.of_defaults (T:=dA25) rfl (hK _ _ qd25) rfl rfl rfl),⟨qa25,qi25,qk25⟩,
  F26,F26.binds (ps:=["table","place"]) (fun _ _ _ _ _ _ us hl=>match us,hl with | [_,_],_=>rfl),W.mg_of X G qa26,
  F27,F27.binds (ps:=["code","table"]) (fun _ _ _ _ _ _ us hl=>match us,hl with | [_,_],_=>rfl),W.mg_of X G qa27,
  F28,F28.binds (ps:=["cell","shelves","table","paper"]) (fun _ _ _ _ _ _ us hl=>match us,hl with | [_,_,_,_],_=>rfl),W.mg_of X G qa28,
  F29,F29.binds (ps:=["worths"]) (fun _ _ _ _ _ _ us hl=>match us,hl with | [_],_=>rfl),W.mg_of X G qa29,
  F30,F30.binds (ps:=["worth","cell"]) (fun _ _ _ _ _ _ us hl=>match us,hl with | [_,_],_=>rfl),W.mg_of X G qa30,
  F31,F31.binds (ps:=["paper"]) (fun _ _ _ _ _ _ us hl=>match us,hl with | [_],_=>rfl),W.mg_of X G qa31,
  F32,F32.binds (ps:=["self","table"]) (fun _ _ _ _ _ _ us hl=>match us,hl with | [_,_],_=>rfl),
  F33,F33.binds (ps:=["self","term"]) (fun _ _ _ _ _ _ us hl=>match us,hl with | [_,_],_=>rfl),⟨qa33,qi33,qk33⟩,
  F34,F34.binds (ps:=["self","row"]) (fun _ _ _ _ _ _ us hl=>match us,hl with | [_,_],_=>rfl),⟨qa34,qi34,qk34⟩,
  F35,F35.binds (ps:=["self","rows"]) (fun _ _ _ _ _ _ us hl=>match us,hl with | [_,_],_=>rfl),⟨qa35,qi35,qk35⟩,
  F36,F36.binds (ps:=["why","table"]) (fun _ _ _ _ _ _ us hl=>match us,hl with | [_,_],_=>rfl),W.mg_of X G qa36,
  F37,F37.binds (ps:=["rows"]) (fun _ _ _ _ _ _ us hl=>match us,hl with | [_],_=>rfl),W.mg_of X G qa37,
  F38,F38.binds (ps:=["rows","table"]) (fun _ _ _ _ _ _ us hl=>match us,hl with | [_,_],_=>rfl),W.mg_of X G qa38,
  F39,F39.binds (ps:=["rows","cell","shelves","table"]) (fun _ _ _ _ _ _ us hl=>match us,hl with | [_,_,_,_],_=>rfl),W.mg_of X G qa39,
  F40,F40.binds (ps:=["cell","shelves"]) (fun _ _ _ _ _ _ us hl=>match us,hl with | [_,_],_=>rfl),W.mg_of X G qa40,
  F41,F41.binds (ps:=["script"]) (fun _ _ _ _ _ _ us hl=>match us,hl with | [_],_=>rfl),W.mg_of X G qa41,
  fun s v=>.of_eq rfl,
  W.mg_none_of X G qz0,
  W.mg_none_of X G qz1,
  W.mg_none_of X G qz2,
  W.mg_none_of X G qz3,
  W.mg_none_of X G qz4,
  W.mg_none_of X G qz5,
  W.mg_none_of X G qz6,
  W.mg_none_of X G qz7,
  W.mg_none_of X G qz8,
  W.mg_none_of X G qz9,
  W.mg_none_of X G qz10,
  W.mg_of X G qg0,fun _=>.inr ⟨_,_,_,qh0,rfl,rfl,(by show 7≤sizeLine;decide),(.cons ⟨_,rfl⟩ (.cons ⟨_,rfl⟩ (.cons ⟨_,rfl⟩ (.cons ⟨_,rfl⟩ (.cons ⟨_,rfl⟩ (.cons ⟨_,rfl⟩ (.cons ⟨_,rfl⟩ .nil)))))))⟩,
  W.mg_of X G qv0,
  W.mg_of X G qv1,
  W.mg_of X G qv2,
  W.mg_of X G qv3,
  ⟨pg0,pd0,po0,pe0⟩,
  ⟨pm0_,qa32,qi32,pk0⟩,
  pn0_0,
  pn0_1,
  pn0_2,
  ⟨pg3,pd3,po3,pe3⟩,
  ⟨pm3_,qa11,qi11,pk3⟩,
  pn3_0,
  pn3_1,
  pn3_2,
  pn3_3,
  pn3_4,
  pn3_5,
  pn3_6,
  rx0,
  ⟨⟨ry0_0,ry0_1,ry0_2,ry0_3,ry0_4,ry0_5,ry0_6⟩,by rw [ry0_7];rfl⟩,
  re0_0,
  re0_1,
  rm0_0,
  rx1,
  ⟨⟨ry1_0,ry1_1,ry1_2,ry1_3,ry1_4,ry1_5,ry1_6⟩,by rw [ry1_7];rfl⟩,
  re1_0,
  re1_1,
  rm1_0⟩⟩
structure KF (K:W.Frag):Prop where
 i_b:W.kitOne K (.type "int") (.type "bool")=some false
 i_s:W.kitOne K (.type "int") (.type "str")=some false
 s_i:W.kitOne K (.type "str") (.type "int")=some false
 s_b:W.kitOne K (.type "str") (.type "bool")=some false
 a1:W.kitAny K (.type "tuple") [.type "list",.type "tuple"]=some true
 a2:W.kitAny K (.type "list") [.type "list",.type "tuple"]=some true
 a3:W.kitAny K (.type "int") [.type "list",.type "tuple"]=some false
 a4:W.kitAny K (.type "str") [.type "list",.type "tuple"]=some false
 a5:W.kitAny K (.type "int") [.type "int",.type "str"]=some true
 a6:W.kitAny K (.type "str") [.type "int",.type "str"]=some true
def fin (t:Adr) (r:Except Er Int) (Q:VK) (E:XK) (H:Hp):Prop:=match r with
 | .ok i=>Q (.int i) H
 | .error .nought=>E (.ref t.c_Nought) none H
 | .error .great=>E (.ref t.c_Great) none H
 | .error .stuck=>True
def Y8 (t:Adr) (e:Er) (E:XK) (H:Hp):Prop:=match e with
 | .nought=>E (.ref t.c_Nought) none H
 | .great=>E (.ref t.c_Great) none H
 | .stuck=>True
def zbF (K:W.Frag):Prop:=W.kitOne K (.type "int") (.type "bool")=some false
def NamesAt (H:Hp) (nm:Addr) (ws:List Str):Prop:=H nm=some (.lst (ws.map V.str))∧∀ w∈ws,xO w=true
def vb:Rw→Prop
 | .off _=>False
 | .iff _ _ _=>False
 | _=>True
def kW:Sp:=fun vs H Q _=>∃ i,vs=[.int i]∧∀ H',Same H H'→Q (.bl (inW i)) H'
def qX (t:Adr):Sp:=fun vs H Q E=>∃ w a b,vs=[.str w,.int a,.int b]∧w.length≤1000∧inW a=true∧inW b=true∧∀ H',Same H H'→if b=0 then E (.ref t.c_Nought) none H' else Q (.int (if w="over" then a.fdiv b else a.fmod b)) H'
def qY (t:Adr):Sp:=fun vs H Q E=>∃ w a b,vs=[.str w,.int a,.int b]∧w.length≤1000∧inW a=true∧inW b=true∧∀ H',Same H H'→if Z0 w∧b=0 then E (.ref t.c_Nought) none H' else Q (.int (vW w a b)) H'
def wL (t:Adr):Sp:=fun vs H Q E=>∃ w a b,vs=[.str w,.int a,.int b]∧w.length≤1000∧inW a=true∧inW b=true∧∀ H',Same H H'→fin t (vB w a b) Q E H'
def w4 (t:Adr):Sp:=fun vs H Q E=>∃ kvs tm sl ps r,vs=[.ref tm,.ref sl]∧H tm=some (.tup ps)∧H sl=some (.dK kvs)∧Good kvs ps r∧(∀ v∈ps,j8 v)∧ps.length≤1000∧yL kvs∧∀ H',Same H H'→fin t r Q E H'
inductive Cs where
 | row (r:Rw)
 | skip (e:List V) (to:Nat)
 | go (en:Nat)
def Rws.isNil:Rws→Bool
 | .nil=>true
 | .cons _ _=>false
def blk (e:List V) (k:Nat) (A:List Cs) (nl:Bool) (B:List Cs):List Cs :=
 if nl=true then .skip e (k + 1 + A.length) :: A else .skip e (k + 2 + A.length) :: (A ++ (.go (k + 2 + A.length + B.length) :: B))
mutual
def yB:Rw→Nat→List Cs
 | .iff e a b,k=>blk e k (zm a (k + 1)) (Rws.isNil b) (zm b (k + 2 + (zm a (k + 1)).length))
 | r,_=>[.row r]
def zm:Rws→Nat→List Cs
 | .nil,_=>[]
 | .cons r rs,k=>yB r k ++ zm rs (k + (yB r k).length)
end
def JZ:Rw→Prop
 | .iff _ _ _=>False
 | _=>True
def CsAt (H:Hp) (v:V):Cs→Prop
 | .row r=>RwAt yO H v r∧JZ r
 | .skip e to=>∃ p te,v=.ref p∧H p=some (.tup [.str "skip",.ref te,.int (to:Nat)])∧H te=some (.tup e)
 | .go en=>∃ p,v=.ref p∧H p=some (.tup [.str "go",.int (en:Nat)])
structure Y9 (n:Nat) (r:Rws):Prop where
 dp:r.deep < n
 ct:r.cnt≤500
 pl:xM r
def vZ (n:Nat):Sp:=fun vs H Q _=>∃ (v:V) (e:List V) (a b:Rws) (k:Nat),vs=[v,.int k]∧RwAt yO H v (.iff e a b)∧Y9 n a∧Y9 n b∧k + (yB (.iff e a b) k).length≤500∧∀ l xs H',Same H H'→H' l=some (.lst xs)→Paired (CsAt H') xs (yB (.iff e a b) k)→Q (.ref l) H'
def y8 (n:Nat):Sp:=fun vs H Q _=>∃ (v:V) (r:Rws) (k:Nat),vs=[v,.int k]∧qE yO H v r∧Y9 n r∧k + (zm r k).length≤500∧∀ l xs H',Same H H'→H l=none→H' l=some (.lst xs)→Paired (CsAt H') xs (zm r k)→Q (.ref l) H'
def qZ:Sp:=fun vs H Q _=>∃ (v:V) (r:Rws),vs=[v]∧qE yO H v r∧Y9 6 r∧(zm r 0).length≤500∧∀ l xs H',Same H H'→H l=none→H' l=some (.lst xs)→Paired (CsAt H') xs (zm r 0)→Q (.ref l) H'
structure RSt where
 n:Nat
 why:Option Str
 sl:List (Key × V)
 gi:List Row
 no:List Row
 sa:List Int
structure RAd where
 dx:Addr
 co:Addr
 sl:Addr
 gi:Addr
 no:Addr
 sa:Addr
def zdz:Option Str→V
 | none=>.non
 | some w=>.str w
def zdA (a:RAd) (s:RSt):List (Str × V):=[(Str.ofString "code",.ref a.co),(Str.ofString "at",.int s.n),(Str.ofString "why",zdz s.why),(Str.ofString "slots",.ref a.sl),(Str.ofString "gifts",.ref a.gi),(Str.ofString "notes",.ref a.no),(Str.ofString "sayings",.ref a.sa)]
structure RnAt (t:Adr) (H:Hp) (x:Addr) (a:RAd) (C:List Cs) (s:RSt):Prop where
 ix:H x=some (.ins t.c_Run a.dx (zdA a s))
 hc:∃ xs,H a.co=some (.lst xs)∧Paired (CsAt H) xs C
 hs:H a.sl=some (.dK s.sl)
 hg:H a.gi=some (.dT (dOf s.gi))
 hn:H a.no=some (.dT (dOf s.no))
 ha:H a.sa=some (.lst (s.sa.map V.int))
 ng:a.gi≠a.no
 nc:a.co≠a.sa
def Ow (x:Addr) (a:RAd) (b:Addr):Prop:=b=x∨b=a.sl∨b=a.gi∨b=a.no∨b=a.sa
def OwA (x:Addr) (a:RAd) (b:Addr):Prop:=Ow x a b∨b=a.co
def Kp (x:Addr) (a:RAd) (H H':Hp):Prop:=∀ b o,¬ Ow x a b→H b=some o→H' b=some o
def Z4 (x:Addr) (H H':Hp):Prop:=∀ b o,b≠x→H b=some o→H' b=some o
structure RnOk (m:Nat) (s:RSt):Prop where
 so:yL s.sl
 gw:∀ r∈s.gi,inW r.2=true
 nw:∀ r∈s.no,inW r.2=true
 l1:s.sl.length≤m
 l2:s.gi.length≤m
 l3:s.no.length≤m
 l4:s.sa.length≤m
 nd:(s.no.map (·.1)).Nodup
def Yd:Cs→Prop
 | .row r=>xQ r
 | .skip e _=>TermOk e
 | .go _=>True
def ym (C:List Cs) (s:RSt):Bool:=s.why.isSome || decide (C.length≤s.n)
def y9 (p:Pl) (w:Int) (s:RSt):RSt:=if (zu s.gi p).isSome=true∨(zu s.no p).isSome=true then s else { s with no:=s.no ++ [(p,w)] }
def wM (p:Pl) (w:Int) (s:RSt):Int:=(zu s.gi p).getD ((zu s.no p).getD w)
def doR:Rw→Int→RSt→Except Er RSt
 | .take sh e x,w,s=>match rk s.sl e with
  | .error er=>.error er
  | .ok n=>.ok { y9 (sh,n) w s with sl:=yD s.sl (.inr x) (.int (wM (sh,n) w s)) }
 | .give sh e f,_,s=>match rk s.sl e with
  | .error er=>.error er
  | .ok n=>match rk s.sl f with
   | .error er=>.error er
   | .ok i=>.ok { s with gi:=s.gi ++ [((sh,n),i)] }
 | .lt x e,_,s=>match rk s.sl e with
  | .error er=>.error er
  | .ok i=>.ok { s with sl:=yD s.sl (.inr x) (.int i) }
 | .say e,_,s=>match rk s.sl e with
  | .error er=>.error er
  | .ok i=>.ok { s with sa:=s.sa ++ [i] }
 | _,_,s=>.ok s
def yu:Cs→Int→RSt→Except Er (Nat × RSt)
 | .go k,_,s=>.ok (k,s)
 | .skip e to,_,s=>match rk s.sl e with
  | .error er=>.error er
  | .ok i=>.ok (if i=0 then to else s.n + 1,s)
 | .row (.off e),_,s=>match rk s.sl e with
  | .error er=>.error er
  | .ok i=>.ok (s.n + 1,if i=0 then s else { s with why:=some (Str.ofString "told") })
 | .row r,w,s=>match doR r w s with
  | .error er=>.error er
  | .ok s'=>.ok (s.n + 1,s')
def zX (c:Cs) (w:Int) (s:RSt):RSt:=match yu c w s with
 | .ok (k,s')=>{ s' with n:=k }
 | .error er=>{ s with why:=some (Y1 er) }
def xL (C:List Cs) (w:Int) (s:RSt):RSt:=if ym C s=true then s else match C[s.n]? with
 | none=>s
 | some c=>zX c w s
def wx (c:Cs) (s:RSt):Option Pl:=match c with
 | .row (.take sh e _)=>match rk s.sl e with
  | .error _=>none
  | .ok n=>if (zu s.gi (sh,n)).isSome=true∨(zu s.no (sh,n)).isSome=true then none else some (sh,n)
 | _=>none
def w5 (C:List Cs) (s:RSt):Option Pl:=if ym C s=true then none else (C[s.n]?).bind fun c=>wx c s
abbrev Wf (H:Hp) (v:V) (q:Row):Prop:=PrAt H v q
abbrev v0 (H:Hp) (vs:List V) (rows:List Row):Prop:=Paired (PrAt H) vs rows
def LsAt (H:Hp) (a:Addr) (rows:List Row):Prop:=∃ xs,H a=some (.lst xs)∧Paired (PrAt H) xs rows
def ZN (H:Hp) (v:V):Oc→Prop
 | .done sa=>∃ o y,v=.ref o∧H o=some (.tup [.str "done",.ref y])∧H y=some (.tup (sa.map V.int))
 | .off w=>∃ o,v=.ref o∧H o=some (.tup [.str "off",.str w])
def qF (s:RSt):Oc:=match s.why with
 | some w=>.off w
 | none=>.done s.sa
def Zs (s:RSt) (out:List Row):Prop:=match s.why with
 | some _=>out=[]
 | none=>Rising out∧∀ p w,(p,w)∈out↔zu s.gi p=some w
structure RnF (K:W.Frag) (t:Adr):Prop where
 cl:Cls K t.c_Run
 n1:NoAttr K t.c_Run "code"
 n2:NoAttr K t.c_Run "at"
 n3:NoAttr K t.c_Run "why"
 n4:NoAttr K t.c_Run "slots"
 n5:NoAttr K t.c_Run "gifts"
 n6:NoAttr K t.c_Run "notes"
 n7:NoAttr K t.c_Run "sayings"
def st0:RSt:=⟨0,none,[],[],[],[]⟩
def kX (t:Adr):Sp:=fun vs H Q _=>∃ (x l dx:Addr) (xs:List V) (C:List Cs),vs=[.ref x,.ref l]∧H x=some (.ins t.c_Run dx [])∧H l=some (.lst xs)∧Paired (CsAt H) xs C∧∀ H' a,Z4 x H H'→RnAt t H' x a C st0→(∀ b,OwA x a b→b=x∨H b=none)→Q .non H'
def yC (t:Adr):Sp:=fun vs H Q _=>∃ (x:Addr) (a:RAd) (C:List Cs) (s:RSt),vs=[.ref x]∧RnAt t H x a C s∧∀ H',Same H H'→Q (.bl (ym C s)) H'
def zN (t:Adr):Sp:=fun vs H Q E=>∃ (x tm:Addr) (e:List V) (a:RAd) (C:List Cs) (s:RSt),vs=[.ref x,.ref tm]∧RnAt t H x a C s∧yL s.sl∧H tm=some (.tup e)∧TermOk e∧∀ H',Same H H'→fin t (rk s.sl e) Q E H'
def z6 (t:Adr):Sp:=fun vs H Q E=>∃ (x p:Addr) (xs:List V) (sh:Str) (te:Addr) (e:List V) (a:RAd) (C:List Cs) (s:RSt),vs=[.ref x,.ref p]∧RnAt t H x a C s∧yL s.sl∧H p=some (.tup xs)∧atI xs 1=some (.str sh)∧atI xs 2=some (.ref te)∧H te=some (.tup e)∧TermOk e ∧
 (∀ i q H',rk s.sl e=.ok i→Same H H'→H' q=some (.tup [.str sh,.int i])→Q (.ref q) H')∧∀ er H',rk s.sl e=.error er→Same H H'→Y8 t er E H'
def xK (t:Adr):Sp:=fun vs H Q _=>∃ (x q:Addr) (p:Pl) (w:Int) (a:RAd) (C:List Cs) (s:RSt),vs=[.ref x,.ref q,.int w]∧RnAt t H x a C s∧H q=some (.tup [.str p.1,.int p.2])∧s.no.length≤900∧∀ H',Kp x a H H'→RnAt t H' x a C (y9 p w s)→Q (.int (wM p w s)) H'
def x9 (t:Adr):Sp:=fun vs H Q E=>∃ (x:Addr) (v:V) (r:Rw) (w:Int) (m:Nat) (a:RAd) (C:List Cs) (s:RSt),vs=[.ref x,v,.int w]∧RnAt t H x a C s∧RwAt yO H v r∧vb r∧xQ r∧RnOk m s∧m≤900 ∧
 (∀ H' s',doR r w s=.ok s'→Kp x a H H'→RnAt t H' x a C s'→Q .non H')∧∀ H' er,doR r w s=.error er→Same H H'→Y8 t er E H'
def jp (t:Adr):Sp:=fun vs H Q E=>∃ (x:Addr) (v:V) (c:Cs) (w:Int) (m:Nat) (a:RAd) (C:List Cs) (s:RSt),vs=[.ref x,v,.int w]∧RnAt t H x a C s∧CsAt H v c∧Yd c∧RnOk m s∧m≤900 ∧
 (∀ H' s' k,yu c w s=.ok (k,s')→Kp x a H H'→RnAt t H' x a C s'→Q (.int (k:Nat)) H')∧∀ H' er,yu c w s=.error er→Same H H'→Y8 t er E H'
def jk (t:Adr):Sp:=fun vs H Q _=>∃ (x:Addr) (w:Int) (m:Nat) (a:RAd) (C:List Cs) (s:RSt),vs=[.ref x,.int w]∧RnAt t H x a C s∧(∀ c∈C,Yd c)∧RnOk m s∧m≤900∧∀ H',Kp x a H H'→RnAt t H' x a C (xL C w s)→Q .non H'
def jl (t:Adr):Sp:=fun vs H Q _=>∃ (x:Addr) (a:RAd) (C:List Cs) (s:RSt),vs=[.ref x]∧RnAt t H x a C s∧(∀ c∈C,Yd c)∧yL s.sl∧(∀ H',w5 C s=none→Same H H'→Q .non H')∧∀ p q H',w5 C s=some p→Same H H'→H' q=some (.tup [.str p.1,.int p.2])→Q (.ref q) H'
def vH (t:Adr):Sp:=fun vs H Q _=>∃ (x:Addr) (a:RAd) (C:List Cs) (s:RSt),vs=[.ref x]∧RnAt t H x a C s∧s.no.length≤900∧(s.no.map (·.1)).Nodup∧s.gi.length≤63∧(∀ H',ym C s=false→Same H H'→Q .non H') ∧
 ∀ r o nl gl out H',ym C s=true→Same H H'→H nl=none→H gl=none→nl≠gl→H' r=some (.tup [o,.ref nl,.ref gl])→ZN H' o (qF s)→LsAt H' nl s.no→LsAt H' gl out→Zs s out→Q (.ref r) H'
def xl (K:W.Frag):Sp:=fun vs H Q _=>∃ (a:Addr) (ns:List Int) (k:Nat),vs=[.ref a,.int k]∧SqL K H a (ns.map V.int)∧ns.length≤63∧∀ c H',Same H H'→Q (.int c) H'
def zr:Sp:=fun vs H Q _=>∃ c j,vs=[.int c,.int j]∧0≤j∧j≤1000∧∀ r H',0≤r→r < 2147483648→Same H H'→Q (.int r) H'
def wQ:Sp:=fun vs H Q _=>∃ c m,vs=[.int c,.int m]∧0≤m∧m≤6∧∀ nm ws H',Same H H'→NamesAt H' nm ws→(ws.length:Int)=m→Q (.ref nm) H'
def nmP (p:Pl):Prop:=xO p.1=true
structure rwV (r:Rw):Prop where
 ni:JZ r
 pl:Z9 r
 ok:xQ r
 nm:JS nmP r
def zU:Sp:=fun vs H Q _=>∃ c j,vs=[.int c,.int j]∧0≤j∧j≤900∧∀ w H',inW w=true→Same H H'→Q (.int w) H'
def lfV (v:V):Prop:=(∃ i,v=.int i∧inW i=true)∨∃ x,v=.str x∧xO x=true
def wdJ (w:Str):Prop:=isJ (.str w)=true∧w.length≤1000∧PyData.strOk w=true
def yt:Sp:=fun vs H Q _=>∃ c j a ws,vs=[.int c,.int j,.ref a]∧0≤j∧j≤700∧NamesAt H a ws∧ws.length=2∧∀ p e H',Same H H'→H p=none→H' p=some (.tup e)→TermOk e→tmP e→Q (.ref p) H'
def w6:Sp:=fun vs H Q _=>∃ c a b ws us,vs=[.int c,.ref a,.ref b]∧NamesAt H a ws∧ws.length=2∧NamesAt H b us∧us.length=2∧∀ v r H',Same H H'→RwAt yO H' v r→rwV r→Q v H'
structure Gm where
 e:List V
 a:Option Rws
 D:Rws
def zd7 (F:Addr→Prop) (H:Hp):List Gm→List V→List Addr→Prop
 | [],fs,sp=>fs=[]∧sp=[]
 | g :: gs,fs,sp=>∃ f tv fi c xs fs' sp',fs=.ref f :: fs'∧sp=f :: c :: sp'∧H f=some (.lst [tv,fi,.ref c])∧H c=some (.lst xs)∧RwsAt F H xs g.D∧(gs≠[]→∃ te,tv=.ref te∧F te∧H te=some (.tup g.e)∧tmP g.e) ∧
  ((g.a=none∧fi=.non)∨∃ a ys A,g.a=some A∧fi=.ref a∧F a∧H a=some (.lst ys)∧RwsAt F H ys A)∧zd7 F H gs fs' sp'
mutual
def gvR:Rw→Nat
 | .give _ _ _=>1
 | .iff _ a b=>max (jq a) (jq b)
 | _=>0
def jq:Rws→Nat
 | .nil=>0
 | .cons r rs=>gvR r + jq rs
end
mutual
def szR:Rw→Nat
 | .iff _ a b=>vI a + vI b + 2
 | _=>1
def vI:Rws→Nat
 | .nil=>0
 | .cons r rs=>szR r + vI rs
end
structure RwA (r:Rws) (i:Nat):Prop where
 dp:r.deep≤5
 pl:xM r
 ok:yX r
 gv:jq r≤i
 sz:vI r≤2 * i
def xV (q:Row):Prop:=inW q.2=true∧PyData.strOk q.1.1=true
def kc:Sp:=fun vs H Q _=>∃ (p:Addr) (ns:List Int) (a b:Addr) (ws us:List Str),vs=[.ref p,.ref a,.ref b]∧H p=some (.lst (ns.map V.int))∧ns.length≤14∧NamesAt H a ws∧ws.length=2∧NamesAt H b us∧us.length=2∧∀ v r H',Same H H'→qE yO H' v r→RwA r 14→Q v H'
def zbG:Cs→Prop
 | .row r=>Z9 r
 | _=>True
structure Qv (C:List Cs):Prop where
 ok:∀ c∈C,Yd c
 pl:∀ c∈C,zbG c
 fw:∀ (i to:Nat) (e:List V),C[i]?=some (Cs.skip e to)→i < to
 fg:∀ (i to:Nat),C[i]?=some (Cs.go to)→i < to
 le:C.length≤40
structure RnI (C:List Cs) (m:Nat) (s:RSt):Prop where
 ok:RnOk m s
 ng:∀ r∈s.gi,PyData.strOk r.1.1=true
 nn:∀ r∈s.no,PyData.strOk r.1.1=true
 at_:s.why=none→m≤s.n
 wy:∀ w,s.why=some w→PyData.strOk w=true
structure DoF (K:W.Frag) (t:Adr):Prop where
 cl:Cls K t.c_Doing
 n1:NoAttr K t.c_Doing "slots"
 n2:NoAttr K t.c_Doing "worths"
 n3:NoAttr K t.c_Doing "sayings"
structure DoAt (t:Adr) (H0 H:Hp) (x dx sl wo sa:Addr) (s:Sta):Prop where
 sm:Same H0 H
 f1:H0 sl=none
 f2:H0 wo=none
 f3:H0 sa=none
 ix:H x=some (.ins t.c_Doing dx [("slots",.ref sl),("worths",.ref wo),("sayings",.ref sa)])
 hs:H sl=some (.dK s.sl)
 hw:H wo=some (.dT (dOf s.wo))
 ha:H sa=some (.lst (s.sa.map V.int))
structure KL (rws:Rws) (tab:List Row):Prop where
 ok:yX rws
 dp:rws.deep < 6
 iw:∀ r∈tab,inW r.2=true
 ln:tab.length + rws.cnt≤500
 fw:∀ s,yE rws ⟨[],tab,[]⟩=.go s→(dOf s.wo).length≤63
def jr (t:Adr):Sp:=fun vs H Q _=>∃ x a tab H0 dx,vs=[.ref x,.ref a]∧Same H0 H∧H0 x=none∧H x=some (.ins t.c_Doing dx [])∧LsAt H0 a tab∧tab.length≤500 ∧
 ∀ H' sl wo sa,DoAt t H0 H' x dx sl wo sa ⟨[],tab,[]⟩→Q .non H'
def zG (t:Adr):Sp:=fun vs H Q E=>∃ x tm e H0 dx sl wo sa s,vs=[.ref x,.ref tm]∧DoAt t H0 H x dx sl wo sa s∧yL s.sl∧H tm=some (.tup e)∧TermOk e∧∀ H',Same H H'→fin t (rk s.sl e) Q E H'
def js (t:Adr):Sp:=fun vs H Q E=>∃ x v r m H0 dx sl wo sa s,vs=[.ref x,v]∧DoAt t H0 H x dx sl wo sa s∧RwAt yO H0 v r∧vb r∧xQ r∧StOk m s∧m≤900 ∧
 (∀ H' s',goR r s=.go s'→DoAt t H0 H' x dx sl wo sa s'→Q .non H')∧∀ H' e,goR r s=.er e→Same H0 H'→Y8 t e E H'
def yc (t:Adr) (n:Nat):Sp:=fun vs H Q E=>∃ x l xs rws m H0 dx sl wo sa s,vs=[.ref x,.ref l]∧DoAt t H0 H x dx sl wo sa s∧H0 l=some (.lst xs)∧RwsAt yO H0 xs rws∧yX rws∧rws.deep < n∧StOk m s∧m + rws.cnt≤900 ∧
 (∀ H' s',yE rws s=.go s'→DoAt t H0 H' x dx sl wo sa s'→Q (.bl true) H')∧(∀ H',yE rws s=.off→Same H0 H'→Q (.bl false) H')∧∀ H' e,yE rws s=.er e→Same H0 H'→Y8 t e E H'
def yV:Sp:=fun vs H Q _=>∃ (w:Str) (a:Addr) (tab:List Row),vs=[.str w,.ref a]∧LsAt H a tab∧∀ r o l H',Same H H'→H l=none→H' r=some (.tup [o,.ref l])→ZN H' o (.off w)→LsAt H' l tab→Q (.ref r) H'
def kY:Sp:=fun vs H Q _=>∃ a rows,vs=[.ref a]∧LsAt H a rows∧(dOf rows).length≤63∧rows.length≤1000∧∀ l out H',Same H H'→H l=none→LsAt H' l out→vC rows out→Q (.ref l) H'
def Xa:Sp:=fun vs H Q _=>∃ v a rws tab,vs=[v,.ref a]∧qE yO H v rws∧LsAt H a tab∧KL rws tab∧∀ r o l oc out H',Same H H'→H l=none→H' r=some (.tup [o,.ref l])→ZN H' o oc→LsAt H' l out→vY rws tab oc out→Q (.ref r) H'
def qA:Sp:=fun vs H Q _=>∃ (l q:Addr) (rows:List Row) (p:Pl),vs=[.ref l,.ref q]∧LsAt H l rows∧rows.length≤500∧H q=some (.tup [.str p.1,.int p.2])∧∀ H',Same H H'→Q (.int ((zu rows p).getD 0)) H'
def vJ (rows:List Row) (p:Pl):Int:=(zu rows p).getD 0
def q8 (C:List Cs) (tb:Pl→Int) (s:RSt):Int:=match w5 C s with
 | none=>0
 | some p=>tb p
def yP (C:List Cs) (tb:Pl→Int) (s:RSt):RSt:=xL C (q8 C tb s) s
def wg (C:List Cs) (tb:Pl→Int):Nat→RSt→RSt
 | 0,s=>s
 | k + 1,s=>wg C tb k (yP C tb s)
def Rch (C:List Cs) (tb:Pl→Int) (s s':RSt):Prop:=∃ k,wg C tb k s=s'
structure WS (C:List Cs) (rows:List Row) (s:RSt):Prop where
 ov:ym C s=true
 rc:Rch C (vJ rows) st0 s
 ri:∃ m,m≤C.length∧RnI C m s
 fw:s.gi.length + s.no.length≤C.length
def PpAt (H0 H:Hp) (r:Addr) (s:RSt):Prop:=∃ o nl gl out,H r=some (.tup [o,.ref nl,.ref gl])∧ZN H o (qF s)∧LsAt H nl s.no∧LsAt H gl out∧Zs s out∧H0 nl=none∧H0 gl=none
def ke (t:Adr):Sp:=fun vs H Q _=>∃ (l tl:Addr) (xs:List V) (C:List Cs) (rows:List Row),vs=[.ref l,.ref tl]∧H l=some (.lst xs)∧Paired (CsAt H) xs C∧Qv C∧LsAt H tl rows∧rows.length≤500∧(∀ r∈rows,inW r.2=true)∧∀ r s H',Same H H'→WS C rows s→PpAt H H' r s→Q (.ref r) H'
def xg (n:Nat):Sp:=fun vs H Q _=>∃ (v:V) (r:Rws),vs=[v]∧qE yO H v r∧r.deep < n∧∀ H',Same H H'→Q (.int (r.deep:Nat)) H'
def jt:Sp:=fun vs H Q _=>∃ c b us,vs=[.int c,.ref b]∧NamesAt H b us∧us.length=2∧∀ l out H',Same H H'→LsAt H' l out→out.length≤6→(∀ r∈out,xV r)→Q (.ref l) H'
def yJ:Sp:=fun vs H Q _=>∃ d rows,vs=[.ref d]∧H d=some (.dT (dOf rows))∧(dOf rows).length≤63∧∀ l out H',Same H H'→H l=none→LsAt H' l out→vC rows out→Q (.ref l) H'
def ju:Sp:=fun vs H Q _=>∃ c b us tl tab r o nl gl no gi,vs=[.int c,.ref b,.ref tl,.ref r]∧NamesAt H b us∧us.length=2∧LsAt H tl tab∧(∀ r∈tab,xV r)∧tab.length≤6∧H r=some (.tup [o,.ref nl,.ref gl])∧LsAt H nl no∧LsAt H gl gi∧(∀ r∈no,xV r)∧(∀ r∈gi,xV r)∧no.length + gi.length≤40∧∀ d xs H',Same H H'→H d=none→H' d=some (.dT (dOf (tab ++ xs ++ no)))→(∀ r∈xs,xV r)→xs.length≤gi.length + 12→Q (.ref d) H'
def v3:Sp:=fun vs H Q _=>∃ w c,vs=[.int w,.int c]∧inW w=true∧∀ i H',inW i=true→Same H H'→Q (.int i) H'
def y7:Sp:=fun vs H Q _=>∃ (r nl gl:Addr) (o:V) (no gi:List Row),vs=[.ref r]∧H r=some (.tup [o,.ref nl,.ref gl])∧LsAt H nl no∧LsAt H gl gi∧∀ H',Same H H'→Q (.bl true) H'
def kZ:Sp:=fun vs H Q _=>∃ v c b us tl tab r,vs=[v,.int c,.ref b,.ref tl]∧qE yO H v r∧RwA r 14∧NamesAt H b us∧us.length=2∧LsAt H tl tab∧(∀ r∈tab,xV r)∧tab.length≤6∧∀ H',Same H H'→Q (.bl true) H'
def sp_law (K:W.Frag):Sp:=fun vs H Q _=>∃ (a:Addr) (ns:List Int),vs=[.ref a]∧SqL K H a (ns.map V.int)∧ns.length≤63∧∀ H',Q (.bl true) H'
def kh (K:W.Frag) (t:Adr):TS:=(zn (zH (tOp (rI (fun _ j=>0 < j) fun i j=>.int (i % j)) (tOp (rI0 fun i j=>.int (i + j)) (tOp (rI CMulB fun i j=>.int (i * j)) (tOp (rI (fun _ j=>0 < j) fun i j=>.int (i % j)) (zc 0) (tC (.int 1000000007))) (tC (.int 6700417))) (tOp (rI CMulB fun i j=>.int (i * j)) (tOp (rI CMulB fun i j=>.int (i * j)) (tOp (rI0 fun i j=>.int (i + j)) (zc 1) (tC (.int 1))) (tC (.int 104729))) (tC (.int 65537)))) (tC (.int 1000000009))) (zl 2))
  (zt (tOp (rI Kr fun i j=>.int (i / j)) (tOp (rI (fun _ j=>0 < j) fun i j=>.int (i % j)) (tOp (rI CMulB fun i j=>.int (i * j)) (tOp (rI (fun _ j=>0 < j) fun i j=>.int (i % j)) (tOp (rI CMulB fun i j=>.int (i * j)) (zc 2) (zc 2)) (tC (.int 1000000009))) (zc 2)) (tC (.int 1000000009))) (tC (.int 32)))))
def vc (K:W.Frag) (t:Adr):TS:=(zt (vA (wj (zb (zc 1) zj)) (zl 0) Vt (tOp qI (tOp qI (tSl YM (zc 1) yr (xh (zc 2))) (tOp Wt (zc 3) (zc 0))) (tSl YM (zc 1) (xh (tOp (rI0 fun i j=>.int (i + j)) (zc 2) (tC (.int 1)))) yr)) 1 [4,6,3]))
def ve (K:W.Frag) (t:Adr):TS:=(zn (zH (tOp (rI (fun _ j=>0 < j) fun i j=>.int (i % j)) (zo zr [] E0 (zb (zc 0) (zb (tC (.int 8)) zj))) (zc 2)) (zl 6))
  (zn (zH (tOp (rI (fun _ j=>0 < j) fun i j=>.int (i % j)) (zo zr [] E0 (zb (zc 0) (zb (tC (.int 9)) zj))) (tCB (xP K) (zb (zc 3) zj))) (zl 7))
  (zn (zH (tOp qI (tSl YM (zc 3) (xh (zc 7)) yr) (tSl YM (zc 3) yr (xh (zc 7)))) (zl 3))
  (vc K t))))
def vf (K:W.Frag) (t:Adr):TS:=(zn (zH (tC (.str "")) (zl 4))
  (zn (yH (wj (zb (zc 2) zj)) (zl 5)
    (zH (tOp qI (zc 4) (tOp Wt (zc 3) (tOp (rI (fun _ j=>0 < j) fun i j=>.int (i % j)) (zo zr [] E0 (zb (zc 0) (zb (tOp (rI0 fun i j=>.int (i + j)) (tC (.int 2)) (zc 5)) zj))) (tCB (xP K) (zb (zc 3) zj))))) (zl 4)))
  (ve K t)))
def jv (K:W.Frag) (t:Adr):TS:=(zn (zH (tOp (rI0 fun i j=>.int (i + j)) (tC (.int 1)) (tOp (rI (fun _ j=>0 < j) fun i j=>.int (i % j)) (zo zr [] E0 (zb (zc 0) (zb (tC (.int 1)) zj))) (tC (.int 6)))) (zl 2))
  (zn (zH (tC (.str "zyxwvtsrqpnmlkjhgfdcb")) (zl 3))
  (zn (zF (zp (tOp rEq (zc 2) (tC (.int 6))))
    (zH (tC (.str "zyxwvutsrqponmlkjihgfedcba")) (zl 3))
    zD)
  (vf K t))))
def vh (K:W.Frag) (t:Adr):TS:=(zn (zF (zp (tOp (rI0 fun i j=>.bl (decide (i < j))) (zc 1) (tCB (xP K) (zb (zc 0) zj))))
   (zt (tOp (xz K) (zc 0) (zc 1)))
   zD)
  (zt (tC (.int 0))))
def ki (K:W.Frag) (t:Adr) (n:Nat):TS:=(zn (zH (tC (.int 0)) (zl 1))
  (zn (yH (yG K (zc 0)) (zl 2)
    (zF (zp (tOp rEq (tOp (zv K) (zc 2) (tC (.int 0))) (tC (.str "if"))))
    (zH (tCB KJ (zb (zc 1) (zb (tOp (rI0 fun i j=>.int (i + j)) (tC (.int 1)) (tCB KJ (zb (zo (xg  n) [] E0 (zb (tOp (zv K) (zc 2) (tC (.int 2))) zj)) (zb (zo (xg  n) [] E0 (zb (tOp (zv K) (zc 2) (tC (.int 3))) zj)) zj)))) zj))) (zl 1))
    zD))
  (zt (zc 1))))
def v4 (K:W.Frag) (t:Adr):TS:=(zn (zF (zp (tOp rEq (tOp (rI (fun _ j=>0 < j) fun i j=>.int (i % j)) (zo zr [] E0 (zb (zc 0) (zb (zc 1) zj))) (tC (.int 6))) (tC (.int 3))))
   (zt (tOp (rI0 fun i j=>.int (i - j)) (tOp (rI (fun _ j=>0 < j) fun i j=>.int (i % j)) (tOp (rI0 fun i j=>.int (i + j)) (tOp (rI CMulB fun i j=>.int (i * j)) (tOp (rI CMulB fun i j=>.int (i * j)) (tOp (rI (fun _ j=>0 < j) fun i j=>.int (i % j)) (zc 0) (tOp (rI Jw fun i j=>.int (i ^ j.toNat)) (tC (.int 10)) (tC (.int 40)))) (tOp (rI0 fun i j=>.int (i + j)) (zc 1) (tC (.int 2)))) (tC (.int 1000003))) (zc 1)) (tOp (rI0 fun i j=>.int (i + j)) (tOp (rI CMulB fun i j=>.int (i * j)) (tC (.int 2)) (tOp (rI Jw fun i j=>.int (i ^ j.toNat)) (tC (.int 10)) (tC (.int 30)))) (tC (.int 1)))) (tOp (rI Jw fun i j=>.int (i ^ j.toNat)) (tC (.int 10)) (tC (.int 30)))))
   zD)
  (zt (tOp (rI0 fun i j=>.int (i - j)) (tOp (rI (fun _ j=>0 < j) fun i j=>.int (i % j)) (zo zr [] E0 (zb (zc 0) (zb (tOp (rI0 fun i j=>.int (i + j)) (zc 1) (tC (.int 1))) zj))) (tC (.int 5))) (tC (.int 1)))))
def kj (K:W.Frag) (t:Adr):TS:=(zn (zH (tOp (xz K) (zc 2) (tOp (rI (fun _ j=>0 < j) fun i j=>.int (i % j)) (zo zr [] E0 (zb (zc 0) (zb (zc 1) zj))) (tC (.int 2)))) (zl 3))
  (zn (zH (tOp (rI (fun _ j=>0 < j) fun i j=>.int (i % j)) (zo zr [] E0 (zb (zc 0) (zb (tOp (rI0 fun i j=>.int (i + j)) (zc 1) (tC (.int 1))) zj))) (tC (.int 6))) (zl 4))
  (zn (zF (zp (tOp (rI0 fun i j=>.bl (decide (i < j))) (zc 4) (tC (.int 2))))
    (zt (z0 (zb (zc 3) zj)))
    zD)
  (zn (zF (zp (tOp (rI0 fun i j=>.bl (decide (i < j))) (zc 4) (tC (.int 4))))
    (zt (z0 (zb (zo zU [] E0 (zb (zc 0) (zb (tOp (rI0 fun i j=>.int (i + j)) (zc 1) (tC (.int 2))) zj))) zj)))
    zD)
  (zn (zH (yM (zb (tC (.str "plus")) (zb (tC (.str "minus")) (zb (tC (.str "rest")) (zb (tC (.str "under")) (zb (tC (.str "times")) (zb (tC (.str "same")) zj))))))) (zl 5))
  (zt (z0 (zb (zc 3) (zb (zo zU [] E0 (zb (zc 0) (zb (tOp (rI0 fun i j=>.int (i + j)) (zc 1) (tC (.int 2))) zj))) (zb (tOp (xz K) (zc 5) (tOp (rI (fun _ j=>0 < j) fun i j=>.int (i % j)) (zo zr [] E0 (zb (zc 0) (zb (tOp (rI0 fun i j=>.int (i + j)) (zc 1) (tC (.int 6))) zj))) (tC (.int 6)))) zj))))))))))
def jx (K:W.Frag) (t:Adr):TS:=(zn (zF (zp (tOp (rI0 fun i j=>.bl (decide (i < j))) (zc 3) (tC (.int 7))))
   (zt (z0 (zb (tC (.str "take")) (zb (zc 4) (zb (zc 6) (zb (zc 5) zj))))))
   zD)
  (zn (zF (zp (tOp (rI0 fun i j=>.bl (decide (i < j))) (zc 3) (tC (.int 11))))
    (zt (z0 (zb (tC (.str "give")) (zb (zc 4) (zb (zc 6) (zb (zo yt [] E0 (zb (zc 0) (zb (tC (.int 80)) (zb (zc 1) zj)))) zj))))))
    zD)
  (zn (zF (zp (tOp rEq (zc 3) (tC (.int 11))))
    (zt (z0 (zb (tC (.str "off")) (zb (z0 (zb (zc 5) (zb (zo zU [] E0 (zb (zc 0) (zb (tC (.int 90)) zj))) (zb (tC (.str "same")) zj)))) zj))))
    zD)
  (zt (z0 (zb (tC (.str "let")) (zb (zc 5) (zb (zo yt [] E0 (zb (zc 0) (zb (tC (.int 80)) (zb (zc 1) zj)))) zj))))))))
def k4 (K:W.Frag) (t:Adr):TS:=(zn (zH (tOp (rI (fun _ j=>0 < j) fun i j=>.int (i % j)) (zo zr [] E0 (zb (zc 0) (zb (tC (.int 0)) zj))) (tC (.int 16))) (zl 3))
  (zn (zH (tOp (xz K) (zc 2) (tOp (rI (fun _ j=>0 < j) fun i j=>.int (i % j)) (zo zr [] E0 (zb (zc 0) (zb (tC (.int 60)) zj))) (tC (.int 2)))) (zl 4))
  (zn (zH (tOp (xz K) (zc 1) (tOp (rI (fun _ j=>0 < j) fun i j=>.int (i % j)) (zo zr [] E0 (zb (zc 0) (zb (tC (.int 61)) zj))) (tC (.int 2)))) (zl 5))
  (zn (zH (z0 (zb (tOp (rI (fun _ j=>0 < j) fun i j=>.int (i % j)) (zo zr [] E0 (zb (zc 0) (zb (tC (.int 62)) zj))) (tC (.int 3))) zj)) (zl 6))
  (zn (zF (zp (tOp rEq (tOp (rI (fun _ j=>0 < j) fun i j=>.int (i % j)) (zo zr [] E0 (zb (zc 0) (zb (tC (.int 63)) zj))) (tC (.int 3))) (tC (.int 0))))
    (zH (zo yt [] E0 (zb (zc 0) (zb (tC (.int 70)) (zb (zc 1) zj)))) (zl 6))
    zD)
  (jx K t))))))
def v5 (K:W.Frag) (t:Adr):TS:=(zH (tOp xA (zc 4) (yM (zb (z0 (zb (tC (.str "say")) (zb (zo yt [] E0 (zb (zc 5) (zb (tC (.int 80)) (zb (zc 1) zj)))) zj))) (zb (zo w6 [] E0 (zb (tOp (rI0 fun i j=>.int (i + j)) (zc 5) (tC (.int 1))) (zb (zc 1) (zb (zc 2) zj)))) zj)))) (zl 4))
def wm (K:W.Frag) (t:Adr):TS:=(zH (tOp xA (zc 3) (yM (zb (zo w6 [] E0 (zb (zc 5) (zb (zc 1) (zb (zc 2) zj)))) zj))) (zl 3))
def v6 (K:W.Frag) (t:Adr):TS:=(zn (zH (yM (zb (z0 (zb (tC (.str "if")) (zb (zo yt [] E0 (zb (zc 5) (zb (tC (.int 100)) (zb (zc 1) zj)))) (zb (zc 3) (zb (zc 4) zj))))) zj)) (zl 3))
  (zH (yM zj) (zl 4)))
def wp (K:W.Frag) (t:Adr):TS:=(zF (Vj (zp (tOp rEq (zc 6) (tC (.int 15)))) (zp (tOp (rI0 fun i j=>.bl (decide (i < j))) (tCB (xP K) (zb (zc 4) zj)) (tC (.int 3)))))
   (v5 K t)
   (wm K t))
def v7 (K:W.Frag) (t:Adr):TS:=(zn (zH (tOp (rI (fun _ j=>0 < j) fun i j=>.int (i % j)) (zo zr [] E0 (zb (zc 5) (zb (tC (.int 0)) zj))) (tC (.int 16))) (zl 6))
  (zF (Vj (zp (tOp (rIn K false) (zc 6) (z0 (zb (tC (.int 13)) (zb (tC (.int 14)) zj))))) (Vj (zp (tOp (Y3 K) (zc 3) (yM zj))) (zp (tOp (rI0 fun i j=>.bl (decide (i < j))) (zo (xg  6) [] E0 (zb (zc 3) zj)) (tC (.int 5))))))
   (v6 K t)
   (wp K t)))
def k9 (K:W.Frag) (t:Adr):TS:=(zn (yH (yG K (zc 0)) (zl 5)
   (v7 K t))
  (zt (tOp xA (zc 3) (zc 4))))
def km (K:W.Frag) (t:Adr):TS:=(zn (zH (yM zj) (zl 3))
  (zn (zH (yM zj) (zl 4))
  (k9 K t)))
def v9 (K:W.Frag) (t:Adr) (n:Nat):TS:=(zn (zH (zo (y8  n) [] E0 (zb (tOp (zv K) (zc 0) (tC (.int 2))) (zb (tOp (rI0 fun i j=>.int (i + j)) (zc 1) (tC (.int 1))) zj))) (zl 2))
  (zn (zH (tOp (rI0 fun i j=>.int (i + j)) (tOp (rI0 fun i j=>.int (i + j)) (zc 1) (tC (.int 1))) (tCB (xP K) (zb (zc 2) zj))) (zl 3))
  (zn (zF (zp (tOp (qT K) (tOp (zv K) (zc 0) (tC (.int 3))) (yM zj)))
    (zt (tOp xA (yM (zb (z0 (zb (tC (.str "skip")) (zb (tOp (zv K) (zc 0) (tC (.int 1))) (zb (zc 3) zj)))) zj)) (zc 2)))
    zD)
  (zn (zH (zo (y8  n) [] E0 (zb (tOp (zv K) (zc 0) (tC (.int 3))) (zb (tOp (rI0 fun i j=>.int (i + j)) (zc 3) (tC (.int 1))) zj))) (zl 4))
  (zt (tOp xA (tOp xA (tOp xA (yM (zb (z0 (zb (tC (.str "skip")) (zb (tOp (zv K) (zc 0) (tC (.int 1))) (zb (tOp (rI0 fun i j=>.int (i + j)) (zc 3) (tC (.int 1))) zj)))) zj)) (zc 2)) (yM (zb (z0 (zb (tC (.str "go")) (zb (tOp (rI0 fun i j=>.int (i + j)) (tOp (rI0 fun i j=>.int (i + j)) (zc 3) (tC (.int 1))) (tCB (xP K) (zb (zc 4) zj))) zj))) zj))) (zc 4)))))))
def qa (K:W.Frag) (t:Adr) (n:Nat):TS:=(zn (zH (yM zj) (zl 2))
  (zn (yH (yG K (zc 0)) (zl 3)
    (zF (zp (tOp rEq (tOp (zv K) (zc 3) (tC (.int 0))) (tC (.str "if"))))
    (yd (tBM K "list" kU (zc 2) (zb (zo (vZ  n) [] E0 (zb (zc 3) (zb (tOp (rI0 fun i j=>.int (i + j)) (zc 1) (tCB (xP K) (zb (zc 2) zj))) zj))) zj)))
    (yd (tBM K "list" zI (zc 2) (zb (zc 3) zj)))))
  (zt (zc 2))))
def q9 (K:W.Frag) (t:Adr):TS:=(zt (zo (y8  6) [] E0 (zb (zc 0) (zb (tC (.int 0)) zj))))
def qb (K:W.Frag) (t:Adr):TS:=(zn (ji K (zc 0) (tCB (Xt K) (zb (zc 1) zj)) "code")
  (zn (ji K (zc 0) (tC (.int 0)) "at")
  (zn (ji K (zc 0) (tC .non) "why")
  (zn (ji K (zc 0) YG "slots")
  (zn (ji K (zc 0) kO "gifts")
  (zn (ji K (zc 0) kO "notes")
  (ji K (zc 0) (yM zj) "sayings")))))))
def qc (K:W.Frag) (t:Adr):TS:=(zt (zcs (tOp Vu (yb K (zc 0) "why") (tC .non)) (tOp (rI0 fun i j=>.bl (decide (j≤i))) (yb K (zc 0) "at") (tCB (xP K) (zb (yb K (zc 0) "code") zj)))))
def qd (K:W.Frag) (t:Adr):TS:=(zn (zF (zp (tOp Vu (yb K (zc 0) "why") (tC .non)))
   (zt (z0 (zb (z0 (zb (tC (.str "off")) (zb (yb K (zc 0) "why") zj))) (zb (zc 1) (zb (yM zj) zj)))))
   zD)
  (zt (z0 (zb (z0 (zb (tC (.str "done")) (zb (tCB (JL K) (zb (yb K (zc 0) "sayings") zj)) zj))) (zb (zc 1) (zb (tCB KD (zb (ka (yb K (zc 0) "gifts")) zj)) zj))))))
def qe (K:W.Frag) (t:Adr):TS:=(zn (zH (tCB Z2 (zb (ka (yb K (zc 0) "notes")) zj)) (zl 1))
  (qd K t))
def ko (K:W.Frag) (t:Adr):TS:=(zn (zF (xx (tB (zT t.c_Run "over" (yC t) [] E0 (zc 0) zj)))
   (zt (tC .non))
   zD)
  (qe K t))
def Za (K:W.Frag) (t:Adr) (E:XK):TS:=(zn (zF (zp (tOp rEq (zc 2) (tC (.int 0))))
   (YN t.c_Nought (zb (Vy (zc 0)) zj) E)
   zD)
  (zt (tIf (zp (tOp rEq (zc 0) (tC (.str "over")))) (tOp (rI zcd fun i j=>.int (i.fdiv j)) (zc 1) (zc 2)) (tOp (rI (fun _ j=>j≠0) fun i j=>.int (i.fmod j)) (zc 1) (zc 2)))))
def Zb (K:W.Frag) (t:Adr) (E:XK):TS:=(zn (zF (zp (tOp rEq (zc 0) (tC (.str "plus"))))
   (zt (tOp (rI0 fun i j=>.int (i + j)) (zc 1) (zc 2)))
   zD)
  (zn (zF (zp (tOp rEq (zc 0) (tC (.str "minus"))))
    (zt (tOp (rI0 fun i j=>.int (i - j)) (zc 1) (zc 2)))
    zD)
  (zn (zF (zp (tOp rEq (zc 0) (tC (.str "times"))))
    (zt (tOp (rI CMulB fun i j=>.int (i * j)) (zc 1) (zc 2)))
    zD)
  (zn (zF (zp (tOp rEq (zc 0) (tC (.str "under"))))
    (zt (tIf (zp (tOp (rI0 fun i j=>.bl (decide (i < j))) (zc 1) (zc 2))) (tC (.int 1)) (tC (.int 0))))
    zD)
  (zn (zF (zp (tOp rEq (zc 0) (tC (.str "same"))))
    (zt (tIf (zp (tOp rEq (zc 1) (zc 2))) (tC (.int 1)) (tC (.int 0))))
    zD)
  (zt (zo (qX t) [] E (zb (zc 0) (zb (zc 1) (zb (zc 2) zj))))))))))
def qf (K:W.Frag) (t:Adr):TS:=(zn (zF (tOr (xx (tB (tCB (Zm K) (zb (zc 0) (zb (tC (.ty "int")) zj))))) (tB (tCB (Zm K) (zb (zc 0) (zb (tC (.ty "bool")) zj)))))
   (zt (tC (.bl false)))
   zD)
  (zt (Jx (rI0 fun i j=>.bl (decide (i≤j))) (rI0 fun i j=>.bl (decide (i≤j))) (tUn (rU fun i=>.int (-i)) (tOp (rI Jw fun i j=>.int (i ^ j.toNat)) (tC (.int 10)) (tC (.int 30)))) (zc 0) (tOp (rI Jw fun i j=>.int (i ^ j.toNat)) (tC (.int 10)) (tC (.int 30))))))
def ZO (K:W.Frag) (t:Adr) (E:XK):TS:=(zn (zH (zo (qY t) [] E (zb (zc 0) (zb (zc 1) (zb (zc 2) zj)))) (zl 3))
  (zn (zF (xx (tB (zo kW [] E (zb (zc 3) zj))))
    (YN t.c_Great (zb (Vy (zc 0)) zj) E)
    zD)
  (zt (zc 3))))
def qK (K:W.Frag) (t:Adr) (E:XK):TS:=(zn (zH (Ww K "list" wV (zc 2)) (zl 4))
  (zn (zH (Ww K "list" wV (zc 2)) (zl 5))
  (yd (tBM K "list" zI (zc 2) (zb (zo (wL t) [] E (zb (zc 3) (zb (zc 5) (zb (zc 4) zj)))) zj)))))
def qL (K:W.Frag) (t:Adr) (E:XK):TS:=(yd (tBM K "list" zI (zc 2) (zb (tIf (tB (tCB (Zm K) (zb (zc 3) (zb (tC (.ty "str")) zj)))) (z8 (zc 1) (zc 3) (tC (.int 0))) (zc 3)) zj)))
def jz (K:W.Frag) (t:Adr) (E:XK):TS:=(zF (zp (tOp (rIn K false) (zc 3) (tC (.ref t.c_JOINING))))
   (qK K t E)
   (qL K t E))
def qg (K:W.Frag) (t:Adr) (E:XK):TS:=(zn (zH (yM zj) (zl 2))
  (zn (yH (Jv K (zc 0)) (zl 3)
    (jz K t E))
  (zt (Ww K "list" wV (zc 2)))))
def vi (K:W.Frag) (t:Adr) (E:XK):TS:=(zt (zo (w4 t) [] E (zb (zc 1) (zb (yb K (zc 0) "slots") zj))))
def vj (K:W.Frag) (t:Adr) (E:XK):TS:=(zt (z0 (zb (tOp (zv K) (zc 1) (tC (.int 1))) (zb (zT t.c_Run "worth_of" (zN t) [] E (zc 0) (zb (tOp (zv K) (zc 1) (tC (.int 2))) zj)) zj))))
def qM (K:W.Frag) (t:Adr):TS:=(zn (zF (tOr (zp (tOp (WJ false) (zc 1) (yb K (zc 0) "gifts"))) (zp (tOp (WJ false) (zc 1) (yb K (zc 0) "notes"))))
   (zt (tC .non))
   zD)
  (zt (zc 1)))
def qN (K:W.Frag) (t:Adr):TS:=(zn (KK K (YO (j9 t.c_Run "place_in" (z6 t) (zc 0) (zb (tOp (xz K) (yb K (zc 0) "code") (yb K (zc 0) "at")) zj)) 1) t.c_Great t.c_Nought (zt (tC .non)))
  (qM K t))
def qh (K:W.Frag) (t:Adr):TS:=(zn (zF (tOr (tB (zT t.c_Run "over" (yC t) [] E0 (zc 0) zj)) (zp (tOp rNe (tOp (zv K) (tOp (xz K) (yb K (zc 0) "code") (yb K (zc 0) "at")) (tC (.int 0))) (tC (.str "take")))))
   (zt (tC .non))
   zD)
  (qN K t))
def kq (K:W.Frag) (t:Adr):TS:=(zn (zF (zp (tOp (WJ false) (zc 1) (yb K (zc 0) "gifts")))
   (zt (vT (yb K (zc 0) "gifts") (zc 1)))
   zD)
  (zn (zF (zp (tOp (WJ true) (zc 1) (yb K (zc 0) "notes")))
    (yg (yb K (zc 0) "notes") (zc 1) (zc 2))
    zD)
  (zt (vT (yb K (zc 0) "notes") (zc 1)))))
def wc (K:W.Frag) (t:Adr) (E:XK):TS:=(zF (zp (tOp rEq (tOp (zv K) (zc 1) (tC (.int 0))) (tC (.str "take"))))
   (yg (yb K (zc 0) "slots") (tOp (zv K) (zc 1) (tC (.int 3))) (zT t.c_Run "taken" (xK t) [] E (zc 0) (zb (zT t.c_Run "place_in" (z6 t) [] E (zc 0) (zb (zc 1) zj)) (zb (zc 2) zj))))
   (zF (zp (tOp rEq (tOp (zv K) (zc 1) (tC (.int 0))) (tC (.str "give"))))
   (zn (zH (zT t.c_Run "place_in" (z6 t) [] E (zc 0) (zb (zc 1) zj)) (zl 3))
  (yg (yb K (zc 0) "gifts") (zc 3) (zT t.c_Run "worth_of" (zN t) [] E (zc 0) (zb (tOp (zv K) (zc 1) (tC (.int 3))) zj))))
   (zF (zp (tOp rEq (tOp (zv K) (zc 1) (tC (.int 0))) (tC (.str "let"))))
   (yg (yb K (zc 0) "slots") (tOp (zv K) (zc 1) (tC (.int 1))) (zT t.c_Run "worth_of" (zN t) [] E (zc 0) (zb (tOp (zv K) (zc 1) (tC (.int 2))) zj)))
   (yd (tBM K "list" zI (yb K (zc 0) "sayings") (zb (zT t.c_Run "worth_of" (zN t) [] E (zc 0) (zb (tOp (zv K) (zc 1) (tC (.int 1))) zj)) zj))))))
def xq (K:W.Frag) (t:Adr) (E:XK):TS:=(zn (zF (zp (tOp rEq (tOp (zv K) (zc 1) (tC (.int 0))) (tC (.str "go"))))
   (zt (tOp (zv K) (zc 1) (tC (.int 1))))
   zD)
  (zn (zF (zp (tOp rEq (tOp (zv K) (zc 1) (tC (.int 0))) (tC (.str "skip"))))
    (zt (tIf (zp (tOp rEq (zT t.c_Run "worth_of" (zN t) [] E (zc 0) (zb (tOp (zv K) (zc 1) (tC (.int 1))) zj)) (tC (.int 0)))) (tOp (zv K) (zc 1) (tC (.int 2))) (tOp (rI0 fun i j=>.int (i + j)) (yb K (zc 0) "at") (tC (.int 1)))))
    zD)
  (zn (zF (zp (tOp rEq (tOp (zv K) (zc 1) (tC (.int 0))) (tC (.str "off"))))
    (zF (zp (tOp rNe (zT t.c_Run "worth_of" (zN t) [] E (zc 0) (zb (tOp (zv K) (zc 1) (tC (.int 1))) zj)) (tC (.int 0))))
    (ji K (zc 0) (tC (.str "told")) "why")
    zD)
    (yd (zT t.c_Run "does" (x9 t) [] E (zc 0) (zb (zc 1) (zb (zc 2) zj)))))
  (zt (tOp (rI0 fun i j=>.int (i + j)) (yb K (zc 0) "at") (tC (.int 1)))))))
def qi (K:W.Frag) (t:Adr):TS:=(zn (zF (tB (zT t.c_Run "over" (yC t) [] E0 (zc 0) zj))
   QG
   zD)
  (ZL K (zax K (zc 0) (j9 t.c_Run "led_by" (jp t) (zc 0) (zb (tOp (xz K) (yb K (zc 0) "code") (yb K (zc 0) "at")) (zb (zc 1) zj))) "at") t.c_Great (ji K (zc 0) (tC (.str "great")) "why") t.c_Nought (ji K (zc 0) (tC (.str "nought")) "why")))
def ZP (K:W.Frag) (t:Adr):TS:=(zt (z8 (tCB qJ (zb (zc 0) zj)) (zc 1) (tC (.int 0))))
def J1 (K:W.Frag) (t:Adr):TS:=(zn (zH (XR t.c_Run (kX t) [] E0 (zb (zc 0) zj)) (zl 2))
  (zn (Js (xx (tB (zT t.c_Run "over" (yC t) [] E0 (zc 2) zj))) (zn (zH (zT t.c_Run "asks" (jl t) [] E0 (zc 2) zj) (zl 3))
  (yd (zT t.c_Run "step" (jk t) [] E0 (zc 2) (zb (tIf (zp (tOp zcD (zc 3) (tC .non))) (tC (.int 0)) (zo qA [] E0 (zb (zc 1) (zb (zc 3) zj)))) zj)))))
  (zt (zT t.c_Run "paper" (vH t) [] E0 (zc 2) zj))))
def vm (K:W.Frag) (t:Adr):TS:=(zn (yH (yG K (tOp (zv K) (zc 3) (tC (.int 1)))) (jJ K 2 (xu (zl 5) (xu (zl 6) jI)))
   (yg (zc 4) (zc 5) (zc 6)))
  (zt (zc 4)))
def vo (K:W.Frag) (t:Adr):TS:=(zn (yH (wj (zb (tC (.int 12)) zj)) (zl 7)
   (yg (zc 4) (z0 (zb (tOp (xz K) (zc 1) (tOp (rI (fun _ j=>0 < j) fun i j=>.int (i % j)) (zc 7) (tC (.int 2)))) (zb (tOp (rI0 fun i j=>.int (i - j)) (tOp (rI Kr fun i j=>.int (i / j)) (zc 7) (tC (.int 2))) (tC (.int 1))) zj))) (zo zU [] E0 (zb (zc 0) (zb (tOp (rI0 fun i j=>.int (i + j)) (tC (.int 120)) (tOp (rI CMulB fun i j=>.int (i * j)) (tC (.int 3)) (zc 7))) zj)))))
  (vm K t))
def vp (K:W.Frag) (t:Adr):TS:=(zn (yH (yG K (tOp (zv K) (zc 3) (tC (.int 2)))) (jJ K 2 (xu (zl 5) (xu (zl 6) jI)))
   (yg (zc 4) (zc 5) (zo zU [] E0 (zb (zc 0) (zb (tC (.int 110)) zj)))))
  (vo K t))
def jA (K:W.Frag) (t:Adr):TS:=(zn (zH (tCB qJ (zb (zc 2) zj)) (zl 4))
  (vp K t))
def ja (K:W.Frag) (t:Adr):TS:=(zdw (zt (tCB (VV K) (zb (vA (zaz (zc 0)) (jJ K 2 (xu (zl 0) (xu (zl 1) jI))) (zp (tOp rNe (zc 1) (tC (.int 0)))) (z0 (zb (zc 0) (zb (zc 1) zj))) 2 []) zj))))
def jb (K:W.Frag) (t:Adr):TS:=(zn (zH (zo zU [] E0 (zb (zc 1) (zb (tC (.int 160)) zj))) (zl 2))
  (zn (zF (zp (tOp rNe (zc 2) (zc 0)))
    (zt (zc 2))
    zD)
  (zn (zF (zp (tOp (rI0 fun i j=>.bl (decide (j < i))) (zc 0) (tC (.int 0))))
    (zt (tOp (rI0 fun i j=>.int (i - j)) (zc 0) (tC (.int 1))))
    zD)
  (zt (tOp (rI0 fun i j=>.int (i + j)) (zc 0) (tC (.int 1)))))))
def wN (K:W.Frag) (t:Adr):TS:=(zt (kx (tCB (Zm K) (zb (zc 0) (zb (tC (.ty "tuple")) zj))) (kx (tOp rEq (tCB (xP K) (zb (zc 0) zj)) (tC (.int 3))) (kx (tCB (Zm K) (zb (tOp (zv K) (zc 0) (tC (.int 1))) (zb (tC (.ty "list")) zj))) (tCB (Zm K) (zb (tOp (zv K) (zc 0) (tC (.int 2))) (zb (tC (.ty "list")) zj)))))))
def jB (K:W.Frag) (t:Adr):TS:=(zn (ji K (zc 0) YG "slots")
  (zn (ji K (zc 0) (tCB qJ (zb (zc 1) zj)) "worths")
  (ji K (zc 0) (yM zj) "sayings")))
def wq (K:W.Frag) (t:Adr) (E:XK):TS:=(zt (zo (w4 t) [] E (zb (zc 1) (zb (yb K (zc 0) "slots") zj))))
def kB (K:W.Frag) (t:Adr) (E:XK):TS:=(yg (yb K (zc 0) "slots") (tOp (zv K) (zc 1) (tC (.int 1))) (zT t.c_Doing "worth_of" (zG t) [] E (zc 0) (zb (tOp (zv K) (zc 1) (tC (.int 2))) zj)))
def kC (K:W.Frag) (t:Adr) (E:XK):TS:=(yd (tBM K "list" zI (yb K (zc 0) "sayings") (zb (zT t.c_Doing "worth_of" (zG t) [] E (zc 0) (zb (tOp (zv K) (zc 1) (tC (.int 1))) zj)) zj)))
def kD (K:W.Frag) (t:Adr) (E:XK):TS:=(yg (yb K (zc 0) "worths") (zc 2) (zT t.c_Doing "worth_of" (zG t) [] E (zc 0) (zb (tOp (zv K) (zc 1) (tC (.int 3))) zj)))
def kE (K:W.Frag) (t:Adr) (E:XK):TS:=(zn (zH (z0 (zb (tOp (zv K) (zc 1) (tC (.int 1))) (zb (zT t.c_Doing "worth_of" (zG t) [] E (zc 0) (zb (tOp (zv K) (zc 1) (tC (.int 2))) zj)) zj))) (zl 2))
  (kD K t E))
def kF (K:W.Frag) (t:Adr) (E:XK):TS:=(yg (yb K (zc 0) "slots") (tOp (zv K) (zc 1) (tC (.int 3))) (z8 (yb K (zc 0) "worths") (z0 (zb (tOp (zv K) (zc 1) (tC (.int 1))) (zb (zT t.c_Doing "worth_of" (zG t) [] E (zc 0) (zb (tOp (zv K) (zc 1) (tC (.int 2))) zj)) zj))) (tC (.int 0))))
def xr (K:W.Frag) (t:Adr) (E:XK):TS:=(zF (zp (tOp rEq (tOp (zv K) (zc 1) (tC (.int 0))) (tC (.str "take"))))
   (kF K t E)
   (zF (zp (tOp rEq (tOp (zv K) (zc 1) (tC (.int 0))) (tC (.str "give"))))
   (kE K t E)
   (zF (zp (tOp rEq (tOp (zv K) (zc 1) (tC (.int 0))) (tC (.str "let"))))
   (kB K t E)
   (kC K t E))))
def wd (K:W.Frag) (t:Adr) (n:Nat) (E:XK):TS:=(zF (xx (tB (zT t.c_Doing "goes_through" (yc t n) [] E (zc 0) (zb (tIf (zp (tOp rNe (zT t.c_Doing "worth_of" (zG t) [] E (zc 0) (zb (tOp (zv K) (zc 2) (tC (.int 1))) zj)) (tC (.int 0)))) (tOp (zv K) (zc 2) (tC (.int 2))) (tOp (zv K) (zc 2) (tC (.int 3)))) zj))))
   (zt (tC (.bl false)))
   zD)
def we (K:W.Frag) (t:Adr) (n:Nat) (E:XK):TS:=(yd (zT t.c_Doing "does" (js t) [] E (zc 0) (zb (zc 2) zj)))
def wf (K:W.Frag) (t:Adr) (n:Nat) (E:XK):TS:=(zF (zp (tOp rNe (zT t.c_Doing "worth_of" (zG t) [] E (zc 0) (zb (tOp (zv K) (zc 2) (tC (.int 1))) zj)) (tC (.int 0))))
   (zt (tC (.bl false)))
   zD)
def yx (K:W.Frag) (t:Adr) (n:Nat) (E:XK):TS:=(zF (zp (tOp rEq (tOp (zv K) (zc 2) (tC (.int 0))) (tC (.str "off"))))
   (wf K t n E)
   (zF (zp (tOp rEq (tOp (zv K) (zc 2) (tC (.int 0))) (tC (.str "if"))))
   (wd K t n E)
   (we K t n E)))
def xt (K:W.Frag) (t:Adr) (n:Nat) (E:XK):TS:=(zn (yH (yG K (zc 1)) (zl 2)
   (yx K t n E))
  (zt (tC (.bl true))))
def jC (K:W.Frag) (t:Adr):TS:=(zt (z0 (zb (z0 (zb (tC (.str "off")) (zb (zc 0) zj))) (zb (tCB (Xt K) (zb (zc 1) zj)) zj))))
def jm (K:W.Frag) (t:Adr):TS:=(zn (zH (tCB qJ (zb (zc 0) zj)) (zl 1))
  (zt (vA (yG K (tCB Ky (zb (zc 1) zj))) (zl 0) (zp (tOp rNe (vT (zc 1) (zc 0)) (tC (.int 0)))) (z0 (zb (zc 0) (zb (vT (zc 1) (zc 0)) zj))) 1 [1])))
def Zc (K:W.Frag) (t:Adr):TS:=(zn (zF (xx (tB (zc 3)))
   (zt (zo yV [] E0 (zb (tC (.str "told")) (zb (zc 1) zj))))
   zD)
  (zt (z0 (zb (z0 (zb (tC (.str "done")) (zb (tCB (JL K) (zb (yb K (zc 2) "sayings") zj)) zj))) (zb (zo kY [] E0 (zb (tCB Z2 (zb (ka (yb K (zc 2) "worths")) zj)) zj)) zj)))))
def Zd (K:W.Frag) (t:Adr):TS:=(zn (ZL K (YO (j9 t.c_Doing "goes_through" (yc t 6) (zc 2) (zb (zc 0) zj)) 3) t.c_Great (zt (zo yV [] E0 (zb (tC (.str "great")) (zb (zc 1) zj)))) t.c_Nought (zt (zo yV [] E0 (zb (tC (.str "nought")) (zb (zc 1) zj)))))
  (Zc K t))
def Xb (K:W.Frag) (t:Adr):TS:=(zn (zH (XR t.c_Doing (jr t) [] E0 (zb (zc 1) zj)) (zl 2))
  (Zd K t))
def jc (K:W.Frag) (t:Adr):TS:=(zn (zF (tOr (xx (tB (zo y7 [] E0 (zb (zc 13) zj)))) (zp (tOp (ZK K true) (tSl (Zi K) (tOp (zv K) (zc 13) (tC (.int 1))) yr (xh (tOp (rI0 fun i j=>.int (i + j)) (zc 8) (tC (.int 1))))) (tOp xA (tSl (Zi K) (tOp (zv K) (zc 5) (tC (.int 1))) yr (xh (zc 8))) (yM (zb (z0 (zb (zc 9) (zb (vT (zc 6) (zc 9)) zj))) zj))))))
   (zt (tC (.bl false)))
   zD)
  (zt (kx (tOp (ZK K false) (zc 11) (zc 12)) (tOp (ZK K false) (zo (ke t) [] E0 (zb (zc 4) (zb (zc 7) zj))) (zc 5)))))
def jd (K:W.Frag) (t:Adr):TS:=(zn (zH (zo yJ [] E0 (zb (zc 6) zj)) (zl 11))
  (zn (zH (tCB (Xt K) (zb (zc 11) zj)) (zl 12))
  (zn (zH (zo (ke t) [] E0 (zb (zc 4) (zb (zc 11) zj))) (zl 13))
  (jc K t))))
def jD (K:W.Frag) (t:Adr):TS:=(zn (zH (tOp (rI (fun _ j=>0 < j) fun i j=>.int (i % j)) (zo zr [] E0 (zb (zc 1) (zb (tC (.int 170)) zj))) (tCB (xP K) (zb (tOp (zv K) (zc 5) (tC (.int 1))) zj))) (zl 8))
  (zn (zH (tOp (xz K) (tOp (zv K) (zc 5) (tC (.int 1))) (zc 8)) (jJ K 2 (xu (zl 9) (xu (zl 10) jI))))
  (zn (yg (zc 6) (zc 9) (zo v3 [] E0 (zb (zc 10) (zb (zc 1) zj))))
  (jd K t))))
def jE (K:W.Frag) (t:Adr):TS:=(zn (zF (tOr (zp (tOp (ZK K true) (zo (ke t) [] E0 (zb (zc 4) (zb (zc 7) zj))) (zc 5))) (zp (tOp (ZK K true) (tOp (zv K) (zo Xa [] E0 (zb (zc 0) (zb (zc 7) zj))) (tC (.int 0))) (tOp (zv K) (zc 5) (tC (.int 0))))))
   (zt (tC (.bl false)))
   zD)
  (zn (zF (zp (tOp (qT K) (tOp (zv K) (zc 5) (tC (.int 1))) (yM zj)))
    (zt (tC (.bl true)))
    zD)
  (jD K t)))
def jF (K:W.Frag) (t:Adr):TS:=(zn (zH (zo ju [] E0 (zb (zc 1) (zb (zc 2) (zb (zc 3) (zb (zc 5) zj))))) (zl 6))
  (zn (zH (zo yJ [] E0 (zb (zc 6) zj)) (zl 7))
  (jE K t)))
def qj (K:W.Frag) (t:Adr):TS:=(zn (zH (zo qZ [] E0 (zb (zc 0) zj)) (zl 4))
  (zn (zH (zo (ke t) [] E0 (zb (zc 4) (zb (zc 3) zj))) (zl 5))
  (zn (zF (xx (tB (zo y7 [] E0 (zb (zc 5) zj))))
    (zt (tC (.bl false)))
    zD)
  (jF K t))))
def kG (K:W.Frag) (t:Adr):TS:=(zn (yH (wj (zb (tOp (rI (fun _ j=>0 < j) fun i j=>.int (i % j)) (zo zr [] E0 (zb (zc 0) (zb (tC (.int 20)) zj))) (tC (.int 7))) zj)) (zl 3)
   (yg (zc 2) (z0 (zb (tOp (xz K) (zc 1) (tOp (rI (fun _ j=>0 < j) fun i j=>.int (i % j)) (zo zr [] E0 (zb (zc 0) (zb (tOp (rI0 fun i j=>.int (i + j)) (tC (.int 60)) (zc 3)) zj))) (tC (.int 2)))) (zb (tOp (rI (fun _ j=>0 < j) fun i j=>.int (i % j)) (zo zr [] E0 (zb (zc 0) (zb (tOp (rI0 fun i j=>.int (i + j)) (tC (.int 70)) (zc 3)) zj))) (tC (.int 3))) zj))) (zo zU [] E0 (zb (zc 0) (zb (tOp (rI0 fun i j=>.int (i + j)) (tC (.int 30)) (tOp (rI CMulB fun i j=>.int (i * j)) (tC (.int 4)) (zc 3))) zj)))))
  (zt (zo yJ [] E0 (zb (zc 2) zj))))
def jG (K:W.Frag) (t:Adr):TS:=(zn (zH kO (zl 2))
  (kG K t))
def Xc (K:W.Frag) (t:Adr):TS:=(zn (yH (VR (zb (tC (.int 0)) (zb (tCB (xP K) (zb (zc 4) zj)) (zb (zc 3) zj)))) (zl 5)
   (zn (zH (zo kc [] E0 (zb (tSl (Zi K) (zc 4) (xh (zc 5)) (xh (tOp (rI0 fun i j=>.int (i + j)) (zc 5) (zc 3)))) (zb (zc 1) (zb (zc 2) zj)))) (zl 6))
  (zF (xx (tB (zo kZ [] E0 (zb (zc 6) (zb (tOp (xz K) (zc 4) (zc 5)) (zb (zc 2) (zb (zo jt [] E0 (zb (tOp (xz K) (zc 4) (zc 5)) (zb (zc 2) zj))) zj)))))))
   (zt (tC (.bl false)))
   zD)))
  (zt (tC (.bl true))))
def J2 (K:W.Frag) (t:Adr):TS:=(zn (zH (zo wQ [] E0 (zb (zo (xl K) [] E0 (zb (zc 0) (zb (tC (.int 0)) zj))) (zb (tC (.int 2)) zj))) (zl 1))
  (zn (zH (zo wQ [] E0 (zb (zo (xl K) [] E0 (zb (zc 0) (zb (tC (.int 1)) zj))) (zb (tC (.int 2)) zj))) (zl 2))
  (zn (zH (tOp (rI0 fun i j=>.int (i + j)) (tC (.int 1)) (tOp (rI (fun _ j=>0 < j) fun i j=>.int (i % j)) (zo zr [] E0 (zb (zo (xl K) [] E0 (zb (zc 0) (zb (tC (.int 0)) zj))) (zb (tC (.int 200)) zj))) (tC (.int 14)))) (zl 3))
  (zn (zH (tSl (Zi K) (zc 0) yr (xh (tC (.int 240)))) (zl 4))
  (Xc K t)))))
section
variable {K:W.Frag} {t:Adr} {H:Hp} {Q:VK}
theorem KM {j:Int} (h0:0≤j) (h1:j≤100):Jw 10 j:=⟨h0,by lia,by decide⟩
theorem yy {n:Nat} (h:n≤100000):n≤sizeLine:=Nat.le_trans h (by decide)
theorem V0 (T:String):W.kitOne K (.type T) (.type T)=some true:=by
 unfold W.kitOne
 rw [if_pos (by simp)]
theorem kf (K:W.Frag):KF K:=⟨by with_unfolding_all rfl,by with_unfolding_all rfl,by with_unfolding_all rfl,by with_unfolding_all rfl,by with_unfolding_all rfl,by with_unfolding_all rfl,by with_unfolding_all rfl,by with_unfolding_all rfl,by with_unfolding_all rfl,by with_unfolding_all rfl⟩
theorem dB {i j:Int} (h0:0 < j:=by decide) (h1:j < 10000000000000000000000000000000000000000000000:=by decide):Kr i j:=by
 have hb:(10000000000000000000000000000000000000000000000:Int) < big:=by decide +kernel
 exact ⟨h0,by lia⟩
theorem zaB {α:Type} {xs:List α} {i:Int} (h0:0≤i) (h1:i < xs.length):∃ x,atI xs i=some x∧x∈xs:=by
 obtain ⟨n,rfl⟩:∃ n:Nat,i=(n:Int):=⟨i.toNat,by lia⟩
 have hn:n < xs.length:=by lia
 refine ⟨xs[n],?_,List.getElem_mem hn⟩
 unfold atI ixN
 rw [if_pos h0,if_pos h1]
 simp [hn]
theorem zaC {α:Type} {xs:List α} (e:Int) (n:Nat) (hl:xs.length=n) (hn:0 < (n:Int)):∃ x,atI xs (e % n)=some x∧x∈xs :=
 zaB (Int.emod_nonneg _ (by lia)) (by rw [hl];exact Int.emod_lt_of_pos _ hn)
theorem WT {i:Int} (hK:zbF K) (q:∀ H',Same H H'→Q (.bl (inW i)) H') :
  qf K t { nx:=fun _ H'=>Q .non H',rt:=Q } (L2.start ["thing"] [.int i]) H:=by
 simp only [qf,L2.start,zn,zt,zD,tOp,tUn,zc,tC,zb,zj,zF,tOr,xx,tB,tCB,Jx,rI,rI0,rU,Zm,List.map,List.replicate,List.length,List.append,jqa,jqb,jqc,jqd,jqe,jqf,jqg,jqh,jqi,jqj,jqk,jql,jqm,jqn,and_true,true_and,and_assoc,jqo,jqp,jqq,jqr,jqs,jqt,if_true,ite_true,jqu,ite_false,if_false]
 have q:=q H (Same.refl H)
 refine ⟨_,.int i,true,V0 _,?_⟩
 rw [if_neg (by decide)]
 refine ⟨_,.int i,false,hK,?_⟩
 rw [if_neg (by decide)]
 refine ⟨KM (by decide) (by decide),xN (fun c=>⟨KM (by decide) (by decide),?_⟩) fun c=>?_⟩
 ·have e:inW i=decide (i≤1000000000000000000000000000000):=by
   unfold inW
   by_cases h:i≤1000000000000000000000000000000
   ·rw [decide_eq_true h,decide_eq_true ⟨c,h⟩]
   ·rw [decide_eq_false h,decide_eq_false fun z=>h z.2]
  rw [e] at q
  exact q
 ·have e:inW i=false:=decide_eq_false fun z=>c z.1
  rw [e] at q
  exact q
theorem V1 {E:XK} {w:Str} {a b:Int} (hw:w.length≤1000) (ha:inW a=true) (hb:inW b=true) (q:∀ H',Same H H'→if b=0 then E (.ref t.c_Nought) none H' else Q (.int (if w="over" then a.fdiv b else a.fmod b)) H') :
  Za K t E { nx:=fun _ H'=>Q .non H',rt:=Q } (L2.start ["word","first","second"] [.str w,.int a,.int b]) H:=by
 simp only [Za,L2.start,YN,Vy,zn,zt,zD,tOp,zc,tC,zb,zj,zF,zp,tIf,rEq,rI,yA,List.map,List.replicate,List.length,List.append,jqa,jqb,jqc,jqd,jqe,jqf,jqg,jqh,jqi,jqj,jqk,jql,jqm,jqn,and_true,true_and,and_assoc,jqo,jqp,jqq,jqr,jqs,jqt,if_true,ite_true,jqu,ite_false,if_false]
 have q:=q H (Same.refl H)
 have B:=WH hb
 refine xN (fun c=>?_) fun c=>?_
 ·rw [if_pos c] at q
  exact ⟨by lia,fun y=>⟨by decide,q⟩⟩
 ·rw [if_neg c] at q
  refine xN (fun e=>?_) fun e=>?_
  ·rw [if_pos e] at q
   exact ⟨⟨c,B⟩,q⟩
  ·rw [if_neg e] at q
   exact ⟨c,q⟩
theorem V2 {E:XK} {w:Str} {a b:Int} (hw:w.length≤1000) (ha:inW a=true) (hb:inW b=true) (q:∀ H',Same H H'→if Z0 w∧b=0 then E (.ref t.c_Nought) none H' else Q (.int (vW w a b)) H') :
  Zb K t E { nx:=fun _ H'=>Q .non H',rt:=Q } (L2.start ["word","first","second"] [.str w,.int a,.int b]) H:=by
 simp only [Zb,qX,L2.start,zn,zt,zD,tOp,zc,tC,zb,zj,zF,zp,tIf,zo,rEq,rI,rI0,yA,List.map,List.replicate,List.length,List.append,jqa,jqb,jqc,jqd,jqe,jqf,jqg,jqh,jqi,jqj,jqk,jql,jqm,jqn,and_true,true_and,and_assoc,jqo,jqp,jqq,jqr,jqs,jqt,if_true,ite_true,jqu,ite_false,if_false]
 have A:=WH ha
 have B:=WH hb
 have nd:¬ Z0 w→Q (.int (vW w a b)) H:=fun h=>by
  have q:=q H (Same.refl H)
  rw [if_neg fun z=>h z.1] at q
  exact q
 refine xN (fun c=>?_) fun c1=>xN (fun c=>?_) fun c2=>xN (fun c=>⟨⟨A,B⟩,?_⟩) fun c3=>xN (fun c=>?_) fun c4=>xN (fun c=>?_) fun c5=>⟨hw,ha,hb,fun H' s=>?_⟩
 ·subst c
  have q:=nd fun z=>z.1 rfl
  exact q
 ·subst c
  have q:=nd fun z=>z.2.1 rfl
  rw [show vW "minus" a b=a - b by unfold vW;rw [if_neg c1,if_pos rfl]] at q
  exact q
 ·subst c
  have q:=nd fun z=>z.2.2.1 rfl
  rw [show vW "times" a b=a * b by unfold vW;rw [if_neg c1,if_neg c2,if_pos rfl]] at q
  exact q
 ·subst c
  have q:=nd fun z=>z.2.2.2.1 rfl
  rw [show vW "under" a b=if a < b then 1 else 0 by unfold vW;rw [if_neg c1,if_neg c2,if_neg c3,if_pos rfl]] at q
  refine xN (fun d=>?_) fun d=>?_
  ·rw [if_pos d] at q;exact q
  ·rw [if_neg d] at q;exact q
 ·subst c
  have q:=nd fun z=>z.2.2.2.2 rfl
  rw [show vW "same" a b=if a=b then 1 else 0 by unfold vW;rw [if_neg c1,if_neg c2,if_neg c3,if_neg c4,if_pos rfl]] at q
  refine xN (fun d=>?_) fun d=>?_
  ·rw [if_pos d] at q;exact q
  ·rw [if_neg d] at q;exact q
 ·have q:=q H' s
  have hd:Z0 w:=⟨c1,c2,c3,c4,c5⟩
  refine xN (fun d=>?_) fun d=>?_
  ·rw [if_pos ⟨hd,d⟩] at q;exact q
  ·rw [if_neg fun z=>d z.2] at q
   unfold vW at q
   rw [if_neg c1,if_neg c2,if_neg c3,if_neg c4,if_neg c5] at q
   exact q
theorem J3 {E:XK} {w:Str} {a b:Int} (hw:w.length≤1000) (ha:inW a=true) (hb:inW b=true) (q:∀ H',Same H H'→fin t (vB w a b) Q E H') :
  ZO K t E { nx:=fun _ H'=>Q .non H',rt:=Q } (L2.start ["word","first","second","worth"] [.str w,.int a,.int b]) H:=by
 simp only [ZO,qY,kW,L2.start,YN,Vy,zn,zH,zl,zt,zD,zc,zb,zj,zF,xx,tB,zo,List.map,List.replicate,List.length,List.append,jqa,jqb,jqc,jqd,jqe,jqf,jqg,jqh,jqi,jqj,jqk,jql,jqm,jqn,and_true,true_and,and_assoc,jqo,jqp,jqq,jqr,jqs,jqt,if_true,ite_true,jqu,ite_false,if_false]
 refine ⟨hw,ha,hb,fun H1 s1=>xN (fun c=>?_) fun c H2 s2=>xN (fun d=>?_) fun d=>?_⟩
 ·have q:=q H1 s1
  unfold vB at q
  rw [if_pos c] at q
  exact q
 ·have q:=q H2 (s1.trans s2)
  unfold vB at q
  rw [if_neg c,if_neg (by rw [d];decide)] at q
  exact ⟨by lia,fun y=>⟨by decide,q⟩⟩
 ·have q:=q H2 (s1.trans s2)
  unfold vB at q
  rw [if_neg c,if_pos (by simpa using d)] at q
  exact q
theorem V3 {xs:List V} {y:V}:(xs ++ [y])[(xs ++ [y]).length - 1]?=some y:=by simp
theorem ZQ {xs:List V} {y:V}:(xs ++ [y]).dropLast=xs:=by simp
theorem yj {H H':Hp} {w:Addr} {o:HO} (s:Same H H') (hw:H w=none):Same H (upd H' w o):=fun b u e=>by rw [zk (zJ e hw)];exact s b u e
theorem zcV (st:List Int):(∃ l a b,st=l ++ [a,b])∨∀ kvs v,isJ v=true→ww kvs st v=.error .stuck:=by
 cases h:st.reverse with
 | nil =>
  refine .inr fun kvs v hv=>?_
  unfold ww
  rw [hv,if_pos rfl,h]
  split <;> rename_i e1 e2 <;> first | rfl | cases e2
 | cons b r =>
  cases r with
  | nil =>
   refine .inr fun kvs v hv=>?_
   unfold ww
   rw [hv,if_pos rfl,h]
   split <;> rename_i e1 e2 <;> first | rfl | cases e2
  | cons a r =>
   refine .inl ⟨r.reverse,a,b,?_⟩
   have:=congrArg List.reverse h
   rw [List.reverse_reverse] at this
   rw [this];simp
theorem zaD {kvs:List (Key × V)} {l:List Int} {a b:Int} {w:Str} (hw:isJ (.str w)=true):ww kvs (l ++ [a,b]) (.str w)=match vB w a b with | .ok c=>.ok (l ++ [c]) | .error e=>.error e:=by
 unfold ww
 rw [hw,if_pos rfl]
 simp only [List.reverse_append,List.reverse_cons,List.reverse_nil,List.nil_append,List.cons_append]
 cases vB w a b with
 | error e=>rfl
 | ok c=>simp
def rkI (kvs:List (Key × V)) (ps:List V) (tm sl w:Addr) (H:Hp) (i:Nat) (σ:St) (H':Hp):Prop:=∃ st,(∃ o3 o4 o5,σ=[some (.ref tm),some (.ref sl),some (.ref w),o3,o4,o5])∧wW kvs (ps.take i) []=.ok st∧(∀ x∈st,inW x=true)∧st.length≤i∧H' w=some (.lst (st.map V.int))∧Same H H'
theorem WU {E:XK} {kvs:List (Key × V)} {tm sl:Addr} {ps:List V} {r:Except Er Int} (hK:W.kitOne K (.type "int") (.type "str")=some false) (hJ:∀ H:Hp,SqT K H t.c_JOINING jw) (h1:H tm=some (.tup ps)) (h2:H sl=some (.dK kvs)) (h3:Good kvs ps r) (h4:∀ v∈ps,j8 v) (h5:ps.length≤1000) (h6:yL kvs)
  (q:∀ H',Same H H'→fin t r Q E H'):qg K t E { nx:=fun _ H'=>Q .non H',rt:=Q } (L2.start ["term","slots","worths","part","second","first"] [.ref tm,.ref sl]) H:=by
 simp only [qg,wL,z8,L2.start,z8,zI,wV,yn,JE,zn,zH,zl,zt,yd,tOp,zc,tC,yM,zb,zj,yH,zF,zp,tB,tIf,tCB,tBM,Ww,tyV,zo,Jv,rIn,Zm,List.map,List.replicate,List.length,List.append,jqa,jqb,jqc,jqd,jqe,jqf,jqg,jqh,jqi,jqj,jqk,jql,jqm,jqn,and_true,true_and,and_assoc,jqo,jqp,jqq,jqr,jqs,jqt,if_true,ite_true,jqu,ite_false,if_false]
 refine ⟨by decide,fun w hw=>⟨⟨_,SqT.of ((isV w hw) _ _ h1)⟩,?_⟩⟩
 have run0:=h3.1 []
 have fe:∀ {e:Er} {H':Hp},wW kvs ps []=.error e→Same H H'→fin t (.error e) Q E H':=fun {e H'} z s=>by
  rw [z] at run0
  cases r with
  | ok i=>cases run0
  | error e' =>
   cases run0
   exact q _ s
 have ns:wW kvs ps []≠.error .stuck:=fun z=>by
  rw [z] at run0
  cases r with
  | ok i=>cases run0
  | error e' =>
   cases run0
   exact h3.2 rfl
 refine Q0 ps (rkI kvs ps tm sl w H) ⟨[],⟨_,_,_,rfl⟩,rfl,(fun x z=>nomatch z),Nat.le_refl _,zd,isV w hw⟩ (fun i σ H' ⟨st,a,b,c,d,e,s⟩=>SqT.of (s _ _ h1)) ?_ ?_
 ·rintro i v σ H' hv ⟨st,⟨o3,o4,o5,rfl⟩,hr,hW,hl,hst,hS⟩
  have hi:i < ps.length:=(List.getElem?_eq_some_iff.mp hv).1
  have one:=zbm hr hv
  have ok:=h4 v (List.mem_of_getElem? hv)
  have fl:Zj v=true:=by rcases ok with ⟨j,rfl,_⟩ | ⟨x,rfl,_⟩ <;> rfl
  simp only [jz,wL,z8,L2.start,z8,zI,wV,yn,JE,zn,zH,zl,zt,yd,tOp,zc,tC,yM,zb,zj,yH,zF,zp,tB,tIf,tCB,tBM,Ww,tyV,zo,Jv,rIn,Zm,List.map,List.replicate,List.length,List.append,jqa,jqb,jqc,jqd,jqe,jqf,jqg,jqh,jqi,jqj,jqk,jql,jqm,jqn,and_true,true_and,and_assoc,jqo,jqp,jqq,jqr,jqs,jqt,if_true,ite_true,jqu,ite_false,if_false]
  refine ⟨jw,.inr (hJ H'),fl,rfl,xN (fun c=>?_) fun c=>?_⟩
  ·simp only [qK,wL,z8,L2.start,z8,zI,wV,yn,JE,zn,zH,zl,zt,yd,tOp,zc,tC,yM,zb,zj,yH,zF,zp,tB,tIf,tCB,tBM,Ww,tyV,zo,Jv,rIn,Zm,List.map,List.replicate,List.length,List.append,jqa,jqb,jqc,jqd,jqe,jqf,jqg,jqh,jqi,jqj,jqk,jql,jqm,jqn,and_true,true_and,and_assoc,jqo,jqp,jqq,jqr,jqs,jqt,if_true,ite_true,jqu,ite_false,if_false]
   rcases zcV st with ⟨l,a,b,rfl⟩ | z
   ·obtain ⟨x,rfl,hx⟩:∃ x:Str,v=.str x∧x.length≤1000:=by
     rcases ok with ⟨j,rfl,_⟩ | h
     ·exact absurd c (by rw [show inV (V.int j) jw=false from rfl];decide)
     ·exact h
    have e1:List.map V.int (l ++ [a,b])=(l.map V.int ++ [.int a]) ++ [.int b]:=by simp
    rw [e1] at hst
    have one':=one.trans (zaD c)
    have wa:=hW a (by simp)
    have wb:=hW b (by simp)
    refine ⟨.inl ⟨_,SqL.of hst⟩,_,hst,_,V3,.inl ⟨_,SqL.of zd⟩,_,by rw [ZQ];exact zd,_,V3,.inl ⟨_,SqL.of zd⟩,x,rfl,a,rfl,b,rfl,hx,wa,wb,fun H2 s2=>?_⟩
    rw [ZQ,ZQ] at s2
    have S2:Same H H2:=(yj (yj hS hw) hw).trans s2
    cases e:vB x a b with
    | ok d =>
     rw [e] at one'
     have hd:inW d=true:=by
      unfold vB at e
      split at e
      ·cases e
      ·split at e
       ·rename_i z;cases e;exact z
       ·cases e
     refine ⟨_,s2 _ _ zd,?_,l ++ [d],⟨_,_,_,rfl⟩,one',?_,?_,?_,yj S2 hw⟩
     ·rw [List.length_map]
      have:(l ++ [a,b]).length=l.length + 2:=by simp
      exact Nat.lt_of_le_of_lt (by lia:l.length≤1000) (by decide)
     ·intro y hy
      rcases List.mem_append.mp hy with h | h
      ·exact hW y (List.mem_append_left _ h)
      ·have:y=d:=by simpa using h
       rw [this];exact hd
     ·have:(l ++ [a,b]).length=l.length + 2:=by simp
      rw [List.length_append];show l.length + 1≤i + 1
      lia
     ·rw [List.map_append];exact zd
    | error er =>
     rw [e] at one'
     have:=fe (Kv one') S2
     cases er with
     | nought=>exact this
     | great=>exact this
     | stuck=>trivial
   ·exact absurd (Kv (one.trans (z kvs v c))) ns
  ·simp only [qL,wL,z8,L2.start,z8,zI,wV,yn,JE,zn,zH,zl,zt,yd,tOp,zc,tC,yM,zb,zj,yH,zF,zp,tB,tIf,tCB,tBM,Ww,tyV,zo,Jv,rIn,Zm,List.map,List.replicate,List.length,List.append,jqa,jqb,jqc,jqd,jqe,jqf,jqg,jqh,jqi,jqj,jqk,jql,jqm,jqn,and_true,true_and,and_assoc,jqo,jqp,jqq,jqr,jqs,jqt,if_true,ite_true,jqu,ite_false,if_false]
   have st1:ww kvs st v=.ok (st ++ [JJ kvs v]):=by
    unfold ww
    rw [if_neg (by unfold isJ;exact c)]
   have one':=one.trans st1
   have hwv:=VB h6 ok
   have fin1:∀ u,u=V.int (JJ kvs v)→rkI kvs ps tm sl w H (i + 1) [some (V.ref tm),some (V.ref sl),some (V.ref w),some v,o4,o5] (upd H' w (HO.lst (List.map V.int st ++ [u]))):=fun u hu=>by
    subst hu
    refine ⟨st ++ [JJ kvs v],⟨_,_,_,rfl⟩,one',?_,?_,?_,yj hS hw⟩
    ·intro y hy
     rcases List.mem_append.mp hy with h | h
     ·exact hW y h
     ·have:y=JJ kvs v:=by simpa using h
      rw [this];exact hwv
    ·rw [List.length_append];show st.length + 1≤i + 1
     lia
    ·rw [List.map_append];exact zd
   have sz:(List.map V.int st).length < sizeLine:=by
    rw [List.length_map]
    exact Nat.lt_of_le_of_lt (by lia:st.length≤1000) (by decide)
   refine ⟨.inl ⟨_,SqL.of hst⟩,?_⟩
   rcases ok with ⟨j,rfl,hj⟩ | ⟨x,rfl,hx⟩
   ·refine ⟨_,.int j,false,hK,?_⟩
    rw [if_neg (by decide)]
    exact ⟨_,hst,sz,fin1 _ rfl⟩
   ·refine ⟨_,.str x,true,V0 _,?_⟩
    rw [if_pos rfl]
    refine ⟨.inl ⟨kvs,.inl (hS _ _ h2)⟩,_,DGet.k (k:=.inr x) (hS _ _ h2),_,hst,sz,fin1 _ ?_⟩
    show (yN kvs (.inr x)).getD (V.int 0)=V.int (match yN kvs (.inr x) with | some (.int i)=>i | _=>0)
    cases e:yN kvs (.inr x) with
    | none=>rfl
    | some u =>
     obtain ⟨i,rfl,_⟩:=h6 _ _ e
     rfl
 ·rintro σ H' ⟨st,⟨o3,o4,o5,rfl⟩,hr,hW,hl,hst,hS⟩
  rw [List.take_length] at hr
  simp only [jz,wL,z8,L2.start,z8,zI,wV,yn,JE,zn,zH,zl,zt,yd,tOp,zc,tC,yM,zb,zj,yH,zF,zp,tB,tIf,tCB,tBM,Ww,tyV,zo,Jv,rIn,Zm,List.map,List.replicate,List.length,List.append,jqa,jqb,jqc,jqd,jqe,jqf,jqg,jqh,jqi,jqj,jqk,jql,jqm,jqn,and_true,true_and,and_assoc,jqo,jqp,jqq,jqr,jqs,jqt,if_true,ite_true,jqu,ite_false,if_false]
  rw [hr] at run0
  cases r with
  | error e=>cases run0
  | ok i =>
   have e:st=[i]:=by injection run0
   subst e
   exact ⟨.inl ⟨_,SqL.of hst⟩,_,hst,_,rfl,q _ (yj hS hw)⟩
theorem ZR {a:Addr} {ns:List Int} {k:Nat} (hS:SqL K H a (ns.map V.int)) (hl:ns.length≤63) (q:∀ c H',Same H H'→Q (.int c) H') :
  vh K t { nx:=fun _ H'=>Q .non H',rt:=Q } (L2.start ["script","k"] [.ref a,.int k]) H:=by
 simp only [vh,L2.start,zn,zt,zD,tOp,zc,tC,zb,zj,zF,zp,tCB,vS,xz,rI0,xP,List.map,List.replicate,List.length,List.append,jqa,jqb,jqc,jqd,jqe,jqf,jqg,jqh,jqi,jqj,jqk,jql,jqm,jqn,and_true,true_and,and_assoc,jqo,jqp,jqq,jqr,jqs,jqt,if_true,ite_true,jqu,ite_false,if_false]
 refine ⟨_,.inl ⟨_,hS,rfl⟩,xN (fun c=>?_) fun _=>q _ _ (Same.refl H)⟩
 obtain ⟨v,hv,hm⟩:=zaB (xs:=ns.map V.int) (i:=(k:Int)) (by lia) c
 obtain ⟨i,_,rfl⟩:=List.mem_map.mp hm
 exact ⟨_,hS,_,hv,q _ _ (Same.refl H)⟩
theorem Zt (c:Nat):({ cps:=#[c] }:Str).length=1:=rfl
theorem yf {H H':Hp} {D:Addr} (s:Same H H') (h:H' D=none):H D=none:=by
 cases e:H D with
 | none=>rfl
 | some o=>rw [s _ _ e] at h;cases h
theorem fin_err {t:Adr} {e:Er} {Q:VK} {E:XK} {H:Hp}:fin t (.error e) Q E H↔Y8 t e E H:=by cases e <;> rfl
theorem fin_ok {t:Adr} {i:Int} {Q:VK} {E:XK} {H:Hp}:fin t (.ok i) Q E H↔Q (.int i) H:=Iff.rfl
theorem zaE {F:Addr→Prop} {v:V} {r:Rw} (h:RwAt F H v r) (d:vb r):∃ p xs hd,v=.ref p∧H p=some (.tup xs)∧atI xs 0=some (.str hd)∧hd≠"off"∧hd≠"if":=by
 cases r with
 | take sh e sl =>
  unfold RwAt at h
  obtain ⟨r,te,rfl,_,_,e2,e3⟩:=h
  exact ⟨r,_,_,rfl,e2,rfl,by decide +kernel,by decide +kernel⟩
 | give sh e f =>
  unfold RwAt at h
  obtain ⟨r,te,tf,rfl,_,_,_,e2,e3⟩:=h
  exact ⟨r,_,_,rfl,e2,rfl,by decide +kernel,by decide +kernel⟩
 | lt sl e =>
  unfold RwAt at h
  obtain ⟨r,te,rfl,_,_,e2,e3⟩:=h
  exact ⟨r,_,_,rfl,e2,rfl,by decide +kernel,by decide +kernel⟩
 | say e =>
  unfold RwAt at h
  obtain ⟨r,te,rfl,_,_,e2,e3⟩:=h
  exact ⟨r,_,_,rfl,e2,rfl,by decide +kernel,by decide +kernel⟩
 | off e=>exact d.elim
 | iff e a b=>exact d.elim
theorem Xy {c j:Int} (h1:0≤j) (h2:j≤1000) (q:∀ r H',0≤r→r < 2147483648→Same H H'→Q (.int r) H') :
  kh K t { nx:=fun _ H'=>Q .non H',rt:=Q } (L2.start ["cell","j","far"] [.int c,.int j]) H:=by
 simp only [kh,L2.start,zn,zH,zl,zt,tOp,zc,tC,rI,rI0,List.map,List.replicate,List.length,List.append,jqa,jqb,jqc,jqd,jqe,jqf,jqg,jqh,jqi,jqj,jqk,jql,jqm,jqn,and_true,true_and,and_assoc,jqo,jqp,jqq,jqr,jqs,jqt,if_true,ite_true,jqu,ite_false,if_false]
 have hb:(10000000000000000000000000000000000000000000000:Int) < big:=by decide +kernel
 have g1:=Int.emod_nonneg c (b:=1000000007) (by decide)
 have g2:=Int.emod_lt_of_pos c (b:=1000000007) (by decide)
 generalize c % 1000000007=a at *
 have g3:=Int.emod_nonneg (a * 6700417 + (j + 1) * 104729 * 65537) (b:=1000000009) (by decide)
 have g4:=Int.emod_lt_of_pos (a * 6700417 + (j + 1) * 104729 * 65537) (b:=1000000009) (by decide)
 generalize hf:(a * 6700417 + (j + 1) * 104729 * 65537) % 1000000009=f at *
 have g5:=Int.emod_nonneg (f * f) (b:=1000000009) (by decide)
 have g6:=Int.emod_lt_of_pos (f * f) (b:=1000000009) (by decide)
 generalize hg:f * f % 1000000009=g at *
 have g7:=Int.emod_nonneg (g * f) (b:=1000000009) (by decide)
 have g8:=Int.emod_lt_of_pos (g * f) (b:=1000000009) (by decide)
 refine ⟨by decide,⟨⟨by lia,by lia⟩,by lia,by lia⟩,⟨⟨by lia,by lia⟩,by lia,by lia⟩,⟨⟨by lia,by lia⟩,by lia,by lia⟩,by decide,?_⟩
 refine ⟨⟨⟨by lia,by lia⟩,by lia,by lia⟩,by decide,⟨⟨by lia,by lia⟩,by lia,by lia⟩,by decide,dB,q _ _ ?_ ?_ (Same.refl H)⟩
 ·exact Int.ediv_nonneg g7 (by decide)
 ·lia
theorem CsAt.same {H H':Hp} {v:V} {c:Cs} (h:CsAt H v c) (s:Same H H'):CsAt H' v c:=by
 cases c with
 | row r=>exact ⟨h.1.mono s,h.2⟩
 | skip e to =>
  obtain ⟨p,te,h1,h2,h3⟩:=h
  exact ⟨p,te,h1,s _ _ h2,s _ _ h3⟩
 | go en =>
  obtain ⟨p,h1,h2⟩:=h
  exact ⟨p,h1,s _ _ h2⟩
theorem wr {H H':Hp} (s:Same H H'):∀ {xs:List V} {C:List Cs},Paired (CsAt H) xs C→Paired (CsAt H') xs C
 | _,_,.nil=>.nil
 | _,_,.cons h r=>.cons (h.same s) (wr s r)
def TSm (H H':Hp):Prop:=∀ b ys,H b=some (.tup ys)→H' b=some (.tup ys)
theorem CsAt.ts {H H':Hp} {v:V} {c:Cs} (s:TSm H H') (h:CsAt H v c):CsAt H' v c:=by
 cases c with
 | row r =>
  obtain ⟨h,n⟩:=h
  refine ⟨?_,n⟩
  cases r with
  | iff e a b=>exact n.elim
  | take sh e sl =>
   obtain ⟨r,te,a1,a2,a3,a4,a5⟩:=h
   exact ⟨r,te,a1,a2,a3,s _ _ a4,s _ _ a5⟩
  | give sh e f =>
   obtain ⟨r,te,tf,a1,a2,a3,a4,a5,a6,a7⟩:=h
   exact ⟨r,te,tf,a1,a2,a3,a4,s _ _ a5,s _ _ a6,s _ _ a7⟩
  | lt sl e =>
   obtain ⟨r,te,a1,a2,a3,a4,a5⟩:=h
   exact ⟨r,te,a1,a2,a3,s _ _ a4,s _ _ a5⟩
  | say e =>
   obtain ⟨r,te,a1,a2,a3,a4,a5⟩:=h
   exact ⟨r,te,a1,a2,a3,s _ _ a4,s _ _ a5⟩
  | off e =>
   obtain ⟨r,te,a1,a2,a3,a4,a5⟩:=h
   exact ⟨r,te,a1,a2,a3,s _ _ a4,s _ _ a5⟩
 | skip e to =>
  obtain ⟨p,te,h1,h2,h3⟩:=h
  exact ⟨p,te,h1,s _ _ h2,s _ _ h3⟩
 | go en =>
  obtain ⟨p,h1,h2⟩:=h
  exact ⟨p,h1,s _ _ h2⟩
theorem kr {H H':Hp} (s:TSm H H'):∀ {xs:List V} {C:List Cs},Paired (CsAt H) xs C→Paired (CsAt H') xs C
 | _,_,.nil=>.nil
 | _,_,.cons h r=>.cons (h.ts s) (kr s r)
theorem KN (x:Rw):(∃ e a b,x=.iff e a b)∨JZ x:=by
 cases x with
 | iff e a b=>exact .inl ⟨e,a,b,rfl⟩
 | _=>exact .inr trivial
theorem vP {x:Rw} (h:JZ x) (k:Nat):yB x k=[.row x]:=by
 cases x with
 | iff e a b=>exact h.elim
 | _=>rw [yB];intro e a b z;cases z
theorem KO {F:Addr→Prop} {v:V} {r:Rw} (h:RwAt F H v r):∃ p xs hd,v=.ref p∧H p=some (.tup xs)∧atI xs 0=some (.str hd)∧(hd="if"↔¬ JZ r):=by
 cases r with
 | take sh e sl =>
  unfold RwAt at h
  obtain ⟨r,te,rfl,_,_,e2,e3⟩:=h
  exact ⟨r,_,_,rfl,e2,rfl,⟨fun z=>absurd z (by decide +kernel),fun z=>absurd trivial z⟩⟩
 | give sh e f =>
  unfold RwAt at h
  obtain ⟨r,te,tf,rfl,_,_,_,e2,e3⟩:=h
  exact ⟨r,_,_,rfl,e2,rfl,⟨fun z=>absurd z (by decide +kernel),fun z=>absurd trivial z⟩⟩
 | lt sl e =>
  unfold RwAt at h
  obtain ⟨r,te,rfl,_,_,e2,e3⟩:=h
  exact ⟨r,_,_,rfl,e2,rfl,⟨fun z=>absurd z (by decide +kernel),fun z=>absurd trivial z⟩⟩
 | say e =>
  unfold RwAt at h
  obtain ⟨r,te,rfl,_,_,e2,e3⟩:=h
  exact ⟨r,_,_,rfl,e2,rfl,⟨fun z=>absurd z (by decide +kernel),fun z=>absurd trivial z⟩⟩
 | off e =>
  unfold RwAt at h
  obtain ⟨r,te,rfl,_,_,e2,e3⟩:=h
  exact ⟨r,_,_,rfl,e2,rfl,⟨fun z=>absurd z (by decide +kernel),fun z=>absurd trivial z⟩⟩
 | iff e a b =>
  unfold RwAt at h
  obtain ⟨r,te,la,lb,xs,ys,rfl,f1,f2,f3,f4,e2,e3⟩:=h
  exact ⟨r,_,_,rfl,e2,rfl,⟨fun _ z=>z,fun _=>rfl⟩⟩
theorem Paired.app2 {α β:Type} {F:α→β→Prop}:∀ {a:List α} {b:List β} {c:List α} {d:List β},Paired F a b→Paired F c d→Paired F (a ++ c) (b ++ d)
 | _,_,_,_,.nil,h=>h
 | _,_,_,_,.cons h r,h2=>.cons h (Paired.app2 r h2)
theorem V4 {v:V} {r:Rws} (h1:qE yO H v r) (h2:Y9 6 r) (h3:(zm r 0).length≤500) (q:∀ l xs H',Same H H'→H l=none→H' l=some (.lst xs)→Paired (CsAt H') xs (zm r 0)→Q (.ref l) H') :
  q9 K t { nx:=fun _ H'=>Q .non H',rt:=Q } (L2.start ["rows"] [v]) H:=by
 simp only [q9,y8,L2.start,zt,zc,tC,zb,zj,zo,List.map,List.replicate,List.length,List.append,jqa,jqb,jqc,jqd,jqe,jqf,jqg,jqh,jqi,jqj,jqk,jql,jqm,jqn,and_true,true_and,and_assoc,jqo,jqp,jqq,jqr,jqs,jqt,if_true,ite_true,jqu,ite_false,if_false]
 exact ⟨r,0,rfl,h1,h2,by lia,q⟩
def sfI (v:V) (L:Addr) (xs:List V) (k n:Nat) (r:Rws) (H:Hp) (i:Nat) (σ:St) (H':Hp):Prop:=∃ (rest:Rws) (ys:List V) (C:List Cs),(∃ o,σ=[some v,some (.int k),some (.ref L),o])∧Same H H'∧H' L=some (.lst ys)∧Paired (CsAt H') ys C∧RwsAt yO H (xs.drop i) rest∧Y9 (n + 1) rest∧C ++ zm rest (k + C.length)=zm r k
theorem J4 {H:Hp} {L:Addr} {ys zs:List V} (h:H L=some (.lst ys)):TSm H (upd H L (.lst zs)):=fun b us e=>by rw [zk (yq e h (fun z=>nomatch z))];exact e
theorem WV {v:V} {r:Rws} {k n:Nat} (h1:qE yO H v r) (h2:Y9 (n + 1) r) (h3:k + (zm r k).length≤500) (q:∀ l xs H',Same H H'→H l=none→H' l=some (.lst xs)→Paired (CsAt H') xs (zm r k)→Q (.ref l) H') :
  qa K t n { nx:=fun _ H'=>Q .non H',rt:=Q } (L2.start ["rows","first","steps","row"] [v,.int k]) H:=by
 obtain ⟨p,xs,rfl,_,hp,hx⟩:=h1
 simp only [qa,vZ,kU,Ym,L2.start,zI,yn,zv,zn,zH,zl,zt,yd,tOp,zc,tC,yM,zb,zj,yH,zF,zp,tCB,tBM,tyV,zo,vS,yG,zv,rEq,rI0,xP,yA,List.map,List.replicate,List.length,List.append,jqa,jqb,jqc,jqd,jqe,jqf,jqg,jqh,jqi,jqj,jqk,jql,jqm,jqn,and_true,true_and,and_assoc,jqo,jqp,jqq,jqr,jqs,jqt,if_true,ite_true,jqu,ite_false,if_false]
 refine ⟨by decide,fun L hL=>?_⟩
 have s0:=isV (o:=HO.lst []) L hL
 refine ⟨⟨_,SqL.of (s0 _ _ hp)⟩,vL xs (sfI (.ref p) L xs k n r H) ⟨r,[],[],⟨_,rfl⟩,s0,zd,.nil,by rw [List.drop_zero];exact hx,h2,rfl⟩ (fun i σ H' ⟨_,_,_,_,s,_⟩=>SqL.of (s _ _ hp)) ?_ ?_⟩
 ·rintro i u σ H' hu ⟨rest,ys,C,⟨o,rfl⟩,s,hy,pr,hr,ok,eq⟩
  obtain ⟨x,rs,rfl,rx,rr⟩:=hr.get hu
  have e0:zm (.cons x rs) (k + C.length)=yB x (k + C.length) ++ zm rs (k + C.length + (yB x (k + C.length)).length):=by rw [zm]
  rw [e0] at eq
  have okd:=ok.dp
  have c1:(Rws.cons x rs).deep=max x.deep rs.deep:=by rw [Rws.deep]
  rw [c1] at okd
  have okc:=ok.ct
  have c2:(Rws.cons x rs).cnt=x.cnt + rs.cnt:=by rw [Rws.cnt]
  rw [c2] at okc
  have okp:=ok.pl
  unfold xM at okp
  have le:=congrArg List.length eq
  rw [List.length_append,List.length_append] at le
  have ly:=Paired.length pr
  have nx:∀ {H2:Hp} {o':Option V} {zs:List V},Same H H2→H2 L=some (.lst zs)→Paired (CsAt H2) zs (C ++ yB x (k + C.length))→sfI (.ref p) L xs k n r H (i + 1) [some (.ref p),some (.int k),some (.ref L),o'] H2:=fun {H2 o' zs} s2 g2 p2 =>
   ⟨rs,zs,_,⟨_,rfl⟩,s2,g2,p2,rr,⟨by lia,by lia,okp.2⟩,by rw [List.append_assoc,List.length_append,← Nat.add_assoc];exact eq⟩
  obtain ⟨p1,fs,hd,rfl,e2,e3,e4⟩:=KO rx
  simp only [kU,Ym,L2.start,zI,yn,zv,zn,zH,zl,zt,yd,tOp,zc,tC,yM,zb,zj,yH,zF,zp,tCB,tBM,tyV,zo,vS,yG,zv,rEq,rI0,xP,yA,List.map,List.replicate,List.length,List.append,jqa,jqb,jqc,jqd,jqe,jqf,jqg,jqh,jqi,jqj,jqk,jql,jqm,jqn,and_true,true_and,and_assoc,jqo,jqp,jqq,jqr,jqs,jqt,if_true,ite_true,jqu,ite_false,if_false]
  refine ⟨_,SqT.of (s _ _ e2),_,e3,rfl,?_⟩
  rcases KN x with ⟨e,a,b,rfl⟩ | hni
  ·rw [if_pos (congrArg V.str (e4.mpr (fun z=>z)))]
   have d1:(Rw.iff e a b).deep=max a.deep b.deep + 1:=by rw [Rw.deep]
   have d2:(Rw.iff e a b).cnt=max a.cnt b.cnt + 1:=by rw [Rw.cnt]
   rw [d1] at okd
   rw [d2] at okc
   have pl:=okp.1
   unfold Z9 at pl
   refine ⟨.inl ⟨_,SqL.of hy⟩,ys.length,.inl ⟨_,SqL.of hy,rfl⟩,e,a,b,k + C.length,by lia,rx.mono s,⟨by lia,by lia,pl.2.1⟩,⟨by lia,by lia,pl.2.2⟩,by lia,fun l us H2 s2 hl pu=>?_⟩
   have lu:=Paired.length pu
   refine ⟨ys,s2 _ _ hy,us,hl,Nat.le_trans (by lia:ys.length + us.length≤1000) (by decide),?_⟩
   exact nx (yj (s.trans s2) hL) zd (kr (J4 (s2 _ _ hy)) (Paired.app2 (wr s2 pr) pu))
  ·rw [if_neg (fun z=>e4.mp (V.str.inj z) hni)]
   have ec:=vP hni (k + C.length)
   rw [ec] at nx
   refine ⟨.inl ⟨_,SqL.of hy⟩,ys,hy,Nat.lt_of_le_of_lt (by lia:ys.length≤900) (by decide),?_⟩
   exact nx (yj s hL) zd (Paired.snocP (kr (J4 hy) pr) (CsAt.ts (J4 hy) ⟨rx.mono s,hni⟩))
 ·rintro σ H' ⟨rest,ys,C,⟨o,rfl⟩,s,hy,pr,hr,ok,eq⟩
  have e:=hr.none
  subst e
  rw [show zm .nil (k + C.length)=[] by rw [zm],List.append_nil] at eq
  rw [eq] at pr
  exact ⟨_,rfl,q L ys H' s hL hy pr⟩
theorem Ye {v:V} {e:List V} {a b:Rws} {k n:Nat} (h1:RwAt yO H v (.iff e a b)) (h2:Y9 n a) (h3:Y9 n b) (h4:k + (yB (.iff e a b) k).length≤500) (q:∀ l xs H',Same H H'→H' l=some (.lst xs)→Paired (CsAt H') xs (yB (.iff e a b) k)→Q (.ref l) H') :
  v9 K t n { nx:=fun _ H'=>Q .non H',rt:=Q } (L2.start ["row","at","steps","to","others"] [v,.int k]) H:=by
 unfold RwAt at h1
 obtain ⟨p,te,la,lb,xs,ys,rfl,f1,f2,f3,f4,e2,e3,e4,e6,e5,e7⟩:=h1
 have ec:yB (.iff e a b) k=blk e k (zm a (k + 1)) (Rws.isNil b) (zm b (k + 2 + (zm a (k + 1)).length)):=by rw [yB]
 rw [ec] at h4 q
 simp only [v9,y8,xA,L2.start,qT,zv,zn,zH,zl,zt,zD,tOp,zc,tC,yM,z0,zb,zj,zF,zp,tCB,zo,vS,xA,zv,rI0,xP,List.map,List.replicate,List.length,List.append,jqa,jqb,jqc,jqd,jqe,jqf,jqg,jqh,jqi,jqj,jqk,jql,jqm,jqn,and_true,true_and,and_assoc,jqo,jqp,jqq,jqr,jqs,jqt,if_true,ite_true,jqu,ite_false,if_false]
 refine ⟨_,SqT.of e2,_,rfl,a,k + 1,by lia,⟨la,xs,rfl,f3,e4,e6⟩,h2,?_,fun l us H1 s1 fl hl pu=>?_⟩
 ·unfold blk at h4;split at h4 <;> simp only [List.length_cons,List.length_append] at h4 <;> lia
 have lu:=Paired.length pu
 refine ⟨us.length,.inl ⟨_,SqL.of hl,rfl⟩,_,SqT.of (s1 _ _ e2),_,rfl,by decide,fun z gz=>?_⟩
 have s2:=isV (o:=HO.lst []) z gz
 refine ⟨lb,rfl,ys,SqL.of (s2 _ _ (s1 _ _ e5)),SqL.of zd,?_⟩
 generalize upd H1 z (HO.lst [])=H2 at *
 have S2:=s1.trans s2
 have nb:Rws.isNil b=decide (ys=[]):=by
  cases b with
  | nil=>unfold RwsAt at e7;simp [Rws.isNil,e7]
  | cons x r=>unfold RwsAt at e7;obtain ⟨v,vs,rfl,_⟩:=e7;simp [Rws.isNil]
 have hl2:=s2 _ _ hl
 have pu2:=wr s2 pu
 by_cases hb:ys=[]
 ·rw [if_pos hb]
  have eb:∀ B,blk e k (zm a (k + 1)) (Rws.isNil b) B=.skip e (k + 1 + (zm a (k + 1)).length) :: zm a (k + 1):=fun B=>by unfold blk;rw [if_pos (by rw [nb];exact decide_eq_true hb)]
  rw [eb] at q h4
  have ei:(k:Int) + 1 + us.length=((k + 1 + (zm a (k + 1)).length:Nat):Int):=by lia
  rw [ei]
  refine ⟨_,SqT.of (S2 _ _ e2),_,rfl,by decide,fun p1 g1=>⟨by decide,fun p2 g2=>?_⟩⟩
  have t1:=isV (o:=HO.tup [V.str (Str.ofString "skip"),V.ref te,V.int (k + 1 + (zm a (k + 1)).length:Nat)]) p1 g1
  have t2:=isV (o:=HO.lst [V.ref p1]) p2 g2
  have T:=t1.trans t2
  rw [List.length_cons] at h4
  refine ⟨_,zd,us,T _ _ hl2,Nat.le_trans (by rw [List.length_singleton];lia:_≤1000) (by decide),fun p3 g3=>?_⟩
  have t3:=isV (o:=HO.lst ([V.ref p1] ++ us)) p3 g3
  exact q p3 ([V.ref p1] ++ us) _ (S2.trans (T.trans t3)) zd (.cons ⟨p1,te,rfl,(t2.trans t3) _ _ zd,(S2.trans (T.trans t3)) _ _ e3⟩ (wr (T.trans t3) pu2))
 ·rw [if_neg hb]
  have eb:∀ B,blk e k (zm a (k + 1)) (Rws.isNil b) B=.skip e (k + 2 + (zm a (k + 1)).length) :: (zm a (k + 1) ++ (.go (k + 2 + (zm a (k + 1)).length + B.length) :: B)):=fun B=>by unfold blk;rw [if_neg (by rw [nb];simpa using hb)]
  rw [eb] at q h4
  rw [List.length_cons,List.length_append,List.length_cons] at h4
  have ei:(k:Int) + 1 + us.length + 1=((k + 2 + (zm a (k + 1)).length:Nat):Int):=by lia
  rw [ei]
  refine ⟨_,SqT.of (S2 _ _ e2),_,rfl,b,_,rfl,⟨lb,ys,rfl,f4,S2 _ _ e5,e7.mono S2⟩,h3,by lia,fun l2 ws H3 s3 fl2 hl3 pw=>?_⟩
  have lw:=Paired.length pw
  have S3:=S2.trans s3
  have hlu:=s3 _ _ hl2
  have pu3:=wr s3 pu2
  refine ⟨_,SqT.of (S3 _ _ e2),_,rfl,by decide,fun p1 g1=>⟨by decide,fun p2 g2=>?_⟩⟩
  have t1:=isV (o:=HO.tup [V.str (Str.ofString "skip"),V.ref te,V.int (k + 2 + (zm a (k + 1)).length:Nat)]) p1 g1
  have t2:=isV (o:=HO.lst [V.ref p1]) p2 g2
  have T:=t1.trans t2
  refine ⟨_,zd,us,T _ _ hlu,Nat.le_trans (by rw [List.length_singleton];lia:_≤1000) (by decide),fun p3 g3=>?_⟩
  have t3:=isV (o:=HO.lst ([V.ref p1] ++ us)) p3 g3
  have T3:=T.trans t3
  have hp1:=(t2.trans t3) p1 _ zd
  refine ⟨ws.length,.inl ⟨_,SqL.of (T3 _ _ hl3),rfl⟩,by decide,?_⟩
  have eg:((k + 2 + (zm a (k + 1)).length:Nat):Int) + ws.length=((k + 2 + (zm a (k + 1)).length + (zm b (k + 2 + (zm a (k + 1)).length)).length:Nat):Int):=by lia
  rw [eg]
  have hp3:upd (upd (upd H3 p1 (HO.tup [V.str (Str.ofString "skip"),V.ref te,V.int (k + 2 + (zm a (k + 1)).length:Nat)])) p2 (HO.lst [V.ref p1])) p3 (HO.lst ([V.ref p1] ++ us)) p3=some (HO.lst ([V.ref p1] ++ us)):=zd
  generalize upd (upd (upd H3 p1 (HO.tup [V.str (Str.ofString "skip"),V.ref te,V.int (k + 2 + (zm a (k + 1)).length:Nat)])) p2 (HO.lst [V.ref p1])) p3 (HO.lst ([V.ref p1] ++ us))=H4 at *
  refine fun p4 g4=>⟨by decide,fun p5 g5=>?_⟩
  have t4:=isV (o:=HO.tup [V.str (Str.ofString "go"),V.int (k + 2 + (zm a (k + 1)).length + (zm b (k + 2 + (zm a (k + 1)).length)).length:Nat)]) p4 g4
  have t5:=isV (o:=HO.lst [V.ref p4]) p5 g5
  refine ⟨_,(t4.trans t5) _ _ hp3,_,zd,Nat.le_trans (by rw [List.length_append,List.length_singleton,List.length_singleton];lia:_≤1000) (by decide),fun p6 g6=>?_⟩
  have t6:=isV (o:=HO.lst ([V.ref p1] ++ us ++ [V.ref p4])) p6 g6
  refine ⟨_,zd,ws,(T3.trans (t4.trans (t5.trans t6))) _ _ hl3,Nat.le_trans (by rw [List.length_append,List.length_append,List.length_singleton,List.length_singleton];lia:_≤1000) (by decide),fun p7 g7=>?_⟩
  have t7:=isV (o:=HO.lst ([V.ref p1] ++ us ++ [V.ref p4] ++ ws)) p7 g7
  have T4:=t4.trans (t5.trans (t6.trans t7))
  have T7:=T3.trans T4
  have el:[V.ref p1] ++ us ++ [V.ref p4] ++ ws=V.ref p1 :: (us ++ (V.ref p4 :: ws)):=by simp
  have P:∀ {Hx:Hp},Same H4 Hx→Hx p4=some (HO.tup [V.str (Str.ofString "go"),V.int (k + 2 + (zm a (k + 1)).length + (zm b (k + 2 + (zm a (k + 1)).length)).length:Nat)])→Paired (CsAt Hx) ([V.ref p1] ++ us ++ [V.ref p4] ++ ws) (.skip e (k + 2 + (zm a (k + 1)).length) :: (zm a (k + 1) ++ (.go (k + 2 + (zm a (k + 1)).length + (zm b (k + 2 + (zm a (k + 1)).length)).length) :: zm b (k + 2 + (zm a (k + 1)).length)))):=by
   intro Hx sx hx
   rw [el]
   exact .cons ⟨p1,te,rfl,sx _ _ hp1,(S3.trans (T3.trans sx)) _ _ e3⟩ (Paired.app2 (wr (T3.trans sx) pu3) (.cons ⟨p4,rfl,hx⟩ (wr (T3.trans sx) pw)))
  exact q p7 _ _ (S3.trans T7) zd (P T4 ((t5.trans (t6.trans t7)) _ _ zd))
theorem Zu {vs:List V} {H:Hp} {Q:VK} {E:XK} (h:y8 0 vs H Q E):False:=by
 obtain ⟨v,r,k,e,h1,h2,h3⟩:=h
 have:=h2.dp
 lia
theorem rnF {P:Str→Option Value} (T:Txt K P t):RnF K t:=⟨T.cl_Run,T.na_Run_code,T.na_Run_at,T.na_Run_why,T.na_Run_slots,T.na_Run_gifts,T.na_Run_notes,T.na_Run_sayings⟩
section
variable {x:Addr} {a:RAd} {C:List Cs} {s:RSt}
theorem RnAt.notup {b:Addr} {zs:List V} (R:RnAt t H x a C s) (h:H b=some (.tup zs)):¬ Ow x a b:=by
 rintro (rfl | rfl | rfl | rfl | rfl)
 ·rw [R.ix] at h;cases h
 ·rw [R.hs] at h;cases h
 ·rw [R.hg] at h;cases h
 ·rw [R.hn] at h;cases h
 ·rw [R.ha] at h;cases h
theorem RnAt.ts {H':Hp} (R:RnAt t H x a C s) (k:Kp x a H H'):TSm H H':=fun b ys e=>k b _ (R.notup e) e
theorem Kp.of_same {H':Hp} (s:Same H H'):Kp x a H H':=fun b o _ e=>s b o e
theorem Kp.trans {H' H'':Hp} (h:Kp x a H H') (k:Kp x a H' H''):Kp x a H H'':=fun b o n e=>k b o n (h b o n e)
theorem wO {b:Addr} {o:HO} (h:Ow x a b):Kp x a H (upd H b o):=fun c o' n e=>by rw [zk (fun z=>n (by rw [z];exact h))];exact e
theorem RnAt.same {H':Hp} (R:RnAt t H x a C s) (k:Same H H'):RnAt t H' x a C s :=
 ⟨k _ _ R.ix,let ⟨xs,h1,h2⟩:=R.hc;⟨xs,k _ _ h1,wr k h2⟩,k _ _ R.hs,k _ _ R.hg,k _ _ R.hn,k _ _ R.ha,R.ng,R.nc⟩
theorem RnAt.putI (R:RnAt t H x a C s) (s':RSt) (e1:s'.sl=s.sl) (e2:s'.gi=s.gi) (e3:s'.no=s.no) (e4:s'.sa=s.sa):RnAt t (upd H x (.ins t.c_Run a.dx (zdA a s'))) x a C s':=by
 refine ⟨zd,?_,?_,?_,?_,?_,R.ng,R.nc⟩
 ·obtain ⟨xs,h1,h2⟩:=R.hc
  exact ⟨xs,by rw [zk (yq h1 R.ix (fun z=>nomatch z))];exact h1,kr (R.ts (wO (.inl rfl))) h2⟩
 ·rw [zk (yq R.hs R.ix (fun z=>nomatch z)),e1];exact R.hs
 ·rw [zk (yq R.hg R.ix (fun z=>nomatch z)),e2];exact R.hg
 ·rw [zk (yq R.hn R.ix (fun z=>nomatch z)),e3];exact R.hn
 ·rw [zk (yq R.ha R.ix (fun z=>nomatch z)),e4];exact R.ha
theorem RnAt.putS (R:RnAt t H x a C s) (kvs:List (Key × V)):RnAt t (upd H a.sl (.dK kvs)) x a C { s with sl:=kvs }:=by
 refine ⟨by rw [zk (yq R.ix R.hs (fun z=>nomatch z))];exact R.ix,?_,zd,?_,?_,?_,R.ng,R.nc⟩
 ·obtain ⟨xs,h1,h2⟩:=R.hc
  exact ⟨xs,by rw [zk (yq h1 R.hs (fun z=>nomatch z))];exact h1,kr (R.ts (wO (.inr (.inl rfl)))) h2⟩
 ·rw [zk (yq R.hg R.hs (fun z=>nomatch z))];exact R.hg
 ·rw [zk (yq R.hn R.hs (fun z=>nomatch z))];exact R.hn
 ·rw [zk (yq R.ha R.hs (fun z=>nomatch z))];exact R.ha
theorem RnAt.putG (R:RnAt t H x a C s) (rows:List Row):RnAt t (upd H a.gi (.dT (dOf rows))) x a C { s with gi:=rows }:=by
 refine ⟨by rw [zk (yq R.ix R.hg (fun z=>nomatch z))];exact R.ix,?_,?_,zd,?_,?_,R.ng,R.nc⟩
 ·obtain ⟨xs,h1,h2⟩:=R.hc
  exact ⟨xs,by rw [zk (yq h1 R.hg (fun z=>nomatch z))];exact h1,kr (R.ts (wO (.inr (.inr (.inl rfl))))) h2⟩
 ·rw [zk (yq R.hs R.hg (fun z=>nomatch z))];exact R.hs
 ·rw [zk (Ne.symm R.ng)];exact R.hn
 ·rw [zk (yq R.ha R.hg (fun z=>nomatch z))];exact R.ha
theorem RnAt.putO (R:RnAt t H x a C s) (rows:List Row):RnAt t (upd H a.no (.dT (dOf rows))) x a C { s with no:=rows }:=by
 refine ⟨by rw [zk (yq R.ix R.hn (fun z=>nomatch z))];exact R.ix,?_,?_,?_,zd,?_,R.ng,R.nc⟩
 ·obtain ⟨xs,h1,h2⟩:=R.hc
  exact ⟨xs,by rw [zk (yq h1 R.hn (fun z=>nomatch z))];exact h1,kr (R.ts (wO (.inr (.inr (.inr (.inl rfl)))))) h2⟩
 ·rw [zk (yq R.hs R.hn (fun z=>nomatch z))];exact R.hs
 ·rw [zk R.ng];exact R.hg
 ·rw [zk (yq R.ha R.hn (fun z=>nomatch z))];exact R.ha
theorem RnAt.putA (R:RnAt t H x a C s) (is:List Int):RnAt t (upd H a.sa (.lst (is.map V.int))) x a C { s with sa:=is }:=by
 refine ⟨by rw [zk (yq R.ix R.ha (fun z=>nomatch z))];exact R.ix,?_,?_,?_,?_,zd,R.ng,R.nc⟩
 ·obtain ⟨xs,h1,h2⟩:=R.hc
  exact ⟨xs,by rw [zk R.nc];exact h1,kr (R.ts (wO (.inr (.inr (.inr (.inr rfl)))))) h2⟩
 ·rw [zk (yq R.hs R.ha (fun z=>nomatch z))];exact R.hs
 ·rw [zk (yq R.hg R.ha (fun z=>nomatch z))];exact R.hg
 ·rw [zk (yq R.hn R.ha (fun z=>nomatch z))];exact R.hn
end
theorem Zv {C:List Cs} {s:RSt} (h:¬ ym C s=true):s.n < C.length:=by
 unfold ym at h
 simp only [Bool.or_eq_true,decide_eq_true_eq,not_or] at h
 lia
theorem J5 (rows:List Row) (p:Pl) (w:Int):zu (rows ++ [(p,w)]) p=some w:=by
 have h:=xS (rows ++ [(p,w)]) p
 rw [jP,YC,if_pos rfl] at h
 cases hl:zu (rows ++ [(p,w)]) p with
 | none=>rw [hl] at h;cases h
 | some i=>rw [hl] at h;cases h;rfl
theorem zcW {v:V} {c:Cs} (h:CsAt H v c):∃ p zs hd,v=.ref p∧H p=some (.tup zs)∧atI zs 0=some (.str hd)∧(hd=Str.ofString "take"→∃ sh e x te,c=.row (.take sh e x)∧atI zs 1=some (.str sh)∧atI zs 2=some (.ref te)∧H te=some (.tup e))∧(hd≠Str.ofString "take"→∀ s,wx c s=none):=by
 cases c with
 | row r =>
  have h1:=h.1
  cases r with
  | take sh e sl=>unfold RwAt at h1;obtain ⟨r,te,rfl,_,_,e2,e3⟩:=h1;exact ⟨r,_,_,rfl,e2,rfl,fun _=>⟨sh,e,sl,te,rfl,rfl,rfl,e3⟩,fun z=>absurd rfl z⟩
  | give sh e f=>unfold RwAt at h1;obtain ⟨r,te,tf,rfl,_,_,_,e2,e3⟩:=h1;exact ⟨r,_,_,rfl,e2,rfl,fun z=>absurd z (by decide +kernel),fun _ _=>rfl⟩
  | lt sl e=>unfold RwAt at h1;obtain ⟨r,te,rfl,_,_,e2,e3⟩:=h1;exact ⟨r,_,_,rfl,e2,rfl,fun z=>absurd z (by decide +kernel),fun _ _=>rfl⟩
  | say e=>unfold RwAt at h1;obtain ⟨r,te,rfl,_,_,e2,e3⟩:=h1;exact ⟨r,_,_,rfl,e2,rfl,fun z=>absurd z (by decide +kernel),fun _ _=>rfl⟩
  | off e=>unfold RwAt at h1;obtain ⟨r,te,rfl,_,_,e2,e3⟩:=h1;exact ⟨r,_,_,rfl,e2,rfl,fun z=>absurd z (by decide +kernel),fun _ _=>rfl⟩
  | iff e b d=>exact (h.2:False).elim
 | skip e to=>obtain ⟨p,te,e1,e2,_⟩:=h;exact ⟨p,_,_,e1,e2,rfl,fun z=>absurd z (by decide +kernel),fun _ _=>rfl⟩
 | go en=>obtain ⟨p,e1,e2⟩:=h;exact ⟨p,_,_,e1,e2,rfl,fun z=>absurd z (by decide +kernel),fun _ _=>rfl⟩
theorem zcX {κ:Type} [DecidableEq κ] {kvs:List (κ × V)} {k:κ} (h:k ∉ kvs.map (·.1)):yN kvs k=none:=by
 cases e:yN kvs k with
 | none=>rfl
 | some v=>exact absurd (Kn e) h
theorem KP:∀ (gs:List Row) (kvs:List (List Key × V)),(∀ r∈gs,zP r.1 ∉ kvs.map (·.1))→(gs.map (·.1)).Nodup→gs.foldl Zo kvs=kvs ++ gs.map fun r=>(zP r.1,V.int r.2)
 | [],kvs,_,_=>by simp
 | r :: gs,kvs,h,nd=>by
  rw [List.map_cons,List.nodup_cons] at nd
  rw [List.foldl_cons,Zo,YD _ (zcX (h r List.mem_cons_self)),KP gs _ (fun q hq=>?_) nd.2,List.map_cons,List.append_assoc,List.singleton_append]
  rw [List.map_append,List.mem_append,not_or]
  refine ⟨h q (List.mem_cons_of_mem _ hq),fun z=>nd.1 ?_⟩
  have z2:zP q.1=zP r.1:=by simpa using z
  rw [← xD z2]
  exact List.mem_map_of_mem hq
theorem zcY {gs:List Row} (nd:(gs.map (·.1)).Nodup):dOf gs=gs.map fun r=>(zP r.1,V.int r.2):=by
 unfold dOf
 rw [KP gs [] (fun _ _ h=>nomatch h) nd,List.nil_append]
theorem Zw {H H':Hp} (s:Same H H'):∀ {ys:List V} {rows:List Row},Paired (PrAt H) ys rows→Paired (PrAt H') ys rows
 | _,_,.nil=>.nil
 | _,_,.cons ⟨r,p,e1,e2,e3⟩ t=>.cons ⟨r,p,e1,s _ _ e2,s _ _ e3⟩ (Zw s t)
theorem ini {H HA:Hp} {x sl:Addr} {o i i':HO} (A1:Z4 x H HA) (A2:HA x=some i) (h:HA sl=none):x≠sl∧H sl=none∧Z4 x H (upd (upd HA sl o) x i')∧upd (upd HA sl o) x i' sl=some o∧Z4 x HA (upd (upd HA sl o) x i'):=by
 have n:x≠sl:=zJ A2 h
 have S:Z4 x HA (upd (upd HA sl o) x i'):=fun b u nb e=>by rw [zk nb,zk (fun z=>by rw [z,h] at e;cases e)];exact e
 refine ⟨n,?_,fun b u nb e=>S b u nb (A1 b u nb e),by rw [zk (Ne.symm n),zd],S⟩
 cases hs:H sl with
 | none=>rfl
 | some u=>rw [A1 sl u (Ne.symm n) hs] at h;cases h
section
variable {x:Addr} {a:RAd} {C:List Cs} {s:RSt} {E:XK}
theorem WW (F:RnF K t) (R:RnAt t H x a C s) (q:∀ H',Same H H'→Q (.bl (ym C s)) H') :
  qc K t { nx:=fun _ H'=>Q .non H',rt:=Q } (L2.start ["self"] [.ref x]) H:=by
 simp only [qc,yb,L2.start,zt,tOp,zc,tC,zb,zj,zcs,tCB,vS,rI0,Vu,xP,List.map,List.replicate,List.length,List.append,jqa,jqb,jqc,jqd,jqe,jqf,jqg,jqh,jqi,jqj,jqk,jql,jqm,jqn,and_true,true_and,and_assoc,jqo,jqp,jqq,jqr,jqs,jqt,if_true,ite_true,jqu,ite_false,if_false]
 obtain ⟨xs,hx,pr⟩:=R.hc
 have lx:=Paired.length pr
 refine ⟨_,_,_,R.ix,F.cl,F.n3,_,rfl,?_⟩
 cases hw:s.why with
 | some w =>
  rw [if_pos (fun z=>nomatch z)]
  have e:ym C s=true:=by unfold ym;rw [hw];rfl
  rw [e] at q
  exact q H fun _ _ z=>z
 | none =>
  rw [if_neg (fun z=>z rfl)]
  refine ⟨_,_,_,R.ix,F.cl,F.n2,_,rfl,_,_,_,R.ix,F.cl,F.n1,_,rfl,xs.length,.inl ⟨_,SqL.of hx,rfl⟩,_,rfl,?_⟩
  have e:ym C s=decide ((xs.length:Int)≤(s.n:Int)):=by unfold ym;rw [hw,lx];simp
  rw [← e]
  exact q H fun _ _ z=>z
theorem ZS {tm:Addr} {e:List V} (F:RnF K t) (R:RnAt t H x a C s) (h2:yL s.sl) (h3:H tm=some (.tup e)) (h4:TermOk e)
  (q:∀ H',Same H H'→fin t (rk s.sl e) Q E H'):vi K t E { nx:=fun _ H'=>Q .non H',rt:=Q } (L2.start ["self","term"] [.ref x,.ref tm]) H:=by
 simp only [vi,w4,yb,L2.start,zt,zc,zb,zj,zo,List.map,List.replicate,List.length,List.append,jqa,jqb,jqc,jqd,jqe,jqf,jqg,jqh,jqi,jqj,jqk,jql,jqm,jqn,and_true,true_and,and_assoc,jqo,jqp,jqq,jqr,jqs,jqt,if_true,ite_true,jqu,ite_false,if_false]
 exact ⟨_,_,_,R.ix,F.cl,F.n4,_,rfl,s.sl,_,rfl,e,h3,R.hs,_,h4.good s.sl,h4.2.1,h4.2.2,h2,q⟩
theorem ZT {p te:Addr} {xs e:List V} {sh:Str} (F:RnF K t) (R:RnAt t H x a C s) (h2:yL s.sl) (h3:H p=some (.tup xs)) (h4:atI xs 1=some (.str sh)) (h5:atI xs 2=some (.ref te)) (h6:H te=some (.tup e)) (h7:TermOk e)
  (q1:∀ i q H',rk s.sl e=.ok i→Same H H'→H' q=some (.tup [.str sh,.int i])→Q (.ref q) H') (q2:∀ er H',rk s.sl e=.error er→Same H H'→Y8 t er E H') :
  vj K t E { nx:=fun _ H'=>Q .non H',rt:=Q } (L2.start ["self","due"] [.ref x,.ref p]) H:=by
 simp only [vj,zN,zT,L2.start,zv,zt,tOp,zc,tC,z0,zb,zj,zv,List.map,List.replicate,List.length,List.append,jqa,jqb,jqc,jqd,jqe,jqf,jqg,jqh,jqi,jqj,jqk,jql,jqm,jqn,and_true,true_and,and_assoc,jqo,jqp,jqq,jqr,jqs,jqt,if_true,ite_true,jqu,ite_false,if_false]
 refine ⟨_,SqT.of h3,_,h4,_,_,R.ix,rfl,_,SqT.of h3,_,h5,_,rfl,e,a,C,s,R,h2,h6,h7,fun H1 s1=>?_⟩
 cases hk:rk s.sl e with
 | error er=>exact fin_err.mpr (q2 er H1 hk s1)
 | ok n =>
  refine fin_ok.mpr ⟨by decide,fun p hp=>?_⟩
  exact q1 n p _ hk (s1.trans (isV (o:=HO.tup [V.str sh,V.int n]) p hp)) zd
theorem Xz {q:Addr} {p:Pl} {w:Int} (F:RnF K t) (R:RnAt t H x a C s) (h2:H q=some (.tup [.str p.1,.int p.2])) (h3:s.no.length≤900)
  (k:∀ H',Kp x a H H'→RnAt t H' x a C (y9 p w s)→Q (.int (wM p w s)) H') :
  kq K t { nx:=fun _ H'=>Q .non H',rt:=Q } (L2.start ["self","place","worth"] [.ref x,.ref q,.int w]) H:=by
 simp only [kq,yg,WJ,vT,yb,L2.start,zn,zt,zD,tOp,zc,zF,zp,List.map,List.replicate,List.length,List.append,jqa,jqb,jqc,jqd,jqe,jqf,jqg,jqh,jqi,jqj,jqk,jql,jqm,jqn,and_true,true_and,and_assoc,jqo,jqp,jqq,jqr,jqs,jqt,if_true,ite_true,jqu,ite_false,if_false]
 have g1:DGet H a.gi (.ref q) ((zu s.gi p).map V.int):=.inr ⟨dOf s.gi,zP p,q,.inl R.hg,rfl,h2,(xS _ _).symm⟩
 have g2:DGet H a.no (.ref q) ((zu s.no p).map V.int):=.inr ⟨dOf s.no,zP p,q,.inl R.hn,rfl,h2,(xS _ _).symm⟩
 refine ⟨_,_,_,R.ix,F.cl,F.n5,_,rfl,_,rfl,_,g1,?_⟩
 cases hg:zu s.gi p with
 | some i =>
  rw [if_pos (by simp)]
  have e:y9 p w s=s:=by unfold y9;rw [if_pos (.inl (by rw [hg];rfl))]
  have e2:wM p w s=i:=by unfold wM;rw [hg];rfl
  rw [e,e2] at k
  rw [hg] at g1
  exact ⟨_,_,_,R.ix,F.cl,F.n5,_,rfl,_,rfl,_,g1,k H (.of_same fun _ _ z=>z) R⟩
 | none =>
  rw [if_neg (by simp)]
  refine ⟨_,_,_,R.ix,F.cl,F.n6,_,rfl,_,rfl,_,g2,?_⟩
  cases ho:zu s.no p with
  | some i =>
   rw [if_neg (by simp)]
   have e:y9 p w s=s:=by unfold y9;rw [if_pos (.inr (by rw [ho];rfl))]
   have e2:wM p w s=i:=by unfold wM;rw [hg,ho];rfl
   rw [e,e2] at k
   rw [ho] at g2
   exact ⟨_,_,_,R.ix,F.cl,F.n6,_,rfl,_,rfl,_,g2,k H (.of_same fun _ _ z=>z) R⟩
  | none =>
   rw [if_pos (by simp)]
   have e:y9 p w s={ s with no:=s.no ++ [(p,w)] }:=by unfold y9;rw [if_neg (by rw [hg,ho];simp)]
   have e2:wM p w s=w:=by unfold wM;rw [hg,ho];rfl
   rw [e,e2] at k
   have ld:=xb s.no
   have ep:yD (dOf s.no) (zP p) (V.int w)=dOf (s.no ++ [(p,w)]):=(jP s.no (p,w)).symm
   have D:=DPut.t (k:=zP p) (v:=V.int w) R.hn h2 (Nat.lt_of_le_of_lt (by lia:_≤900) (by decide))
   rw [ep] at D
   have R2:=R.putO (s.no ++ [(p,w)])
   have K2:Kp x a H (upd H a.no (.dT (dOf (s.no ++ [(p,w)])))):=wO (.inr (.inr (.inr (.inl rfl))))
   refine ⟨_,_,_,R.ix,F.cl,F.n6,_,rfl,_,rfl,_,D,_,_,_,R2.ix,F.cl,F.n6,_,rfl,_,rfl,V.int w,?_,k _ K2 R2⟩
   refine .inr ⟨_,zP p,q,.inl R2.hn,rfl,K2 _ _ (R.notup h2) h2,?_⟩
   rw [xS,J5];rfl
theorem WX {l dx:Addr} {xs:List V} (F:RnF K t) (h1:H x=some (.ins t.c_Run dx [])) (h2:H l=some (.lst xs)) (h3:Paired (CsAt H) xs C)
  (q:∀ H' a,Z4 x H H'→RnAt t H' x a C st0→(∀ b,OwA x a b→b=x∨H b=none)→Q .non H') :
  qb K t { nx:=fun _ H'=>Q .non H',rt:=Q } (L2.start ["self","code"] [.ref x,.ref l]) H:=by
 simp only [qb,kO,ji,zZ,L2.start,Xt,zn,zc,tC,yM,zb,zj,tCB,YG,List.map,List.replicate,List.length,List.append,jqa,jqb,jqc,jqd,jqe,jqf,jqg,jqh,jqi,jqj,jqk,jql,jqm,jqn,and_true,true_and,and_assoc,jqo,jqp,jqq,jqr,jqs,jqt,if_true,ite_true,jqu,ite_false,if_false]
 refine ⟨xs,.inl (SqL.of h2),fun co hco=>?_⟩
 have nco:x≠co:=zJ h1 hco
 refine ⟨_,_,_,(by rw [zk nco];exact h1),F.cl,F.n1,by decide,_,_,_,zd,F.cl,F.n2,(by show (1:Nat) < 1000;decide),_,_,_,zd,F.cl,F.n3,(by show (2:Nat) < 1000;decide),?_⟩
 have A1:Z4 x H (upd (upd (upd (upd H co (HO.lst xs)) x (.ins t.c_Run dx (zZ (Str.ofString "code") (V.ref co) []))) x (.ins t.c_Run dx (zZ (Str.ofString "at") (V.int 0) (zZ (Str.ofString "code") (V.ref co) [])))) x (.ins t.c_Run dx (zZ (Str.ofString "why") V.non (zZ (Str.ofString "at") (V.int 0) (zZ (Str.ofString "code") (V.ref co) []))))):=fun b o n e=>by
  rw [zk n,zk n,zk n,zk (fun z=>by rw [z,hco] at e;cases e)];exact e
 have A2:(upd (upd (upd (upd H co (HO.lst xs)) x (.ins t.c_Run dx (zZ (Str.ofString "code") (V.ref co) []))) x (.ins t.c_Run dx (zZ (Str.ofString "at") (V.int 0) (zZ (Str.ofString "code") (V.ref co) [])))) x (.ins t.c_Run dx (zZ (Str.ofString "why") V.non (zZ (Str.ofString "at") (V.int 0) (zZ (Str.ofString "code") (V.ref co) []))))) x=some (.ins t.c_Run dx [(Str.ofString "code",V.ref co),(Str.ofString "at",V.int 0),(Str.ofString "why",V.non)]):=zd
 have A3:(upd (upd (upd (upd H co (HO.lst xs)) x (.ins t.c_Run dx (zZ (Str.ofString "code") (V.ref co) []))) x (.ins t.c_Run dx (zZ (Str.ofString "at") (V.int 0) (zZ (Str.ofString "code") (V.ref co) [])))) x (.ins t.c_Run dx (zZ (Str.ofString "why") V.non (zZ (Str.ofString "at") (V.int 0) (zZ (Str.ofString "code") (V.ref co) []))))) co=some (.lst xs):=by
  rw [zk (Ne.symm nco),zk (Ne.symm nco),zk (Ne.symm nco),zd]
 generalize (upd (upd (upd (upd H co (HO.lst xs)) x (.ins t.c_Run dx (zZ (Str.ofString "code") (V.ref co) []))) x (.ins t.c_Run dx (zZ (Str.ofString "at") (V.int 0) (zZ (Str.ofString "code") (V.ref co) [])))) x (.ins t.c_Run dx (zZ (Str.ofString "why") V.non (zZ (Str.ofString "at") (V.int 0) (zZ (Str.ofString "code") (V.ref co) [])))))=HA at *
 intro sl hsl
 obtain ⟨nsl,fsl,B1,B4,B5⟩:=ini (o:=HO.dK []) (i':=HO.ins t.c_Run dx (zZ (Str.ofString "slots") (V.ref sl) [(Str.ofString "code",V.ref co),(Str.ofString "at",V.int 0),(Str.ofString "why",V.non)])) A1 A2 hsl
 refine ⟨_,_,_,(by rw [zk nsl];exact A2),F.cl,F.n4,(by show (3:Nat) < 1000;decide),?_⟩
 have B2:(upd (upd HA sl (HO.dK [])) x (.ins t.c_Run dx (zZ (Str.ofString "slots") (V.ref sl) [(Str.ofString "code",V.ref co),(Str.ofString "at",V.int 0),(Str.ofString "why",V.non)]))) x=some (.ins t.c_Run dx [(Str.ofString "code",V.ref co),(Str.ofString "at",V.int 0),(Str.ofString "why",V.non),(Str.ofString "slots",V.ref sl)]):=zd
 have B_co:=B5 _ _ (Ne.symm nco) A3
 generalize (upd (upd HA sl (HO.dK [])) x (.ins t.c_Run dx (zZ (Str.ofString "slots") (V.ref sl) [(Str.ofString "code",V.ref co),(Str.ofString "at",V.int 0),(Str.ofString "why",V.non)])))=HB at *
 intro gi hgi
 obtain ⟨ngi,fgi,C1,C4,C5⟩:=ini (o:=HO.dT []) (i':=HO.ins t.c_Run dx (zZ (Str.ofString "gifts") (V.ref gi) [(Str.ofString "code",V.ref co),(Str.ofString "at",V.int 0),(Str.ofString "why",V.non),(Str.ofString "slots",V.ref sl)])) B1 B2 hgi
 refine ⟨_,_,_,(by rw [zk ngi];exact B2),F.cl,F.n5,(by show (4:Nat) < 1000;decide),?_⟩
 have C2:(upd (upd HB gi (HO.dT [])) x (.ins t.c_Run dx (zZ (Str.ofString "gifts") (V.ref gi) [(Str.ofString "code",V.ref co),(Str.ofString "at",V.int 0),(Str.ofString "why",V.non),(Str.ofString "slots",V.ref sl)]))) x=some (.ins t.c_Run dx [(Str.ofString "code",V.ref co),(Str.ofString "at",V.int 0),(Str.ofString "why",V.non),(Str.ofString "slots",V.ref sl),(Str.ofString "gifts",V.ref gi)]):=zd
 have C_co:=C5 _ _ (Ne.symm nco) B_co
 have C_sl:=C5 _ _ (Ne.symm nsl) B4
 generalize (upd (upd HB gi (HO.dT [])) x (.ins t.c_Run dx (zZ (Str.ofString "gifts") (V.ref gi) [(Str.ofString "code",V.ref co),(Str.ofString "at",V.int 0),(Str.ofString "why",V.non),(Str.ofString "slots",V.ref sl)])))=HC at *
 intro no hno
 obtain ⟨nno,fno,D1,D4,D5⟩:=ini (o:=HO.dT []) (i':=HO.ins t.c_Run dx (zZ (Str.ofString "notes") (V.ref no) [(Str.ofString "code",V.ref co),(Str.ofString "at",V.int 0),(Str.ofString "why",V.non),(Str.ofString "slots",V.ref sl),(Str.ofString "gifts",V.ref gi)])) C1 C2 hno
 refine ⟨_,_,_,(by rw [zk nno];exact C2),F.cl,F.n6,(by show (5:Nat) < 1000;decide),Nat.zero_le _,?_⟩
 have D2:(upd (upd HC no (HO.dT [])) x (.ins t.c_Run dx (zZ (Str.ofString "notes") (V.ref no) [(Str.ofString "code",V.ref co),(Str.ofString "at",V.int 0),(Str.ofString "why",V.non),(Str.ofString "slots",V.ref sl),(Str.ofString "gifts",V.ref gi)]))) x=some (.ins t.c_Run dx [(Str.ofString "code",V.ref co),(Str.ofString "at",V.int 0),(Str.ofString "why",V.non),(Str.ofString "slots",V.ref sl),(Str.ofString "gifts",V.ref gi),(Str.ofString "notes",V.ref no)]):=zd
 have D_co:=D5 _ _ (Ne.symm nco) C_co
 have D_sl:=D5 _ _ (Ne.symm nsl) C_sl
 have D_gi:=D5 _ _ (Ne.symm ngi) C4
 have ngn:gi≠no:=fun z=>by rw [← z,C4] at hno;cases hno
 generalize (upd (upd HC no (HO.dT [])) x (.ins t.c_Run dx (zZ (Str.ofString "notes") (V.ref no) [(Str.ofString "code",V.ref co),(Str.ofString "at",V.int 0),(Str.ofString "why",V.non),(Str.ofString "slots",V.ref sl),(Str.ofString "gifts",V.ref gi)])))=HD at *
 intro sa hsa
 obtain ⟨nsa,fsa,E1,E4,E5⟩:=ini (o:=HO.lst []) (i':=HO.ins t.c_Run dx (zZ (Str.ofString "sayings") (V.ref sa) [(Str.ofString "code",V.ref co),(Str.ofString "at",V.int 0),(Str.ofString "why",V.non),(Str.ofString "slots",V.ref sl),(Str.ofString "gifts",V.ref gi),(Str.ofString "notes",V.ref no)])) D1 D2 hsa
 refine ⟨_,_,_,(by rw [zk nsa];exact D2),F.cl,F.n7,(by show (6:Nat) < 1000;decide),?_⟩
 have E2:(upd (upd HD sa (HO.lst [])) x (.ins t.c_Run dx (zZ (Str.ofString "sayings") (V.ref sa) [(Str.ofString "code",V.ref co),(Str.ofString "at",V.int 0),(Str.ofString "why",V.non),(Str.ofString "slots",V.ref sl),(Str.ofString "gifts",V.ref gi),(Str.ofString "notes",V.ref no)]))) x=some (.ins t.c_Run dx [(Str.ofString "code",V.ref co),(Str.ofString "at",V.int 0),(Str.ofString "why",V.non),(Str.ofString "slots",V.ref sl),(Str.ofString "gifts",V.ref gi),(Str.ofString "notes",V.ref no),(Str.ofString "sayings",V.ref sa)]):=zd
 have E_co:=E5 _ _ (Ne.symm nco) D_co
 have E_sl:=E5 _ _ (Ne.symm nsl) D_sl
 have E_gi:=E5 _ _ (Ne.symm ngi) D_gi
 have E_no:=E5 _ _ (Ne.symm nno) D4
 have ncs:co≠sa:=fun z=>by rw [← z,D_co] at hsa;cases hsa
 refine q _ ⟨dx,co,sl,gi,no,sa⟩ E1 ⟨E2,⟨xs,E_co,kr (fun b ys e=>E1 b _ (fun z=>by rw [z,h1] at e;cases e) e) h3⟩,E_sl,E_gi,E_no,E4,ngn,ncs⟩ ?_
 rintro b ((z | z | z | z | z) | z)
 ·exact .inl z
 ·exact .inr (by rw [z];exact fsl)
 ·exact .inr (by rw [z];exact fgi)
 ·exact .inr (by rw [z];exact fno)
 ·exact .inr (by rw [z];exact fsa)
 ·exact .inr (by rw [z];exact hco)
theorem WY {P:Str→Option Value} {w:Int} {m:Nat} (T:Txt K P t) (R:RnAt t H x a C s) (h2:∀ c∈C,Yd c) (h3:RnOk m s) (h4:m≤900) (q:∀ H',Kp x a H H'→RnAt t H' x a C (xL C w s)→Q .non H') :
  qi K t { nx:=fun _ H'=>Q .non H',rt:=Q } (L2.start ["self","worth"] [.ref x,.int w]) H:=by
 simp only [qi,yC,jp,yb,ji,zT,j9,ZL,zZ,zax,L2.start,zn,QG,zD,tOp,zc,tC,zb,zj,zF,tB,xz,List.map,List.replicate,List.length,List.append,jqa,jqb,jqc,jqd,jqe,jqf,jqg,jqh,jqi,jqj,jqk,jql,jqm,jqn,and_true,true_and,and_assoc,jqo,jqp,jqq,jqr,jqs,jqt,if_true,ite_true,jqu,ite_false,if_false]
 have F:=rnF T
 refine ⟨_,_,R.ix,rfl,a,C,s,R,fun H1 s1=>?_⟩
 have R1:=R.same s1
 by_cases ho:ym C s=true
 ·rw [if_pos ho]
  exact q H1 (.of_same s1) (by unfold xL;rw [if_pos ho];exact R1)
 rw [if_neg ho]
 obtain ⟨xs,hx,pr⟩:=R1.hc
 have lx:=Paired.length pr
 have lt:=Zv ho
 have hc:C[s.n]?=some C[s.n]:=List.getElem?_eq_getElem lt
 have hv:xs[s.n]?=some xs[s.n]:=List.getElem?_eq_getElem (by lia)
 have cv:=yp pr hv hc
 have es:∀ w,xL C w s=zX C[s.n] w s:=fun w=>by unfold xL;rw [if_neg ho,hc]
 rw [es] at q
 refine ⟨_,_,R1.ix,rfl,_,_,_,R1.ix,F.cl,F.n1,_,rfl,_,_,_,R1.ix,F.cl,F.n2,_,rfl,_,rfl,xs,_,rfl,SqL.of hx,_,qp hv,C[s.n],m,a,C,s,R1,cv,h2 _ (List.getElem_mem lt),h3,h4,fun H2 s' k e K2 R2=>⟨_,_,_,R2.ix,F.cl,F.n2,(by show (7:Nat) < 1000;decide),?_⟩,fun H2 er e s2=>?_⟩
 ·have z:=R2.putI { s' with n:=k } rfl rfl rfl rfl
  exact q _ ((Kp.of_same s1).trans (K2.trans (wO (.inl rfl)))) (by unfold zX;rw [e];exact z)
 ·have R3:=R1.same s2
  have z:=R3.putI { s with why:=some (Y1 er) } rfl rfl rfl rfl
  have q':=q _ ((Kp.of_same s1).trans ((Kp.of_same s2).trans (wO (.inl rfl)))) (by unfold zX;rw [e];exact z)
  cases er with
  | nought=>exact ⟨t.c_Nought,rfl,.inr ⟨T.e_Nought_Great,T.e_Nought_Nought,_,_,_,R3.ix,F.cl,F.n3,(by show (7:Nat) < 1000;decide),q'⟩⟩
  | great=>exact ⟨t.c_Great,rfl,.inl ⟨T.e_Great_Great,_,_,_,R3.ix,F.cl,F.n3,(by show (7:Nat) < 1000;decide),q'⟩⟩
  | stuck=>trivial
theorem WZ {P:Str→Option Value} (T:Txt K P t) (R:RnAt t H x a C s) (h2:∀ c∈C,Yd c) (h3:yL s.sl) (q1:∀ H',w5 C s=none→Same H H'→Q .non H') (q2:∀ p q H',w5 C s=some p→Same H H'→H' q=some (.tup [.str p.1,.int p.2])→Q (.ref q) H') :
  qh K t { nx:=fun _ H'=>Q .non H',rt:=Q } (L2.start ["self","place"] [.ref x]) H:=by
 simp only [qh,yC,z6,WJ,yb,zT,j9,KK,L2.start,zv,YO,zn,zt,zD,tOp,zc,tC,zb,zj,zF,tOr,zp,tB,xz,zv,rNe,yA,List.map,List.replicate,List.length,List.append,jqa,jqb,jqc,jqd,jqe,jqf,jqg,jqh,jqi,jqj,jqk,jql,jqm,jqn,and_true,true_and,and_assoc,jqo,jqp,jqq,jqr,jqs,jqt,if_true,ite_true,jqu,ite_false,if_false]
 have F:=rnF T
 refine ⟨_,_,R.ix,rfl,a,C,s,R,fun H1 s1=>?_⟩
 have R1:=R.same s1
 by_cases ho:ym C s=true
 ·rw [if_pos ho]
  exact q1 H1 (by unfold w5;rw [if_pos ho]) s1
 rw [if_neg ho]
 obtain ⟨xs,hx,pr⟩:=R1.hc
 have lx:=Paired.length pr
 have lt:=Zv ho
 have hc:C[s.n]?=some C[s.n]:=List.getElem?_eq_getElem lt
 have hv:xs[s.n]?=some xs[s.n]:=List.getElem?_eq_getElem (by lia)
 have cv:=yp pr hv hc
 have ok:=h2 _ (List.getElem_mem lt)
 have es:w5 C s=wx C[s.n] s:=by unfold w5;rw [if_neg ho,hc];rfl
 rw [es] at q1 q2
 obtain ⟨p,zs,hd,ev,hp,h0,ht,hnt⟩:=zcW cv
 refine ⟨_,_,_,R1.ix,F.cl,F.n1,_,rfl,_,_,_,R1.ix,F.cl,F.n2,_,rfl,_,rfl,xs,_,rfl,SqL.of hx,_,qp hv,p,ev,_,SqT.of hp,_,h0,rfl,?_⟩
 by_cases hh:hd=Str.ofString "take"
 case neg =>
  rw [if_pos (fun z=>hh (V.str.inj z))]
  exact q1 H1 (hnt hh s) s1
 rw [if_neg (fun z=>z (congrArg V.str hh))]
 obtain ⟨sh,e,sl,te,ec,a1,a2,ht⟩:=ht hh
 rw [ec] at q1 q2 ok
 unfold Yd xQ at ok
 simp only [qN,qM,z6,WJ,yb,zT,j9,KK,L2.start,zv,YO,zn,zt,zD,tOp,zc,tC,zb,zj,zF,tOr,zp,tB,xz,zv,rNe,yA,List.map,List.replicate,List.length,List.append,jqa,jqb,jqc,jqd,jqe,jqf,jqg,jqh,jqi,jqj,jqk,jql,jqm,jqn,and_true,true_and,and_assoc,jqo,jqp,jqq,jqr,jqs,jqt,if_true,ite_true,jqu,ite_false,if_false]
 refine ⟨_,_,R1.ix,rfl,_,_,_,R1.ix,F.cl,F.n1,_,rfl,_,_,_,R1.ix,F.cl,F.n2,_,rfl,_,rfl,xs,_,rfl,SqL.of hx,_,qp hv,p,ev,zs,sh,te,e,a,C,s,R1,h3,hp,a1,a2,ht,ok,fun i q H2 hk s2 hq=>?_,fun er H2 hk s2=>?_⟩
 case refine_2 =>
  have q':=q1 H2 (by unfold wx;simp only [hk]) (s1.trans s2)
  cases er with
  | nought=>exact ⟨t.c_Nought,rfl,T.m_Nought_Great_Nought,q'⟩
  | great=>exact ⟨t.c_Great,rfl,T.m_Great_Great_Nought,q'⟩
  | stuck=>trivial
 have R2:=R1.same s2
 have g1:DGet H2 a.gi (.ref q) ((zu s.gi (sh,i)).map V.int):=.inr ⟨dOf s.gi,zP (sh,i),q,.inl R2.hg,rfl,hq,(xS _ _).symm⟩
 have g2:DGet H2 a.no (.ref q) ((zu s.no (sh,i)).map V.int):=.inr ⟨dOf s.no,zP (sh,i),q,.inl R2.hn,rfl,hq,(xS _ _).symm⟩
 refine ⟨_,_,_,R2.ix,F.cl,F.n5,_,rfl,_,rfl,_,g1,?_⟩
 cases hg:zu s.gi (sh,i) with
 | some j =>
  rw [if_pos (by simp)]
  exact q1 H2 (by unfold wx;simp only [hk,hg];rfl) (s1.trans s2)
 | none =>
  rw [if_neg (by simp)]
  refine ⟨_,_,_,R2.ix,F.cl,F.n6,_,rfl,_,rfl,_,g2,?_⟩
  cases hn:zu s.no (sh,i) with
  | some j =>
   rw [if_pos (by simp)]
   exact q1 H2 (by unfold wx;simp only [hk,hg,hn];rfl) (s1.trans s2)
  | none =>
   rw [if_neg (by simp)]
   exact q2 (sh,i) q H2 (by unfold wx;simp only [hk,hg,hn];rfl) (s1.trans s2) hq
theorem XA (F:RnF K t) (R:RnAt t H x a C s) (h2:s.no.length≤900) (h3:(s.no.map (·.1)).Nodup) (h4:s.gi.length≤63) (q1:∀ H',ym C s=false→Same H H'→Q .non H')
  (q2:∀ r o nl gl out H',ym C s=true→Same H H'→H nl=none→H gl=none→nl≠gl→H' r=some (.tup [o,.ref nl,.ref gl])→ZN H' o (qF s)→LsAt H' nl s.no→LsAt H' gl out→Zs s out→Q (.ref r) H') :
  ko K t { nx:=fun _ H'=>Q .non H',rt:=Q } (L2.start ["self","notes"] [.ref x]) H:=by
 simp only [ko,yC,JL,yb,zT,ka,Z2,KD,L2.start,zn,zH,zl,zt,zD,tOp,zc,tC,yM,z0,zb,zj,zF,xx,zp,tB,tCB,Vu,List.map,List.replicate,List.length,List.append,jqa,jqb,jqc,jqd,jqe,jqf,jqg,jqh,jqi,jqj,jqk,jql,jqm,jqn,and_true,true_and,and_assoc,jqo,jqp,jqq,jqr,jqs,jqt,if_true,ite_true,jqu,ite_false,if_false]
 refine ⟨_,_,R.ix,rfl,a,C,s,R,fun H1 s1=>?_⟩
 have R1:=R.same s1
 cases ho:ym C s with
 | false=>rw [if_pos rfl];exact q1 H1 ho s1
 | true =>
  rw [if_neg (by decide)]
  simp only [qe,qd,JL,yb,zT,ka,Z2,KD,L2.start,zn,zH,zl,zt,zD,tOp,zc,tC,yM,z0,zb,zj,zF,xx,zp,tB,tCB,Vu,List.map,List.replicate,List.length,List.append,jqa,jqb,jqc,jqd,jqe,jqf,jqg,jqh,jqi,jqj,jqk,jql,jqm,jqn,and_true,true_and,and_assoc,jqo,jqp,jqq,jqr,jqs,jqt,if_true,ite_true,jqu,ite_false,if_false]
  refine ⟨_,_,_,R1.ix,F.cl,F.n6,_,rfl,_,rfl,_,R1.hn,fun r hr=>⟨a.no,zd,dOf s.no,(by rw [zk (zJ R1.hn hr)];exact R1.hn),(by have:=xb s.no;lia),fun l ys H2 s2 fl hl pr=>?_⟩⟩
  have sv:=isV (o:=kT r a.no) r hr
  have S2:=sv.trans s2
  have R2:=R1.same S2
  have nl:H l=none:=yf (s1.trans sv) fl
  rw [zcY h3] at pr
  have pn:=KG pr
  refine ⟨_,_,_,R2.ix,F.cl,F.n3,_,rfl,?_⟩
  cases hw:s.why with
  | some w =>
   rw [if_pos (fun z=>nomatch z)]
   refine ⟨_,_,_,R2.ix,F.cl,F.n3,_,rfl,by decide,fun p hp=>⟨by decide,fun g hg=>⟨by decide,fun r2 hr2=>?_⟩⟩⟩
   rw [hw]
   rw [hw] at hg hr2
   have t1:=isV (o:=HO.tup [V.str (Str.ofString "off"),zdz (some w)]) p hp
   have t2:=isV (o:=HO.lst []) g hg
   have t3:=isV (o:=HO.tup [V.ref p,V.ref l,V.ref g]) r2 hr2
   have T3:=t1.trans (t2.trans t3)
   refine q2 r2 (.ref p) l g [] _ ho (s1.trans (S2.trans T3)) nl (yf (s1.trans (S2.trans t1)) hg) (fun z=>by rw [← z,t1 _ _ hl] at hg;cases hg) zd ?_ ⟨ys,T3 _ _ hl,Zw T3 pn⟩ ⟨[],t3 _ _ zd,.nil⟩ ?_
   ·unfold qF;rw [hw];exact ⟨p,rfl,(t2.trans t3) _ _ zd⟩
   ·unfold Zs;rw [hw]
  | none =>
   rw [if_neg (fun z=>z rfl)]
   refine ⟨_,_,_,R2.ix,F.cl,F.n7,_,rfl,_,rfl,_,.inl ⟨SqL.of R2.ha,fun y hy=>⟨by decide,fun p hp=>?_⟩⟩⟩
   have t1:=isV (o:=HO.tup (List.map V.int s.sa)) y hy
   have t2:=isV (o:=HO.tup [V.str (Str.ofString "done"),V.ref y]) p hp
   have R3:=R2.same (t1.trans t2)
   have ly:=t2 _ _ (zd (H:=H2) (a:=y) (o:=HO.tup (List.map V.int s.sa)))
   have lp:upd (upd H2 y (HO.tup (List.map V.int s.sa))) p (HO.tup [V.str (Str.ofString "done"),V.ref y]) p=some (HO.tup [V.str (Str.ofString "done"),V.ref y]):=zd
   have T2:=t1.trans t2
   generalize upd (upd H2 y (HO.tup (List.map V.int s.sa))) p (HO.tup [V.str (Str.ofString "done"),V.ref y])=H3 at *
   refine ⟨_,_,_,R3.ix,F.cl,F.n5,_,rfl,_,rfl,_,R3.hg,fun r3 hr3=>⟨a.gi,zd,s.gi,(by rw [zk (zJ R3.hg hr3)];exact R3.hg),(by have:=xb s.gi;lia),fun g zs srt H4 s4 fg hg ps ri mi=>⟨by decide,fun r2 hr2=>?_⟩⟩⟩
   have t3:=(isV (o:=kT r3 a.gi) r3 hr3).trans s4
   have t5:=isV (o:=HO.tup [V.ref p,V.ref l,V.ref g]) r2 hr2
   have T5:=t3.trans t5
   have fg3:H3 g=none:=yf (isV (o:=kT r3 a.gi) r3 hr3) fg
   refine q2 r2 (.ref p) l g srt _ ho (s1.trans (S2.trans (T2.trans T5))) nl (yf (s1.trans (S2.trans T2)) fg3) (fun z=>by rw [← z,T2 _ _ hl] at fg3;cases fg3) zd ?_ ⟨ys,(T2.trans T5) _ _ hl,Zw (T2.trans T5) pn⟩ ⟨zs,t5 _ _ hg,Zw t5 ps⟩ ?_
   ·unfold qF;rw [hw];exact ⟨p,y,rfl,T5 _ _ lp,T5 _ _ ly⟩
   ·unfold Zs;rw [hw];exact ⟨ri,mi⟩
end
theorem zaF (p:Pl) (w:Int) (s:RSt):(y9 p w s).sl=s.sl:=by unfold y9;split <;> rfl
theorem zbH (p:Pl) (w:Int) (s:RSt):(y9 p w s).n=s.n:=by unfold y9;split <;> rfl
theorem zdB {r:Rw} {w:Int} {s s':RSt} (h:vb r) (e:doR r w s=.ok s'):s'.n=s.n:=by
 cases r with
 | take sh e' x =>
  cases hk:rk s.sl e' with
  | error er=>simp only [doR,hk] at e;cases e
  | ok n=>simp only [doR,hk] at e;cases e;exact zbH _ _ _
 | give sh e' f =>
  cases hk:rk s.sl e' with
  | error er=>simp only [doR,hk] at e;cases e
  | ok n =>
   cases hk2:rk s.sl f with
   | error er=>simp only [doR,hk,hk2] at e;cases e
   | ok i=>simp only [doR,hk,hk2] at e;cases e;rfl
 | lt x e' =>
  cases hk:rk s.sl e' with
  | error er=>simp only [doR,hk] at e;cases e
  | ok n=>simp only [doR,hk] at e;cases e;rfl
 | say e' =>
  cases hk:rk s.sl e' with
  | error er=>simp only [doR,hk] at e;cases e
  | ok n=>simp only [doR,hk] at e;cases e;rfl
 | off e'=>exact h.elim
 | iff e' b d=>exact h.elim
theorem V5 {r:Rw} {w:Int} {s:RSt} (h:vb r):yu (.row r) w s=match doR r w s with
  | .error er=>.error er
  | .ok s'=>.ok (s.n + 1,s'):=by
 cases r with
 | off e'=>exact h.elim
 | iff e' b d=>exact h.elim
 | take sh e' x=>rfl
 | give sh e' f=>rfl
 | lt x e'=>rfl
 | say e'=>rfl
theorem zbI (r:Rw) (h:JZ r):(∃ e,r=.off e)∨vb r:=by
 cases r with
 | off e'=>exact .inl ⟨e',rfl⟩
 | iff e' b d=>exact h.elim
 | take sh e' x=>exact .inr trivial
 | give sh e' f=>exact .inr trivial
 | lt x e'=>exact .inr trivial
 | say e'=>exact .inr trivial
theorem zbJ {F:Addr→Prop} {v:V} {r:Rw} (h:RwAt F H v r) (d:vb r):∃ p xs hd,v=.ref p∧H p=some (.tup xs)∧atI xs 0=some (.str hd)∧hd≠Str.ofString "go"∧hd≠Str.ofString "skip"∧hd≠Str.ofString "off":=by
 cases r with
 | take sh e sl=>unfold RwAt at h;obtain ⟨r,te,rfl,_,_,e2,e3⟩:=h;exact ⟨r,_,_,rfl,e2,rfl,by decide +kernel,by decide +kernel,by decide +kernel⟩
 | give sh e f=>unfold RwAt at h;obtain ⟨r,te,tf,rfl,_,_,_,e2,e3⟩:=h;exact ⟨r,_,_,rfl,e2,rfl,by decide +kernel,by decide +kernel,by decide +kernel⟩
 | lt sl e=>unfold RwAt at h;obtain ⟨r,te,rfl,_,_,e2,e3⟩:=h;exact ⟨r,_,_,rfl,e2,rfl,by decide +kernel,by decide +kernel,by decide +kernel⟩
 | say e=>unfold RwAt at h;obtain ⟨r,te,rfl,_,_,e2,e3⟩:=h;exact ⟨r,_,_,rfl,e2,rfl,by decide +kernel,by decide +kernel,by decide +kernel⟩
 | off e=>exact d.elim
 | iff e a b=>exact d.elim
section
variable {x:Addr} {a:RAd} {C:List Cs} {s:RSt} {E:XK}
theorem W0 {v:V} {r:Rw} {w:Int} {m:Nat} (F:RnF K t) (R:RnAt t H x a C s) (h1:RwAt yO H v r) (h2:vb r) (h3:xQ r) (h4:RnOk m s) (h5:m≤900)
  (q1:∀ H' s',doR r w s=.ok s'→Kp x a H H'→RnAt t H' x a C s'→Q .non H') (q2:∀ H' er,doR r w s=.error er→Same H H'→Y8 t er E H') :
  wc K t E { nx:=fun _ H'=>Q .non H',rt:=Q } (L2.start ["self","due","worth","place"] [.ref x,v,.int w]) H:=by
 have l1:=h4.l1
 have l2:=h4.l2
 have l4:=h4.l4
 have so:=h4.so
 cases r with
 | take sh e sl' =>
  unfold RwAt at h1
  unfold xQ at h3
  obtain ⟨r,te,rfl,_,_,e2,e3⟩:=h1
  simp only [wc,zN,z6,xK,yg,yb,zT,L2.start,zI,yn,zv,zn,zH,zl,yd,tOp,zc,tC,zb,zj,zF,zp,tBM,tyV,zv,rEq,yA,List.map,List.replicate,List.length,List.append,jqa,jqb,jqc,jqd,jqe,jqf,jqg,jqh,jqi,jqj,jqk,jql,jqm,jqn,and_true,true_and,and_assoc,jqo,jqp,jqq,jqr,jqs,jqt,if_true,ite_true,jqu,ite_false,if_false]
  refine ⟨_,SqT.of e2,_,rfl,rfl,?_⟩
  rw [if_pos rfl]
  refine ⟨_,_,R.ix,rfl,_,_,R.ix,rfl,_,sh,te,e,a,C,s,R,so,e2,rfl,rfl,e3,h3,fun i q H1 hk s1 hq=>?_,fun er H1 hk s1=>q2 H1 er (by unfold doR;simp only [hk]) s1⟩
  have R1:=R.same s1
  refine ⟨(sh,i),a,C,s,R1,hq,by have:=h4.l3;lia,fun H2 K2 R2=>?_⟩
  have hs2:=R2.hs
  rw [zaF] at hs2
  exact ⟨_,_,_,R2.ix,F.cl,F.n4,_,rfl,_,SqT.of (K2 _ _ (R1.notup (s1 _ _ e2)) (s1 _ _ e2)),_,rfl,_,rfl,_,DPut.k (k:=.inr sl') hs2 (Nat.lt_of_le_of_lt (by lia:_≤900) (by decide)),q1 _ _ (by unfold doR;simp only [hk]) ((Kp.of_same s1).trans (K2.trans (wO (.inr (.inl rfl))))) (R2.putS _)⟩
 | give sh e f =>
  unfold RwAt at h1
  unfold xQ at h3
  obtain ⟨r,te,tf,rfl,_,_,_,e2,e3,e4⟩:=h1
  simp only [wc,zN,z6,xK,yg,yb,zT,L2.start,zI,yn,zv,zn,zH,zl,yd,tOp,zc,tC,zb,zj,zF,zp,tBM,tyV,zv,rEq,yA,List.map,List.replicate,List.length,List.append,jqa,jqb,jqc,jqd,jqe,jqf,jqg,jqh,jqi,jqj,jqk,jql,jqm,jqn,and_true,true_and,and_assoc,jqo,jqp,jqq,jqr,jqs,jqt,if_true,ite_true,jqu,ite_false,if_false]
  refine ⟨_,SqT.of e2,_,rfl,rfl,?_⟩
  rw [if_neg (by decide)]
  refine ⟨_,SqT.of e2,_,rfl,rfl,?_⟩
  rw [if_pos rfl]
  refine ⟨_,_,R.ix,rfl,_,sh,te,e,a,C,s,R,so,e2,rfl,rfl,e3,h3.1,fun i q H1 hk s1 hq=>?_,fun er H1 hk s1=>q2 H1 er (by unfold doR;simp only [hk]) s1⟩
  have R1:=R.same s1
  refine ⟨_,_,R1.ix,rfl,_,SqT.of (s1 _ _ e2),_,rfl,_,rfl,f,a,C,s,R1,so,s1 _ _ e4,h3.2,fun H3 s3=>?_⟩
  cases hk2:rk s.sl f with
  | error er=>exact fin_err.mpr (q2 H3 er (by unfold doR;simp only [hk,hk2]) (s1.trans s3))
  | ok n =>
   have R3:=R1.same s3
   have ld:=xb s.gi
   refine fin_ok.mpr ⟨_,_,_,R3.ix,F.cl,F.n5,_,rfl,_,rfl,_,DPut.t (k:=zP (sh,i)) R3.hg (s3 _ _ hq) (Nat.lt_of_le_of_lt (by lia:_≤900) (by decide)),?_⟩
   rw [show yD (dOf s.gi) (zP (sh,i)) (V.int n)=dOf (s.gi ++ [((sh,i),n)]) from (jP s.gi ((sh,i),n)).symm]
   exact q1 _ _ (by unfold doR;simp only [hk,hk2]) ((Kp.of_same (s1.trans s3)).trans (wO (.inr (.inr (.inl rfl))))) (R3.putG _)
 | lt sl' e =>
  unfold RwAt at h1
  unfold xQ at h3
  obtain ⟨r,te,rfl,_,_,e2,e3⟩:=h1
  simp only [wc,zN,z6,xK,yg,yb,zT,L2.start,zI,yn,zv,zn,zH,zl,yd,tOp,zc,tC,zb,zj,zF,zp,tBM,tyV,zv,rEq,yA,List.map,List.replicate,List.length,List.append,jqa,jqb,jqc,jqd,jqe,jqf,jqg,jqh,jqi,jqj,jqk,jql,jqm,jqn,and_true,true_and,and_assoc,jqo,jqp,jqq,jqr,jqs,jqt,if_true,ite_true,jqu,ite_false,if_false]
  refine ⟨_,SqT.of e2,_,rfl,rfl,?_⟩
  rw [if_neg (by decide)]
  refine ⟨_,SqT.of e2,_,rfl,rfl,?_⟩
  rw [if_neg (by decide)]
  refine ⟨_,SqT.of e2,_,rfl,rfl,?_⟩
  rw [if_pos rfl]
  refine ⟨_,_,R.ix,rfl,_,SqT.of e2,_,rfl,_,rfl,e,a,C,s,R,so,e3,h3,fun H1 s1=>?_⟩
  cases hk:rk s.sl e with
  | error er=>exact fin_err.mpr (q2 H1 er (by unfold doR;simp only [hk]) s1)
  | ok n =>
   have R2:=R.same s1
   exact fin_ok.mpr ⟨_,_,_,R2.ix,F.cl,F.n4,_,rfl,_,SqT.of (s1 _ _ e2),_,rfl,_,rfl,_,DPut.k (k:=.inr sl') R2.hs (Nat.lt_of_le_of_lt (by lia:_≤900) (by decide)),q1 _ _ (by unfold doR;simp only [hk]) ((Kp.of_same s1).trans (wO (.inr (.inl rfl)))) (R2.putS _)⟩
 | say e =>
  unfold RwAt at h1
  unfold xQ at h3
  obtain ⟨r,te,rfl,_,_,e2,e3⟩:=h1
  simp only [wc,zN,z6,xK,yg,yb,zT,L2.start,zI,yn,zv,zn,zH,zl,yd,tOp,zc,tC,zb,zj,zF,zp,tBM,tyV,zv,rEq,yA,List.map,List.replicate,List.length,List.append,jqa,jqb,jqc,jqd,jqe,jqf,jqg,jqh,jqi,jqj,jqk,jql,jqm,jqn,and_true,true_and,and_assoc,jqo,jqp,jqq,jqr,jqs,jqt,if_true,ite_true,jqu,ite_false,if_false]
  refine ⟨_,SqT.of e2,_,rfl,rfl,?_⟩
  rw [if_neg (by decide)]
  refine ⟨_,SqT.of e2,_,rfl,rfl,?_⟩
  rw [if_neg (by decide)]
  refine ⟨_,SqT.of e2,_,rfl,rfl,?_⟩
  rw [if_neg (by decide)]
  refine ⟨_,_,_,R.ix,F.cl,F.n7,_,rfl,.inl ⟨_,SqL.of R.ha⟩,_,_,R.ix,rfl,_,SqT.of e2,_,rfl,_,rfl,e,a,C,s,R,so,e3,h3,fun H1 s1=>?_⟩
  cases hk:rk s.sl e with
  | error er=>exact fin_err.mpr (q2 H1 er (by unfold doR;simp only [hk]) s1)
  | ok n =>
   have R1:=R.same s1
   refine fin_ok.mpr ⟨_,rfl,_,R1.ha,Nat.lt_of_le_of_lt (by rw [List.length_map];lia:_≤900) (by decide),?_⟩
   rw [show List.map V.int s.sa ++ [V.int n]=List.map V.int (s.sa ++ [n]) by simp]
   exact q1 _ _ (by unfold doR;simp only [hk]) ((Kp.of_same s1).trans (wO (.inr (.inr (.inr (.inr rfl)))))) (R1.putA _)
 | off e=>exact h2.elim
 | iff e b d=>exact h2.elim
theorem Xd {v:V} {c:Cs} {w:Int} {m:Nat} (F:RnF K t) (R:RnAt t H x a C s) (h1:CsAt H v c) (h2:Yd c) (h3:RnOk m s) (h4:m≤900)
  (q1:∀ H' s' k,yu c w s=.ok (k,s')→Kp x a H H'→RnAt t H' x a C s'→Q (.int (k:Nat)) H') (q2:∀ H' er,yu c w s=.error er→Same H H'→Y8 t er E H') :
  xq K t E { nx:=fun _ H'=>Q .non H',rt:=Q } (L2.start ["self","due","worth"] [.ref x,v,.int w]) H:=by
 have so:=h3.so
 cases c with
 | go en =>
  obtain ⟨p,rfl,e2⟩:=h1
  simp only [xq,zN,x9,yb,ji,zT,zZ,L2.start,zv,zn,zt,yd,zD,tOp,zc,tC,zb,zj,zF,zp,tIf,zv,rEq,rNe,rI0,yA,List.map,List.replicate,List.length,List.append,jqa,jqb,jqc,jqd,jqe,jqf,jqg,jqh,jqi,jqj,jqk,jql,jqm,jqn,and_true,true_and,and_assoc,jqo,jqp,jqq,jqr,jqs,jqt,if_true,ite_true,jqu,ite_false,if_false]
  refine ⟨_,SqT.of e2,_,rfl,rfl,?_⟩
  rw [if_pos rfl]
  exact ⟨_,SqT.of e2,_,rfl,q1 H s en rfl (.of_same fun _ _ z=>z) R⟩
 | skip e to =>
  obtain ⟨p,te,rfl,e2,e3⟩:=h1
  simp only [xq,zN,x9,yb,ji,zT,zZ,L2.start,zv,zn,zt,yd,zD,tOp,zc,tC,zb,zj,zF,zp,tIf,zv,rEq,rNe,rI0,yA,List.map,List.replicate,List.length,List.append,jqa,jqb,jqc,jqd,jqe,jqf,jqg,jqh,jqi,jqj,jqk,jql,jqm,jqn,and_true,true_and,and_assoc,jqo,jqp,jqq,jqr,jqs,jqt,if_true,ite_true,jqu,ite_false,if_false]
  refine ⟨_,SqT.of e2,_,rfl,rfl,?_⟩
  rw [if_neg (by decide)]
  refine ⟨_,SqT.of e2,_,rfl,rfl,?_⟩
  rw [if_pos rfl]
  refine ⟨_,_,R.ix,rfl,_,SqT.of e2,_,rfl,_,rfl,e,a,C,s,R,so,e3,h2,fun H1 s1=>?_⟩
  cases hk:rk s.sl e with
  | error er=>exact fin_err.mpr (q2 H1 er (by unfold yu;simp only [hk]) s1)
  | ok n =>
   have R2:=R.same s1
   refine fin_ok.mpr ⟨rfl,?_⟩
   by_cases hn:n=0
   ·rw [if_pos (congrArg V.int hn)]
    exact ⟨_,SqT.of (s1 _ _ e2),_,rfl,q1 H1 s to (by unfold yu;simp only [hk,if_pos hn]) (.of_same s1) R2⟩
   ·rw [if_neg (fun z=>hn (V.int.inj z))]
    exact ⟨_,_,_,R2.ix,F.cl,F.n2,_,rfl,_,rfl,q1 H1 s (s.n + 1) (by unfold yu;simp only [hk,if_neg hn]) (.of_same s1) R2⟩
 | row r =>
  obtain ⟨h1,hni⟩:=h1
  rcases zbI r hni with ⟨e,rfl⟩ | hdo
  ·unfold RwAt at h1
   unfold Yd xQ at h2
   obtain ⟨r,te,rfl,_,_,e2,e3⟩:=h1
   simp only [xq,zN,x9,yb,ji,zT,zZ,L2.start,zv,zn,zt,yd,zD,tOp,zc,tC,zb,zj,zF,zp,tIf,zv,rEq,rNe,rI0,yA,List.map,List.replicate,List.length,List.append,jqa,jqb,jqc,jqd,jqe,jqf,jqg,jqh,jqi,jqj,jqk,jql,jqm,jqn,and_true,true_and,and_assoc,jqo,jqp,jqq,jqr,jqs,jqt,if_true,ite_true,jqu,ite_false,if_false]
   refine ⟨_,SqT.of e2,_,rfl,rfl,?_⟩
   rw [if_neg (by decide)]
   refine ⟨_,SqT.of e2,_,rfl,rfl,?_⟩
   rw [if_neg (by decide)]
   refine ⟨_,SqT.of e2,_,rfl,rfl,?_⟩
   rw [if_pos rfl]
   refine ⟨_,_,R.ix,rfl,_,SqT.of e2,_,rfl,_,rfl,e,a,C,s,R,so,e3,h2,fun H1 s1=>?_⟩
   cases hk:rk s.sl e with
   | error er=>exact fin_err.mpr (q2 H1 er (by unfold yu;simp only [hk]) s1)
   | ok n =>
    have R2:=R.same s1
    refine fin_ok.mpr ⟨rfl,?_⟩
    by_cases hn:n=0
    ·rw [if_neg (fun z=>z (congrArg V.int hn))]
     exact ⟨_,_,_,R2.ix,F.cl,F.n2,_,rfl,_,rfl,q1 H1 s (s.n + 1) (by unfold yu;simp only [hk,if_pos hn]) (.of_same s1) R2⟩
    ·rw [if_pos (fun z=>hn (V.int.inj z))]
     have R3:=R2.putI { s with why:=some (Str.ofString "told") } rfl rfl rfl rfl
     refine ⟨_,_,_,R2.ix,F.cl,F.n3,(by show (7:Nat) < 1000;decide),_,_,_,R3.ix,F.cl,F.n2,_,rfl,_,rfl,?_⟩
     exact q1 _ { s with why:=some (Str.ofString "told") } (s.n + 1) (by unfold yu;simp only [hk,if_neg hn]) ((Kp.of_same s1).trans (wO (.inl rfl))) R3
  ·obtain ⟨p,zs,hd,rfl,e2,e3,n1,n2,n3⟩:=zbJ h1 hdo
   have el:=V5 (w:=w) (s:=s) hdo
   simp only [xq,zN,x9,yb,ji,zT,zZ,L2.start,zv,zn,zt,yd,zD,tOp,zc,tC,zb,zj,zF,zp,tIf,zv,rEq,rNe,rI0,yA,List.map,List.replicate,List.length,List.append,jqa,jqb,jqc,jqd,jqe,jqf,jqg,jqh,jqi,jqj,jqk,jql,jqm,jqn,and_true,true_and,and_assoc,jqo,jqp,jqq,jqr,jqs,jqt,if_true,ite_true,jqu,ite_false,if_false]
   refine ⟨_,SqT.of e2,_,e3,rfl,?_⟩
   rw [if_neg (fun z=>n1 (V.str.inj z))]
   refine ⟨_,SqT.of e2,_,e3,rfl,?_⟩
   rw [if_neg (fun z=>n2 (V.str.inj z))]
   refine ⟨_,SqT.of e2,_,e3,rfl,?_⟩
   rw [if_neg (fun z=>n3 (V.str.inj z))]
   refine ⟨_,_,R.ix,rfl,r,m,a,C,s,R,h1,hdo,h2,h3,h4,fun H1 s' e K1 R1=>?_,fun H1 er e s1=>q2 H1 er (by rw [el,e]) s1⟩
   have en:=zdB hdo e
   refine ⟨_,_,_,R1.ix,F.cl,F.n2,_,rfl,_,rfl,?_⟩
   exact q1 H1 s' (s'.n + 1) (by rw [el,e,en]) K1 R1
end
theorem kt {x:Str} (h:xO x=true):PyData.strOk x=true:=(Q9 h).flat
def V6 (H H':Hp):Prop:=∀ b ys,H b=some (.tup ys)→H' b=some (.tup ys)
theorem Same.ts {H H':Hp} (s:Same H H'):V6 H H':=fun b ys e=>s _ _ e
theorem V7 {J:It} {D:Addr} {τ₀:St} {H1:Hp} {Q:Hp→Prop} {B:V→St→Hp→(V→St→Hp→Prop)→(St→Hp→Prop)→Prop} (n:Nat) (hn:n≤1000000) (C:St→Prop) (R:Nat→List V→Hp→Prop) (hm:∀ i ys H H',V6 H H'→R i ys H→R i ys H') (hC:C τ₀) (h0:R 0 [] H1)
  (go:∀ i H,Same H1 H→i < n→J.go i H) (stop:∀ H,Same H1 H→J.stop n H) (hD:H1 D=none)
  (hs:∀ i x τ ys H H',C τ→Same H1 H→i < n→R i ys H→J.yld i H x H'→B x τ H' (fun v τ' H4=>C τ'∧R (i + 1) (ys ++ [v]) H4∧Same H H4) (fun τ' H4=>C τ'∧R (i + 1) ys H4∧Same H H4))
  (hd:∀ ys H,ys.length≤n→R n ys H→Same H1 H→H D=some (.lst ys)→Q H) :
  ∃ W:Nat→Nat→List V→St→Hp→Prop,(∃ m,W 0 m [] τ₀ (upd H1 D (.lst [])))∧∀ i m ys τ H,W i m ys τ H→H D=some (.lst ys) ∧
  ((J.stop i H∧Q H)∨(J.go i H∧ys.length < sizeLine∧∃ N:V→St→Hp→Prop,
   (∀ v τ' H',N v τ' H'→H' D=some (.lst ys)∧∃ m',m' < m∧W (i + 1) m' (ys ++ [v]) τ' (upd H' D (.lst (ys ++ [v]))))∧∃ Nf:St→Hp→Prop,(∀ τ' H',Nf τ' H'→∃ m',m' < m∧W (i + 1) m' ys τ' H') ∧
   ∀ x H',J.yld i H x H'→B x τ H' N Nf)):=by
 have ext:∀ {H:Hp} {o:HO},Same H1 H→Same H1 (upd H D o):=fun {H o} h b u e=>by
  rw [zk (zJ e hD)];exact h b u e
 refine ⟨fun i m ys τ H=>m=n - i∧i≤n∧ys.length≤i∧R i ys H∧Same H1 H∧H D=some (.lst ys)∧C τ,⟨n,by simp,Nat.zero_le _,Nat.le_refl _,hm _ _ _ _ (Same.ts (ext (Same.refl _))) h0,ext (Same.refl _),zd,hC⟩,?_⟩
 rintro i m ys τ H ⟨rfl,hi,hl,hR,hS,hy,hc⟩
 refine ⟨hy,?_⟩
 by_cases hlt:i < n
 ·refine .inr ⟨go i H hS hlt,Nat.lt_of_le_of_lt (by lia:ys.length≤1000000) (by decide),_,?_,_,?_,fun x H' y=>hs i x τ ys H H' hc hS hlt hR y⟩
  ·rintro v τ' H4 ⟨c4,r4,s4⟩
   have y4:=s4 _ _ hy
   exact ⟨y4,n - (i + 1),by lia,rfl,hlt,by simp;lia,hm _ _ _ _ (fun b zs e=>by rw [zk (yq e y4 (by simp))];exact e) r4,ext (hS.trans s4),zd,c4⟩
  ·rintro τ' H4 ⟨c4,r4,s4⟩
   exact ⟨n - (i + 1),by lia,rfl,hlt,by lia,r4,hS.trans s4,s4 _ _ hy,c4⟩
 ·obtain rfl:i=n:=by lia
  exact .inl ⟨stop H hS,hd ys H hl hR hS hy⟩
def jH (P:Nat→Bool) (x:Str):Prop:=x.cps.toList.all P=true
theorem Zx {P:Nat→Bool} {x y:Str} (h:jH P x) (h':jH P y):jH P (x ++ y):=by
 unfold jH at *
 rw [zbl,List.all_append,h,h'];rfl
theorem V8 {P:Nat→Bool} {c:Nat} (h:P c=true):jH P ⟨#[c]⟩:=by
 show [c].all P=true
 rw [List.all_cons,h];rfl
theorem KQ {P:Nat→Bool} {x:Str} (h:jH P x) (k:Nat):jH P (Txt.slice x none (some (k:Int))):=by
 unfold jH at *
 rw [Vz]
 rw [List.all_eq_true] at *
 exact fun c hc=>h c (List.mem_of_mem_take hc)
theorem Wg {P:Nat→Bool} {x:Str} (h:jH P x) (k:Nat):jH P (Txt.slice x (some (k:Int)) none):=by
 unfold jH at *
 rw [YQ]
 rw [List.all_eq_true] at *
 exact fun c hc=>h c (List.mem_of_mem_drop hc)
theorem zaG (x:Str) (k:Nat) (h:k≤x.length):(Txt.slice x none (some (k:Int))).length=k:=by
 rw [Yo] at *
 rw [Vz,List.length_take];lia
theorem V9 (x:Str) (k:Nat):(Txt.slice x (some (k:Int)) none).length=x.length - k:=by
 rw [Yo,Yo,YQ,List.length_drop]
def inC (c:Nat):Bool:=(Str.ofString "zyxwvtsrqpnmlkjhgfdcb").cps.toList.contains c
theorem zdC:∀ c∈(Str.ofString "zyxwvtsrqpnmlkjhgfdcb").cps.toList,inL c=true:=by decide +kernel
theorem zd8:∀ c∈(Str.ofString "zyxwvtsrqpnmlkjhgfdcb").cps.toList,inC c=true:=fun c hc=>by unfold inC;exact List.contains_iff_mem.mpr hc
theorem zd9:∀ c∈(Str.ofString "zyxwvutsrqponmlkjihgfedcba").cps.toList,inL c=true:=by decide +kernel
theorem Qw:∀ v∈jw ++ wl,(match v with | .str w=>decide (w.length≠6) && !(w.cps.toList.all inC) | _=>true)=true:=by decide +kernel
theorem zbK {x:Str} (h:x.length=6∨jH inC x):(inV (.str x) jw || inV (.str x) wl)=false:=by
 have key:∀ v∈jw ++ wl,eqV v (.str x)=false:=fun v hv=>by
  have w:=Qw v hv
  cases e:eqV v (.str x) with
  | false=>rfl
  | true =>
   cases v <;> simp only [eqV,Bool.false_eq_true] at e
   rename_i y
   have e':y=x:=by simpa using e
   subst e'
   simp only [Bool.and_eq_true,decide_eq_true_eq,Bool.not_eq_true'] at w
   rcases h with h | h
   ·exact absurd h w.1
   ·unfold jH at h;rw [h] at w;exact absurd w.2 (by decide)
 rw [Bool.or_eq_false_iff]
 unfold inV
 constructor
 ·rw [List.any_eq_false]
  exact fun v hv=>by rw [key v (List.mem_append_left _ hv)];decide
 ·rw [List.any_eq_false]
  exact fun v hv=>by rw [key v (List.mem_append_right _ hv)];decide
theorem KR {x:Str} (h1:1≤x.length) (h2:x.length≤6) (h3:(x.length=6∧jH inL x)∨jH inC x):xO x=true:=by
 have nw:(inV (.str x) jw || inV (.str x) wl)=false:=zbK (h3.imp (·.1) id)
 have al:x.cps.toList.all inL=true:=by
  rcases h3 with h | h
  ·exact h.2
  ·unfold jH at h
   rw [List.all_eq_true] at *
   exact fun c hc=>zdC c (List.contains_iff_mem.mp (h c hc))
 have ne:decide (x="")=false:=decide_eq_false fun z=>by rw [z] at h1;exact absurd h1 (by decide)
 have nl:decide (6 < x.length)=false:=decide_eq_false (by lia)
 unfold xO
 rw [nw,al,ne,nl];rfl
structure Sgn (P:Nat→Bool) (sz:Nat) (sg:Str):Prop where
 al:jH P sg
 lo:21≤sg.length
 hi:sg.length≤26
 s1:1≤sz
 s6:sz≤6
 nm:∀ x:Str,x.length=sz→jH P x→xO x=true
theorem zaH {P:Nat→Bool} {sz:Nat} {sg:Str} (S:Sgn P sz sg) {i:Int} (h0:0≤i) (h1:i < sg.length):∃ c,atI sg.cps.toList i=some c∧P c=true:=by
 obtain ⟨c,hc,hm⟩:=zaB (xs:=sg.cps.toList) (i:=i) h0 (by rw [← Yo];exact h1)
 exact ⟨c,hc,List.all_eq_true.mp S.al c hm⟩
theorem KS {P:Str→Prop}:∀ {ys:List V},(∀ v∈ys,∃ x,v=.str x∧P x)→∃ ls:List Str,ys=ls.map V.str∧∀ x∈ls,P x
 | [],_=>⟨[],rfl,fun _ z=>nomatch z⟩
 | v :: r,h=>by
  obtain ⟨x,rfl,px⟩:=h v List.mem_cons_self
  obtain ⟨ls,rfl,pl⟩:=KS (ys:=r) fun u hu=>h u (List.mem_cons_of_mem _ hu)
  exact ⟨x :: ls,rfl,fun y hy=>by
   rcases List.mem_cons.mp hy with rfl | hy
   ·exact px
   ·exact pl y hy⟩
def nmV (v:V):Prop:=∃ x:Str,v=.str x∧xO x=true
theorem zbL {P:Nat→Bool} {sz:Nat} {sg stem:Str} {c m tn:Int} {o5:Option V} {at_:Nat} (S:Sgn P sz sg) (hs:stem.length=sz) (hp:jH P stem) (ha:at_ < sz) (h1:0≤m) (h2:m≤6) (q:∀ nm ws H',Same H H'→NamesAt H' nm ws→(ws.length:Int)=m→Q (.ref nm) H') :
  vc K t { nx:=fun _ H'=>Q .non H',rt:=Q } [some (.int c),some (.int m),some (.int sz),some (.str sg),some (.str stem),o5,some (.int at_),some (.int tn)] H:=by
 simp only [vc,L2.start,zl,zt,tOp,zc,tC,zb,zj,tSl,xh,yr,vA,Vt,qD,wj,Wt,rI0,YM,qI,List.map,List.replicate,List.length,List.append,jqa,jqb,jqc,jqd,jqe,jqf,jqg,jqh,jqi,jqj,jqk,jql,jqm,jqn,and_true,true_and,and_assoc,jqo,jqp,jqq,jqr,jqs,jqt,if_true,ite_true,jqu,ite_false,if_false]
 have lo:=S.lo
 have hi:=S.hi
 have s6:=S.s6
 refine ⟨by lia,by lia,fun D hD=>?_⟩
 refine Q1 (J:=Itr 0 m.toNat) m.toNat (by lia) (fun τ=>∃ o,τ=[o,some (.str stem),some (.int (at_:Int)),some (.str sg)]) (fun i v=>nmV v) ⟨_,rfl⟩ (fun i H _ h=>h) (fun H _=>Nat.le_refl _) hD ?_ ?_
 ·rintro i v τ H2 H' ⟨o,rfl⟩ s hi ⟨rfl,rfl⟩
  simp only [L2.start,zl,zt,tOp,zc,tC,zb,zj,tSl,xh,yr,vA,Vt,qD,wj,Wt,rI0,YM,qI,List.map,List.replicate,List.length,List.append,jqa,jqb,jqc,jqd,jqe,jqf,jqg,jqh,jqi,jqj,jqk,jql,jqm,jqn,and_true,true_and,and_assoc,jqo,jqp,jqq,jqr,jqs,jqt,if_true,ite_true,jqu,ite_false,if_false]
  obtain ⟨d,hd,hP⟩:=zaH S (i:=0 + (i:Int)) (by lia) (by lia)
  have l1:=zaG stem at_ (by lia)
  have l2:=V9 stem (at_ + 1)
  have p1:=KQ hp at_
  have p2:=Wg hp (at_ + 1)
  rw [show ((at_ + 1:Nat):Int)=(at_:Int) + 1 by lia] at l2 p2
  exact ⟨yy (by lia),yy (by lia),d,hd,yy (by rw [Zt];lia),yy (by lia),yy (by rw [qt,Zt];lia),⟨_,rfl⟩,⟨_,rfl,S.nm _ (by rw [qt,qt,Zt];lia) (Zx (Zx p1 (V8 hP)) p2)⟩,Same.refl _⟩
 ·intro ys H' hly hv s hq
  obtain ⟨ls,rfl,hp⟩:=KS (P:=fun x=>xO x=true) (ys:=ys) fun v hv2=>by
   obtain ⟨i,hi⟩:=List.getElem?_of_mem hv2
   exact hv i v hi
  rw [List.length_map] at hly
  exact q D ls H' s ⟨hq,hp⟩ (by lia)
theorem zbM {P:Nat→Bool} {sz:Nat} {sg stem:Str} {c m:Int} {o5:Option V} (S:Sgn P sz sg) (hs:stem.length=sz) (hp:jH P stem) (h1:0≤m) (h2:m≤6) (q:∀ nm ws H',Same H H'→NamesAt H' nm ws→(ws.length:Int)=m→Q (.ref nm) H') :
  ve K t { nx:=fun _ H'=>Q .non H',rt:=Q } [some (.int c),some (.int m),some (.int sz),some (.str sg),some (.str stem),o5,none,none] H:=by
 simp only [ve,zr,L2.start,zn,zH,zl,zt,tOp,zc,tC,zb,zj,tCB,tSl,xh,yr,zo,vA,Vt,qD,vS,wj,Wt,rI,rI0,YM,qI,xP,List.map,List.replicate,List.length,List.append,jqa,jqb,jqc,jqd,jqe,jqf,jqg,jqh,jqi,jqj,jqk,jql,jqm,jqn,and_true,true_and,and_assoc,jqo,jqp,jqq,jqr,jqs,jqt,if_true,ite_true,jqu,ite_false,if_false]
 have lo:=S.lo
 have hi:=S.hi
 have s1:=S.s1
 have s6:=S.s6
 refine ⟨by decide,by decide,fun r1 H1 a1 b1 s1'=>⟨by lia,by decide,by decide,fun r2 H2 a2 b2 s2'=>⟨yy (by lia),by lia,?_⟩⟩⟩
 obtain ⟨k,ek⟩:∃ k:Nat,r1 % (sz:Int)=k:=⟨_,(Int.toNat_of_nonneg (Int.emod_nonneg _ (by lia))).symm⟩
 have hk:(k:Int) < sz:=by rw [← ek];exact Int.emod_lt_of_pos _ (by lia)
 obtain ⟨u,eu⟩:∃ u:Nat,r2 % (sg.length:Int)=u:=⟨_,(Int.toNat_of_nonneg (Int.emod_nonneg _ (by lia))).symm⟩
 have hu:(u:Int) < sg.length:=by rw [← eu];exact Int.emod_lt_of_pos _ (by lia)
 rw [ek,eu]
 have l1:=zaG sg u (by lia)
 have l2:=V9 sg u
 refine ⟨yy (by lia),yy (by lia),yy (by lia),?_⟩
 have S':Sgn P sz (Txt.slice sg (some (u:Int)) none ++ Txt.slice sg none (some (u:Int))):=⟨Zx (Wg S.al u) (KQ S.al u),by rw [qt];lia,by rw [qt];lia,S.s1,S.s6,S.nm⟩
 exact zbL S' hs hp (by lia) h1 h2 fun nm ws H' s hn hl=>q nm ws H' (s1'.trans (s2'.trans s)) hn hl
def nmI (P:Nat→Bool) (c m:Int) (sz:Nat) (sg:Str) (H:Hp) (i:Nat) (σ:St) (H':Hp):Prop:=(∃ (x:Str) (o:Option V),σ=[some (.int c),some (.int m),some (.int sz),some (.str sg),some (.str x),o,none,none]∧x.length=i∧jH P x)∧Same H H'
theorem KU {P:Nat→Bool} {sz:Nat} {sg:Str} {c m:Int} (S:Sgn P sz sg) (h1:0≤m) (h2:m≤6) (q:∀ nm ws H',Same H H'→NamesAt H' nm ws→(ws.length:Int)=m→Q (.ref nm) H') :
  vf K t { nx:=fun _ H'=>Q .non H',rt:=Q } [some (.int c),some (.int m),some (.int sz),some (.str sg),none,none,none,none] H:=by
 simp only [vf,zr,L2.start,zn,zH,zl,zt,tOp,zc,tC,zb,zj,yH,tCB,tSl,xh,yr,zo,vA,Vt,qD,vS,wj,Wt,rI,rI0,YM,qI,xP,List.map,List.replicate,List.length,List.append,jqa,jqb,jqc,jqd,jqe,jqf,jqg,jqh,jqi,jqj,jqk,jql,jqm,jqn,and_true,true_and,and_assoc,jqo,jqp,jqq,jqr,jqs,jqt,if_true,ite_true,jqu,ite_false,if_false]
 have lo:=S.lo
 have hi:=S.hi
 have s1:=S.s1
 have s6:=S.s6
 refine ⟨by lia,by lia,qS (nmI P c m sz sg H) ⟨⟨_,none,rfl,by decide +kernel,by show [].all P=true;rfl⟩,Same.refl H⟩ ?_ ?_⟩
 ·rintro i σ H' hi ⟨⟨x,o,rfl,hx,hp⟩,s⟩
  simp only [L2.start,zn,zH,zl,zt,tOp,zc,tC,zb,zj,yH,tCB,tSl,xh,yr,zo,vA,Vt,qD,vS,wj,Wt,rI,rI0,YM,qI,xP,List.map,List.replicate,List.length,List.append,jqa,jqb,jqc,jqd,jqe,jqf,jqg,jqh,jqi,jqj,jqk,jql,jqm,jqn,and_true,true_and,and_assoc,jqo,jqp,jqq,jqr,jqs,jqt,if_true,ite_true,jqu,ite_false,if_false]
  refine ⟨by lia,by lia,fun r1 H1 a1 b1 s1'=>⟨yy (by lia),by lia,?_⟩⟩
  obtain ⟨d,hd,hP⟩:=zaH S (i:=r1 % (sg.length:Int)) (Int.emod_nonneg _ (by lia)) (Int.emod_lt_of_pos _ (by lia))
  exact ⟨yy (by lia),d,hd,yy (by rw [Zt];lia),⟨_,_,rfl,by rw [qt,Zt];lia,Zx hp (V8 hP)⟩,s.trans s1'⟩
 ·rintro σ H' ⟨⟨x,o,rfl,hx,hp⟩,s⟩
  exact zbM S (by lia) hp h1 h2 fun nm ws H2 s2 hn hl=>q nm ws H2 (s.trans s2) hn hl
theorem Xe {c m:Int} (h1:0≤m) (h2:m≤6) (q:∀ nm ws H',Same H H'→NamesAt H' nm ws→(ws.length:Int)=m→Q (.ref nm) H') :
  jv K t { nx:=fun _ H'=>Q .non H',rt:=Q } (L2.start ["cell","many","size","signs","stem","k","at","turn"] [.int c,.int m]) H:=by
 simp only [jv,zr,L2.start,zn,zH,zl,zt,zD,tOp,zc,tC,zb,zj,yH,zF,zp,tCB,tSl,xh,yr,zo,vA,Vt,qD,vS,wj,Wt,rEq,rI,rI0,YM,qI,xP,yA,List.map,List.replicate,List.length,List.append,jqa,jqb,jqc,jqd,jqe,jqf,jqg,jqh,jqi,jqj,jqk,jql,jqm,jqn,and_true,true_and,and_assoc,jqo,jqp,jqq,jqr,jqs,jqt,if_true,ite_true,jqu,ite_false,if_false]
 refine ⟨by decide,by decide,fun r1 H1 a1 b1 s1'=>⟨by decide,?_⟩⟩
 obtain ⟨k,ek⟩:∃ k:Nat,1 + r1 % 6=k:=⟨(1 + r1 % 6).toNat,by lia⟩
 rw [ek]
 have lc:(Str.ofString "zyxwvtsrqpnmlkjhgfdcb").length=21:=by decide +kernel
 have lz:(Str.ofString "zyxwvutsrqponmlkjihgfedcba").length=26:=by decide +kernel
 refine xN (fun e=>?_) fun e=>?_
 ·have e5:(k:Int)=6:=by simpa using e
  have e6:k=6:=by lia
  exact KU (P:=inL) (sg:="zyxwvutsrqponmlkjihgfedcba") ⟨List.all_eq_true.mpr zd9,by rw [lz];lia,by rw [lz];lia,by lia,by lia,fun x hx hp=>KR (by lia) (by lia) (.inl ⟨by lia,hp⟩)⟩ h1 h2 fun nm ws H2 s2 hn hl=>q nm ws H2 (s1'.trans s2) hn hl
 ·exact KU (P:=inC) (sg:="zyxwvtsrqpnmlkjhgfdcb") ⟨List.all_eq_true.mpr zd8,by rw [lc];lia,by rw [lc];lia,by lia,by lia,fun x hx hp=>KR (by lia) (by lia) (.inr hp)⟩ h1 h2 fun nm ws H2 s2 hn hl=>q nm ws H2 (s1'.trans s2) hn hl
structure RnP (m:Nat) (s:RSt):Prop where
 ok:RnOk m s
 ng:∀ r∈s.gi,PyData.strOk r.1.1=true
 nn:∀ r∈s.no,PyData.strOk r.1.1=true
theorem RnOk.up {m:Nat} {s:RSt} (h:RnOk m s):RnOk (m + 1) s:=⟨h.so,h.gw,h.nw,Nat.le_succ_of_le h.l1,Nat.le_succ_of_le h.l2,Nat.le_succ_of_le h.l3,Nat.le_succ_of_le h.l4,h.nd⟩
theorem RnP.up {m:Nat} {s:RSt} (h:RnP m s):RnP (m + 1) s:=⟨h.ok.up,h.ng,h.nn⟩
theorem zaI {p:Pl} {l:List Row} (nd:(l.map (·.1)).Nodup) (h:zu l p=none):p ∉ l.map (·.1):=fun z=>by
 obtain ⟨r,hr,e⟩:=List.mem_map.mp z
 have:=(qu (w:=r.2) nd).mpr (show (p,r.2)∈l by rw [← e];exact hr)
 rw [h] at this
 cases this
theorem zaJ {m:Nat} {s:RSt} {p:Pl} {w:Int} (h:RnOk m s) (hw:inW w=true):inW (wM p w s)=true:=by
 unfold wM
 cases e:zu s.gi p with
 | some i=>exact qy (P:=fun r=>inW r.2=true) h.gw e
 | none =>
  cases e2:zu s.no p with
  | some i=>exact qy (P:=fun r=>inW r.2=true) h.nw e2
  | none=>exact hw
theorem zbN {m:Nat} {s:RSt} {p:Pl} {w i:Int} {x:Str} (h:RnP m s) (hp:PyData.strOk p.1=true) (hw:inW w=true) (hi:inW i=true):RnP (m + 1) { y9 p w s with sl:=yD s.sl (.inr x) (.int i) }:=by
 have so:=qx h.ok.so (.inr x) hi
 have l1:(yD s.sl (.inr x) (V.int i)).length≤m + 1:=Nat.le_trans (xB _ _ _) (Nat.succ_le_succ h.ok.l1)
 unfold y9
 by_cases c:(zu s.gi p).isSome=true∨(zu s.no p).isSome=true
 ·rw [if_pos c]
  exact ⟨⟨so,h.ok.gw,h.ok.nw,l1,Nat.le_succ_of_le h.ok.l2,Nat.le_succ_of_le h.ok.l3,Nat.le_succ_of_le h.ok.l4,h.ok.nd⟩,h.ng,h.nn⟩
 ·rw [if_neg c]
  have cn:zu s.no p=none:=by
   cases e:zu s.no p with
   | none=>rfl
   | some i=>exact absurd (.inr (by rw [e];rfl)) c
  refine ⟨⟨so,h.ok.gw,fun r hr=>?_,l1,Nat.le_succ_of_le h.ok.l2,?_,Nat.le_succ_of_le h.ok.l4,?_⟩,h.ng,fun r hr=>?_⟩
  ·rcases List.mem_append.mp hr with hr | hr
   ·exact h.ok.nw r hr
   ·rw [List.mem_singleton.mp hr];exact hw
  ·show (s.no ++ [(p,w)]).length≤m + 1
   rw [List.length_append];exact Nat.succ_le_succ h.ok.l3
  ·show ((s.no ++ [(p,w)]).map (·.1)).Nodup
   rw [List.map_append]
   refine List.nodup_append.mpr ⟨h.ok.nd,by simp,fun a ha b hb=>?_⟩
   have hb:b=p:=by simpa using hb
   rw [hb]
   exact fun z=>zaI h.ok.nd cn (by rw [← z];exact ha)
  ·rcases List.mem_append.mp hr with hr | hr
   ·exact h.nn r hr
   ·rw [List.mem_singleton.mp hr];exact hp
theorem zcZ {r:Rw} {m:Nat} {w:Int} {s s':RSt} (h:RnP m s) (d:vb r) (k:xQ r) (pl:Z9 r) (hw:inW w=true) (e:doR r w s=.ok s'):RnP (m + 1) s'∧s'.why=s.why:=by
 cases r with
 | off e'=>exact d.elim
 | iff e' b c=>exact d.elim
 | take sh e' x =>
  cases hk:rk s.sl e' with
  | error er=>simp only [doR,hk] at e;cases e
  | ok n =>
   simp only [doR,hk] at e
   cases e
   exact ⟨zbN h pl.1 hw (zaJ h.ok hw),by show (y9 _ _ _).why=_;unfold y9;split <;> rfl⟩
 | give sh e' f =>
  cases hk:rk s.sl e' with
  | error er=>simp only [doR,hk] at e;cases e
  | ok n =>
   cases hk2:rk s.sl f with
   | error er=>simp only [doR,hk,hk2] at e;cases e
   | ok i =>
    simp only [doR,hk,hk2] at e
    cases e
    have hi:=WN h.ok.so k.2.2.1 hk2
    refine ⟨⟨⟨h.ok.so,fun r hr=>?_,h.ok.nw,Nat.le_succ_of_le h.ok.l1,?_,Nat.le_succ_of_le h.ok.l3,Nat.le_succ_of_le h.ok.l4,h.ok.nd⟩,fun r hr=>?_,h.nn⟩,rfl⟩
    ·rcases List.mem_append.mp hr with hr | hr
     ·exact h.ok.gw r hr
     ·rw [List.mem_singleton.mp hr];exact hi
    ·show (s.gi ++ [((sh,n),i)]).length≤m + 1
     rw [List.length_append];exact Nat.succ_le_succ h.ok.l2
    ·rcases List.mem_append.mp hr with hr | hr
     ·exact h.ng r hr
     ·rw [List.mem_singleton.mp hr];exact pl.1
 | lt x e' =>
  cases hk:rk s.sl e' with
  | error er=>simp only [doR,hk] at e;cases e
  | ok i =>
   simp only [doR,hk] at e
   cases e
   have hi:=WN h.ok.so k.2.1 hk
   exact ⟨⟨⟨qx h.ok.so _ hi,h.ok.gw,h.ok.nw,Nat.le_trans (xB _ _ _) (Nat.succ_le_succ h.ok.l1),Nat.le_succ_of_le h.ok.l2,Nat.le_succ_of_le h.ok.l3,Nat.le_succ_of_le h.ok.l4,h.ok.nd⟩,h.ng,h.nn⟩,rfl⟩
 | say e' =>
  cases hk:rk s.sl e' with
  | error er=>simp only [doR,hk] at e;cases e
  | ok i =>
   simp only [doR,hk] at e
   cases e
   exact ⟨⟨⟨h.ok.so,h.ok.gw,h.ok.nw,Nat.le_succ_of_le h.ok.l1,Nat.le_succ_of_le h.ok.l2,Nat.le_succ_of_le h.ok.l3,by show (s.sa ++ [i]).length≤m + 1;rw [List.length_append];exact Nat.succ_le_succ h.ok.l4,h.ok.nd⟩,h.ng,h.nn⟩,rfl⟩
theorem zc0 (er:Er):PyData.strOk (Y1 er)=true:=by cases er <;> decide +kernel
theorem zbO {C:List Cs} {m:Nat} {w:Int} {s:RSt} (O:Qv C) (h:RnI C m s) (ho:ym C s=false) (hw:inW w=true):RnI C (m + 1) (xL C w s):=by
 have no:¬ ym C s=true:=by rw [ho];decide
 have lt:=Zv no
 have hc:C[s.n]?=some C[s.n]:=List.getElem?_eq_getElem lt
 have es:xL C w s=zX C[s.n] w s:=by unfold xL;rw [if_neg no,hc]
 have wn:s.why=none:=by
  cases e:s.why with
  | none=>rfl
  | some v=>exact absurd (show ym C s=true by unfold ym;rw [e];rfl) no
 have mn:=h.at_ wn
 have ok:=O.ok _ (List.getElem_mem lt)
 have pl:=O.pl _ (List.getElem_mem lt)
 have P:RnP m s:=⟨h.ok,h.ng,h.nn⟩
 have fin:∀ {s':RSt} {k:Nat},RnP (m + 1) s'→(s'.why=none→m + 1≤k)→(∀ v,s'.why=some v→PyData.strOk v=true)→RnI C (m + 1) { s' with n:=k }:=fun {s' k} p l y =>
  ⟨⟨p.ok.so,p.ok.gw,p.ok.nw,p.ok.l1,p.ok.l2,p.ok.l3,p.ok.l4,p.ok.nd⟩,p.ng,p.nn,l,y⟩
 have bad:∀ er,RnI C (m + 1) { s with why:=some (Y1 er) }:=fun er=>⟨⟨P.up.ok.so,P.up.ok.gw,P.up.ok.nw,P.up.ok.l1,P.up.ok.l2,P.up.ok.l3,P.up.ok.l4,P.up.ok.nd⟩,P.ng,P.nn,fun z=>(by cases z),fun v z=>by cases z;exact zc0 er⟩
 have does:∀ r:Rw,vb r→Yd (.row r)→zbG (.row r)→RnI C (m + 1) (zX (.row r) w s):=fun r hf ok pl=>by
  unfold zX
  rw [V5 hf]
  cases hk:doR r w s with
  | error er=>exact bad er
  | ok s' =>
   obtain ⟨a,b⟩:=zcZ P hf ok pl hw hk
   exact fin a (fun _=>by lia) (fun v z=>h.wy v (by rw [← b];exact z))
 rw [es]
 have hg:∀ to,C[s.n]=.go to→s.n < to:=fun to e=>O.fg s.n to (by rw [hc,e])
 have hs:∀ e to,C[s.n]=.skip e to→s.n < to:=fun e to e2=>O.fw s.n to e (by rw [hc,e2])
 generalize C[s.n]=c at *
 cases c with
 | go to =>
  have:=hg to rfl
  exact fin P.up (fun _=>by lia) h.wy
 | skip e to =>
  have:=hs e to rfl
  cases hk:rk s.sl e with
  | error er=>simp only [zX,yu,hk];exact bad er
  | ok i =>
   simp only [zX,yu,hk]
   refine fin P.up (fun _=>?_) h.wy
   split <;> lia
 | row r =>
  cases r with
  | off e =>
   cases hk:rk s.sl e with
   | error er=>simp only [zX,yu,hk];exact bad er
   | ok i =>
    by_cases hi:i=0
    ·simp only [zX,yu,hk,if_pos hi]
     exact fin P.up (fun _=>by lia) h.wy
    ·simp only [zX,yu,hk,if_neg hi]
     exact fin (s':={ s with why:=some (Str.ofString "told") }) ⟨⟨P.up.ok.so,P.up.ok.gw,P.up.ok.nw,P.up.ok.l1,P.up.ok.l2,P.up.ok.l3,P.up.ok.l4,P.up.ok.nd⟩,P.ng,P.nn⟩ (fun z=>by cases z) (fun v z=>by cases z;decide +kernel)
  | iff e b d=>exact fin (k:=s.n + 1) P.up (fun _=>by lia) h.wy
  | take sh e x=>exact does (.take sh e x) trivial ok pl
  | give sh e x=>exact does (.give sh e x) trivial ok pl
  | lt sh e=>exact does (.lt sh e) trivial ok pl
  | say e=>exact does (.say e) trivial ok pl
structure FwC (k:Nat) (C:List Cs):Prop where
 ok:∀ c∈C,Yd c∧zbG c
 fw:∀ (i to:Nat) (e:List V),C[i]?=some (Cs.skip e to)→k + i < to
 fg:∀ (i to:Nat),C[i]?=some (Cs.go to)→k + i < to
theorem FwC.nil (k:Nat):FwC k []:=⟨fun c h=>(nomatch h),fun i to e h=>by simp at h,fun i to h=>by simp at h⟩
theorem FwC.cons {k:Nat} {c:Cs} {C:List Cs} (h1:Yd c∧zbG c) (h2:∀ e to,c=.skip e to→k < to) (h3:∀ to,c=.go to→k < to) (h:FwC (k + 1) C):FwC k (c :: C):=by
 refine ⟨fun x hx=>?_,fun i to e hi=>?_,fun i to hi=>?_⟩
 ·rcases List.mem_cons.mp hx with rfl | hx
  ·exact h1
  ·exact h.ok x hx
 ·cases i with
  | zero=>have:=h2 e to (by simpa using hi);lia
  | succ i=>have:=h.fw i to e (by simpa using hi);lia
 ·cases i with
  | zero=>have:=h3 to (by simpa using hi);lia
  | succ i=>have:=h.fg i to (by simpa using hi);lia
theorem FwC.app:∀ {A:List Cs} {k:Nat} {B:List Cs},FwC k A→FwC (k + A.length) B→FwC k (A ++ B)
 | [],k,B,_,h=>by simpa using h
 | c :: A,k,B,h,h'=>by
  rw [List.cons_append]
  refine .cons (h.ok c List.mem_cons_self) (fun e to z=>by have:=h.fw 0 to e (by rw [z];rfl);lia) (fun to z=>by have:=h.fg 0 to (by rw [z];rfl);lia) (FwC.app ⟨fun x hx=>h.ok x (List.mem_cons_of_mem _ hx),fun i to e hi=>?_,fun i to hi=>?_⟩ (by rw [List.length_cons] at h';rw [show k + 1 + A.length=k + (A.length + 1) by lia];exact h'))
  ·have:=h.fw (i + 1) to e (by simpa using hi);lia
  ·have:=h.fg (i + 1) to (by simpa using hi);lia
mutual
theorem zaK:∀ (r:Rw) (k:Nat),xQ r→Z9 r→FwC k (yB r k)
 | .iff e a b,k,o,p=>by
  unfold xQ at o
  unfold Z9 at p
  have ha:=qB a (k + 1) o.2.1 p.2.1
  have hb:=qB b (k + 2 + (zm a (k + 1)).length) o.2.2 p.2.2
  have ec:yB (.iff e a b) k=blk e k (zm a (k + 1)) (Rws.isNil b) (zm b (k + 2 + (zm a (k + 1)).length)):=by rw [yB]
  rw [ec]
  generalize zm a (k + 1)=A at *
  generalize zm b (k + 2 + A.length)=B at *
  unfold blk
  split
  ·exact .cons ⟨o.1,trivial⟩ (fun e' to z=>by cases z;lia) (fun to z=>nomatch z) ha
  ·refine .cons ⟨o.1,trivial⟩ (fun e' to z=>by cases z;lia) (fun to z=>nomatch z) (.app ha (.cons ⟨trivial,trivial⟩ (fun e' to z=>nomatch z) (fun to z=>by cases z;lia) ?_))
   rw [show k + 1 + A.length + 1=k + 2 + A.length by lia]
   exact hb
 | .take sh e sl,k,o,p=>by rw [vP (x:=.take sh e sl) trivial];exact .cons ⟨o,p⟩ (fun _ _ z=>nomatch z) (fun _ z=>nomatch z) (.nil _)
 | .give sh e f,k,o,p=>by rw [vP (x:=.give sh e f) trivial];exact .cons ⟨o,p⟩ (fun _ _ z=>nomatch z) (fun _ z=>nomatch z) (.nil _)
 | .lt sl e,k,o,p=>by rw [vP (x:=.lt sl e) trivial];exact .cons ⟨o,p⟩ (fun _ _ z=>nomatch z) (fun _ z=>nomatch z) (.nil _)
 | .say e,k,o,p=>by rw [vP (x:=.say e) trivial];exact .cons ⟨o,p⟩ (fun _ _ z=>nomatch z) (fun _ z=>nomatch z) (.nil _)
 | .off e,k,o,p=>by rw [vP (x:=.off e) trivial];exact .cons ⟨o,p⟩ (fun _ _ z=>nomatch z) (fun _ z=>nomatch z) (.nil _)
theorem qB:∀ (r:Rws) (k:Nat),yX r→xM r→FwC k (zm r k)
 | .nil,k,o,p=>by rw [zm];exact .nil k
 | .cons r rs,k,o,p=>by
  unfold yX at o
  unfold xM at p
  rw [zm]
  exact .app (zaK r k o.1 p.1) (qB rs _ o.2 p.2)
end
theorem zdD {r:Rws} (h1:Y9 6 r) (h2:yX r) (h3:(zm r 0).length≤40):Qv (zm r 0):=by
 have f:=qB r 0 h2 h1.pl
 exact ⟨fun c hc=>(f.ok c hc).1,fun c hc=>(f.ok c hc).2,fun i to e h=>by have:=f.fw i to e h;lia,fun i to h=>by have:=f.fg i to h;lia,h3⟩
def plD (p:Pl):PyData:=.tuple [.str p.1,.int p.2]
def XB (r:Row):PyData:=.tuple [plD r.1,.int r.2]
theorem zc1 {q:Addr} {p:Pl} (h:H q=some (.tup [.str p.1,.int p.2])):Dat K H (.ref q) (plD p):=.tup (SqT.of h) (.cons (.str _) (.cons (.int _) .nil))
theorem zaL {p:Pl} (h:PyData.strOk p.1=true):zV (plD p)=true:=by simp [plD,zV,yw,h]
theorem zaM (p:Pl):(plD p).depth≤2:=by simp [plD,PyData.depth,PyData.depthAll]
theorem KW:∀ {ys:List V} {rows:List Row},Paired (PrAt H) ys rows→DatAll K H ys (rows.map XB)
 | _,_,.nil=>.nil
 | _,_,.cons ⟨r,p,e1,e2,e3⟩ t=>by
  rw [List.map_cons,e1]
  exact .cons (.tup (SqT.of e2) (.cons (zc1 e3) (.cons (.int _) .nil))) (KW t)
theorem ZU {l:Addr} {rows:List Row} (h:LsAt H l rows):Dat K H (.ref l) (.list (rows.map XB)):=by
 obtain ⟨xs,h1,h2⟩:=h
 exact .lst (SqL.of h1) (KW h2)
theorem Wh:∀ {rows:List Row},(∀ r∈rows,PyData.strOk r.1.1=true)→yw (rows.map XB)=true
 | [],_=>rfl
 | r :: t,h=>by
  rw [List.map_cons,yw,Wh (fun x hx=>h x (List.mem_cons_of_mem _ hx))]
  have:=zaL (h r List.mem_cons_self)
  simp [XB,zV,yw,this]
theorem Ja:∀ (rows:List Row),PyData.depthAll (rows.map XB)≤3
 | []=>by simp [PyData.depthAll]
 | r :: t=>by
  have h:=Ja t
  have h2:=zaM r.1
  rw [List.map_cons,PyData.depthAll]
  simp only [XB,PyData.depth,PyData.depthAll] at h2 ⊢
  lia
theorem Zy {rows:List Row} (h:∀ r∈rows,PyData.strOk r.1.1=true):zV (.list (rows.map XB))=true:=by rw [zV];exact Wh h
theorem Yq (rows:List Row):(PyData.list (rows.map XB)).depth≤4:=by
 have:=Ja rows
 rw [PyData.depth];lia
section
variable {l:Addr}
theorem zdE {H':Hp} {rows:List Row} (h:LsAt H l rows) (k:∀ o,H l=some o→H' l=some o) (ts:TSm H H'):LsAt H' l rows:=by
 obtain ⟨xs,h1,h2⟩:=h
 exact ⟨xs,k _ h1,Paired.mapP h2 fun _ _ ⟨r,p,e1,e2,e3⟩=>⟨r,p,e1,ts _ _ e2,ts _ _ e3⟩⟩
theorem jn {H':Hp} {rows:List Row} (h:LsAt H l rows) (s:Same H H'):LsAt H' l rows:=zdE h (fun o e=>s _ _ e) fun b ys e=>s _ _ e
end
section
variable {C:List Cs} {s:RSt} {m:Nat}
theorem zaN:PyData.strOk (Str.ofString "done")=true:=by decide +kernel
def ocD:Oc→PyData
 | .done sa=>.tuple [.str (Str.ofString "done"),.tuple (sa.map PyData.int)]
 | .off w=>.tuple [.str (Str.ofString "off"),.str w]
theorem KY {H':Hp} {v:V} {oc:Oc} (h:ZN H v oc) (s:Same H H'):ZN H' v oc:=by
 cases oc with
 | done sa=>obtain ⟨o,y,e1,e2,e3⟩:=h;exact ⟨o,y,e1,s _ _ e2,s _ _ e3⟩
 | off w=>obtain ⟨o,e1,e2⟩:=h;exact ⟨o,e1,s _ _ e2⟩
theorem J6 {v:V} {oc:Oc} (h:ZN H v oc):Dat K H v (ocD oc):=by
 cases oc with
 | done sa =>
  obtain ⟨o,y,rfl,e2,e3⟩:=h
  exact .tup (SqT.of e2) (.cons (.str _) (.cons (.tup (SqT.of e3) (DatAll.of fun i _=>.int i)) .nil))
 | off w =>
  obtain ⟨o,rfl,e2⟩:=h
  exact .tup (SqT.of e2) (.cons (.str _) (.cons (.str _) .nil))
theorem Xf:∀ (sa:List Int),yw (sa.map PyData.int)=true
 | []=>rfl
 | i :: t=>by rw [List.map_cons,yw,Xf t];rfl
theorem Wi:∀ (sa:List Int),PyData.depthAll (sa.map PyData.int)=0
 | []=>by simp [PyData.depthAll]
 | i :: t=>by rw [List.map_cons,PyData.depthAll,Wi t,PyData.depth];rfl
theorem Jb {oc:Oc} (h:∀ w,oc=.off w→PyData.strOk w=true):zV (ocD oc)=true:=by
 cases oc with
 | done sa=>have:=zaN;simp [ocD,zV,yw,Xf,this]
 | off w=>have:=h w rfl;have k:=zbB;simp [ocD,zV,yw,this,k]
theorem KZ (oc:Oc):(ocD oc).depth≤3:=by
 cases oc with
 | done sa=>simp only [ocD,PyData.depth,PyData.depthAll,Wi];lia
 | off w=>simp only [ocD,PyData.depth,PyData.depthAll];lia
def ppD (oc:Oc) (no gi:List Row):PyData:=.tuple [ocD oc,.list (no.map XB),.list (gi.map XB)]
theorem zbP {out out':List Row} (h:Zs s out) (h':Zs s out'):out=out':=by
 unfold Zs at h h'
 cases e:s.why with
 | some w=>rw [e] at h h';rw [h,h']
 | none=>rw [e] at h h';exact YV h.1 h'.1 fun ⟨p,w⟩=>(h.2 p w).trans (h'.2 p w).symm
theorem zcj {out:List Row} (I:RnI C m s) (h:Zs s out):∀ r∈out,PyData.strOk r.1.1=true:=by
 unfold Zs at h
 cases e:s.why with
 | some w=>rw [e] at h;rw [h];exact fun r hr=>nomatch hr
 | none =>
  rw [e] at h
  intro r hr
  exact qy (P:=fun r=>PyData.strOk r.1.1=true) I.ng ((h.2 r.1 r.2).mp hr)
theorem zc2 {out:List Row} (h:Zs s out):out.length≤s.gi.length:=by
 unfold Zs at h
 cases e:s.why with
 | some w=>rw [e] at h;rw [h];exact Nat.zero_le _
 | none =>
  rw [e] at h
  have ld:=xb s.gi
  have n1:((dOf s.gi).map (·.1)).Nodup:=(vX s.gi).1
  have n2:((out.map (·.1)).map zP).Nodup:=by
   have:=h.1.nd
   unfold List.Nodup at *
   rw [List.pairwise_map]
   exact this.imp fun {a b} hab z=>hab (xD z)
  have sub2:∀ k∈(out.map (·.1)).map zP,k∈(dOf s.gi).map (·.1):=fun k hk=>by
   obtain ⟨p,hp,rfl⟩:=List.mem_map.mp hk
   obtain ⟨r,hr,rfl⟩:=List.mem_map.mp hp
   exact List.mem_map_of_mem (f:=(·.1)) (mem_dOf.mpr ⟨r.1,r.2,rfl,(h.2 r.1 r.2).mp hr⟩)
  have:=qv n2 sub2
  simp only [List.length_map] at this
  lia
end
theorem zc3 {H0 H1 H3:Hp} {x dx:Addr} {a:RAd} (s1:Same H0 H1) (hx:H1 x=none) (hdx:H1 dx=none) (k3:Z4 x (upd (upd H1 dx (.own x)) x (.ins t.c_Run dx [])) H3) (fr:∀ b,OwA x a b→b=x∨upd (upd H1 dx (.own x)) x (.ins t.c_Run dx []) b=none):Same H1 H3∧∀ b,OwA x a b→H1 b=none:=by
 have s2:Same H1 (upd (upd H1 dx (HO.own x)) x (HO.ins t.c_Run dx [])):=fun b o e=>by rw [zk (zJ e hx),zk (zJ e hdx)];exact e
 refine ⟨fun b o e=>k3 b o (fun z=>by rw [z,hx] at e;cases e) (s2 b o e),fun b ob=>?_⟩
 rcases fr b ob with z | z
 ·rw [z];exact hx
 ·exact yf s2 z
section
variable {C:List Cs}
theorem zaO {r:Addr} {s:RSt} {out:List Row} {o:V} {nl gl:Addr} (h1:H r=some (.tup [o,.ref nl,.ref gl])) (h2:ZN H o (qF s)) (h3:LsAt H nl s.no) (h4:LsAt H gl out):Dat K H (.ref r) (ppD (qF s) s.no out):=.tup (SqT.of h1) (.cons (J6 h2) (.cons (ZU h3) (.cons (ZU h4) .nil)))
end
theorem zbQ (ns:List Int) (lo hi:Option Int):∃ ys:List Int,Z7 (ns.map V.int) lo hi=ys.map V.int∧ys.length≤ns.length:=by
 refine ⟨(ns.drop (HT.sIx ns.length 0 lo)).take (HT.sIx ns.length ns.length hi - HT.sIx ns.length 0 lo),?_,?_⟩
 ·unfold Z7
  rw [List.map_take,List.map_drop,List.length_map]
 ·rw [List.length_take,List.length_drop];lia
theorem Jc {σ:St} {H:Hp} {nx:St→Hp→Prop} {B:V→St→Hp→(St→Hp→Prop)→Prop} {lo c:Int} {n:Nat} (Pv:Nat→St→Hp→Prop) (h0:Pv 0 σ H) (hs:∀ i σ H,i < n→Pv i σ H→B (.int (lo + i * c)) σ H (Pv (i + 1))) (hd:∀ σ H,Pv n σ H→nx σ H) :
  ∃ W:Nat→Nat→St→Hp→Prop,(∃ m,W 0 m σ H)∧∀ i m σ H,W i m σ H→((zap lo c n).stop i H∧nx σ H)∨((zap lo c n).go i H∧∃ N:St→Hp→Prop,(∀ σ' H',N σ' H'→∃ m',m' < m∧W (i + 1) m' σ' H')∧∀ x H',(zap lo c n).yld i H x H'→B x σ H' N):=by
 refine ⟨fun i m σ H=>m=n - i∧i≤n∧Pv i σ H,⟨n,by simp,Nat.zero_le _,h0⟩,?_⟩
 rintro i m σ H ⟨rfl,hi,p⟩
 by_cases hlt:i < n
 ·refine .inr ⟨hlt,Pv (i + 1),fun σ' H' p'=>⟨n - (i + 1),by lia,rfl,hlt,p'⟩,?_⟩
  rintro x H' ⟨rfl,rfl⟩
  exact hs i σ _ hlt p
 ·obtain rfl:i=n:=by lia
  exact .inl ⟨Nat.le_refl _,hd σ H p⟩
theorem _root_.L2.PrAt.same {H H':Hp} {v:V} {q:Row} (h:Wf H v q) (s:Same H H'):Wf H' v q:=by
 obtain ⟨r,p,e,h1,h2⟩:=h
 exact ⟨r,p,e,s _ _ h1,s _ _ h2⟩
theorem _root_.L2.PrAt.tsame {H H':Hp} {v:V} {q:Row} (h:Wf H v q) (s:V6 H H'):Wf H' v q:=by
 obtain ⟨r,p,e,h1,h2⟩:=h
 exact ⟨r,p,e,s _ _ h1,s _ _ h2⟩
theorem je {H H':Hp} (s:V6 H H'):∀ {vs:List V} {rows:List Row},v0 H vs rows→v0 H' vs rows
 | _,_,.nil=>.nil
 | _,_,.cons h r=>.cons (h.tsame s) (je s r)
theorem jS {H H':Hp} (s:Same H H'):∀ {vs:List V} {rows:List Row},v0 H vs rows→v0 H' vs rows
 | _,_,.nil=>.nil
 | _,_,.cons h r=>.cons (h.same s) (jS s r)
theorem zaP {vs:List V} {rows:List Row} (h:v0 H vs rows):vs.length=rows.length:=Paired.length h
theorem Jd {vs:List V} {rows:List Row} {i:Nat} {v:V} (h:v0 H vs rows) (e:vs[i]?=some v):∃ q,rows[i]?=some q∧Wf H v q:=by
 have hi:=(List.getElem?_eq_some_iff.mp e).1
 have l:=zaP h
 exact ⟨rows[i],List.getElem?_eq_getElem (by lia),yp h e (List.getElem?_eq_getElem (by lia))⟩
theorem Wj {H:Hp} {v:V} {q:Row}:∀ {ys:List V} {rows:List Row},v0 H ys rows→Wf H v q→v0 H (ys ++ [v]) (rows ++ [q])
 | _,_,.nil,h=>.cons h .nil
 | _,_,.cons a r,h=>.cons a (Wj r h)
theorem zaQ (rows:List Row):∃ qs:List Pl,(dOf rows).map (·.1)=qs.map zP∧qs.Nodup∧∀ p,p∈qs↔(zu rows p).isSome=true:=by
 have h:=vX rows
 have:∀ (kvs:List (List Key × V)),(∀ kv∈kvs,∃ (p:Pl) (w:Int),kv=(zP p,.int w))→∃ qs:List Pl,kvs.map (·.1)=qs.map zP:=fun kvs=>by
  induction kvs with
  | nil=>exact fun _=>⟨[],rfl⟩
  | cons kv r ih =>
   intro hk
   obtain ⟨qs,e⟩:=ih fun z hz=>hk z (List.mem_cons_of_mem _ hz)
   obtain ⟨p,w,e2⟩:=hk kv List.mem_cons_self
   exact ⟨p :: qs,by rw [List.map_cons,List.map_cons,e,e2]⟩
 obtain ⟨qs,e⟩:=this _ h.2
 refine ⟨qs,e,wP (f:=zP) (by rw [← e];exact h.1),fun p=>?_⟩
 constructor
 ·intro hp
  have:zP p∈(dOf rows).map (·.1):=by rw [e];exact List.mem_map_of_mem hp
  obtain ⟨kv,hk,e1⟩:=List.mem_map.mp this
  obtain ⟨p',w,rfl,hw⟩:=mem_dOf.mp hk
  have:=xD e1
  subst this
  rw [hw];rfl
 ·intro hp
  obtain ⟨w,hw⟩:=Option.isSome_iff_exists.mp hp
  have:zP p∈qs.map zP:=by rw [← e];exact List.mem_map_of_mem (f:=(·.1)) (mem_dOf.mpr ⟨p,w,rfl,hw⟩)
  obtain ⟨p',hp',e1⟩:=List.mem_map.mp this
  rw [← xD e1];exact hp'
def Wk (rows:List Row) (p:Pl):Option Row:=match zu rows p with
 | some w=>if w=0 then none else some (p,w)
 | none=>none
def zc4 (rows:List Row) (qs:List Pl) (i:Nat) (ys:List V) (H:Hp):Prop:=∃ out:List Row,v0 H ys out∧out=(qs.take i).filterMap (Wk rows)
theorem zbR {rows:List Row} {qs:List Pl} {i:Nat} {ys:List V} {H H':Hp} (s:V6 H H') (h:zc4 rows qs i ys H):zc4 rows qs i ys H':=by
 obtain ⟨out,h1,h2⟩:=h
 exact ⟨out,je s h1,h2⟩
theorem toRow_iff {rows:List Row} {p:Pl} {b:Row}:Wk rows p=some b↔b.1=p∧zu rows p=some b.2∧b.2≠0:=by
 unfold Wk
 obtain ⟨p',w'⟩:=b
 cases e:zu rows p with
 | none=>simp
 | some w =>
  by_cases h:w=0
  ·subst h
   simp only [if_true]
   constructor
   ·intro z;cases z
   ·rintro ⟨_,z,h2⟩
    exact absurd (Option.some.inj z).symm h2
  ·simp only [if_neg h,Option.some.injEq,Prod.mk.injEq]
   constructor
   ·rintro ⟨rfl,rfl⟩;exact ⟨rfl,rfl,h⟩
   ·rintro ⟨rfl,rfl,_⟩;exact ⟨rfl,rfl⟩
theorem zc5 {rows:List Row} {ps:List Pl} (hw:ps.Pairwise fun a b=>z4 a b=true) (hm:∀ p,p∈ps↔(zu rows p).isSome=true):vC rows (ps.filterMap (Wk rows)):=by
 constructor
 ·unfold Rising
  rw [List.pairwise_filterMap]
  refine hw.imp fun {a a'} h b hb b' hb'=>?_
  rw [(toRow_iff.mp hb).1,(toRow_iff.mp hb').1];exact h
 ·intro p w
  rw [List.mem_filterMap]
  constructor
  ·rintro ⟨a,_,h⟩
   obtain ⟨h1,h2,h3⟩:=toRow_iff.mp h
   cases h1
   exact ⟨h2,h3⟩
  ·rintro ⟨h1,h2⟩
   exact ⟨p,(hm p).mpr (by rw [h1];rfl),toRow_iff.mpr ⟨rfl,h1,h2⟩⟩
theorem XC {a:Addr} {xs:List V} {rows:List Row} (h1:H a=some (.lst xs)) (h2:v0 H xs rows) (h4:(dOf rows).length≤63) (h5:rows.length≤1000) (q:∀ l ys out H',Same H H'→H l=none→H' l=some (.lst ys)→v0 H' ys out→vC rows out→Q (.ref l) H') :
  jm K t { nx:=fun _ H'=>Q .non H',rt:=Q } (L2.start ["rows","worths"] [.ref a]) H:=by
 simp only [jm,vT,Ky,qJ,L2.start,zn,zH,zl,zt,tOp,zc,tC,z0,zb,zj,zp,tCB,vA,qD,yG,rNe,yA,List.map,List.replicate,List.length,List.append,jqa,jqb,jqc,jqd,jqe,jqf,jqg,jqh,jqi,jqj,jqk,jql,jqm,jqn,and_true,true_and,and_assoc,jqo,jqp,jqq,jqr,jqs,jqt,if_true,ite_true,jqu,ite_false,if_false]
 refine ⟨xs,h1,rows,h2,h5,fun d hd=>?_⟩
 have S:∀ u:HO,Same H (upd H d u):=fun u=>isV (o:=u) d hd
 obtain ⟨qs,hqs,nqs,mqs⟩:=zaQ rows
 have ld:=xb rows
 generalize hH0:upd H d (.dT (dOf rows))=H0
 have S0:Same H H0:=by rw [← hH0];exact S _
 have d0:H0 d=some (.dT (dOf rows)):=by rw [← hH0];exact zd
 refine ⟨dOf rows,d0,qs,hqs,by lia,fun l ps hl0 hperm hpw hps=>?_⟩
 obtain ⟨H1,eH,s1,q1⟩:=zbg (o:=HO.lst (ps.map fun n=>V.ref n.1)) hl0
 rw [← eH]
 clear eH
 refine ⟨⟨_,SqL.of q1⟩,fun D hD=>?_⟩
 refine V7 (J:=Itl K l) ps.length (by have:=hperm.length_eq;have:=congrArg List.length hqs;simp at *;lia) (fun τ=>∃ o,τ=[o,some (.ref d)]) (zc4 rows (ps.map (·.2))) (fun i ys H H' s h=>zbR s h) ⟨_,rfl⟩ ⟨[],.nil,rfl⟩ (fun i H s h=>⟨_,_,SqL.of (s _ _ q1),List.getElem?_eq_getElem (by rw [List.length_map];exact h)⟩) (fun H s=>⟨_,SqL.of (s _ _ q1),by rw [List.length_map];exact Nat.le_refl _⟩) hD ?_ ?_
 ·rintro i v τ ys H4 H5 ⟨o,rfl⟩ s4 hi hR ⟨rfl,hv⟩
  have hv:=hv _ (SqL.of (s4 _ _ q1))
  rw [List.getElem?_map] at hv
  obtain ⟨n,hn,rfl⟩:=Option.map_eq_some_iff.mp hv
  have hp:=s4 _ _ (s1 _ _ (hps n (List.mem_of_getElem? hn)))
  simp only [vT,Ky,qJ,L2.start,zn,zH,zl,zt,tOp,zc,tC,z0,zb,zj,zp,tCB,vA,qD,yG,rNe,yA,List.map,List.replicate,List.length,List.append,jqa,jqb,jqc,jqd,jqe,jqf,jqg,jqh,jqi,jqj,jqk,jql,jqm,jqn,and_true,true_and,and_assoc,jqo,jqp,jqq,jqr,jqs,jqt,if_true,ite_true,jqu,ite_false,if_false]
  have hm:n.2∈qs:=hperm.mem_iff.mp (List.mem_map_of_mem (List.mem_of_getElem? hn))
  obtain ⟨w,hw⟩:=Option.isSome_iff_exists.mp ((mqs n.2).mp hm)
  have g:DGet H5 d (.ref n.1) ((zu rows n.2).map V.int):=.inr ⟨dOf rows,zP n.2,n.1,.inl (s4 _ _ (s1 _ _ d0)),rfl,hp,(xS rows n.2).symm⟩
  rw [hw] at g
  have tk:(ps.map (·.2)).take (i + 1)=(ps.map (·.2)).take i ++ [n.2]:=by rw [List.take_add_one,List.getElem?_map,hn];rfl
  obtain ⟨out,hr,ho⟩:=hR
  refine ⟨_,g,rfl,xN (fun c=>⟨_,g,by decide,fun p hp2=>⟨⟨_,rfl⟩,?_,isV p hp2⟩⟩) fun c=>⟨⟨_,rfl⟩,?_,Same.refl _⟩⟩
  ·refine ⟨out ++ [(n.2,w)],Wj (jS (isV p hp2) hr) ⟨p,n.1,rfl,zd,isV p hp2 _ _ hp⟩,?_⟩
   have hw0:w≠0:=fun z=>c (by rw [z])
   rw [tk,List.filterMap_append,← ho]
   simp [Wk,hw,hw0]
  ·refine ⟨out,hr,?_⟩
   have hw0:w=0:=by simpa using c
   rw [tk,List.filterMap_append,← ho]
   simp [Wk,hw,hw0]
 ·rintro ys H4 hly ⟨out,hr,ho⟩ s4 hq
  refine q D ys out H4 (S0.trans (s1.trans s4)) (yf (S0.trans s1) hD) hq hr ?_
  rw [List.take_of_length_le (by rw [List.length_map];exact Nat.le_refl _)] at ho
  subst ho
  exact zc5 hpw fun p=>(hperm.mem_iff.trans (mqs p))
theorem Je {p:Pl} {w:Int}:∀ {l:List Row},zu l p=some w→(p,w)∈l
 | [],h=>by cases h
 | r :: t,h=>by
  rw [zu] at h
  cases e:zu t p with
  | some w' =>
   rw [e] at h
   have:w'=w:=by simpa using h
   subst this
   exact List.mem_cons_of_mem _ (Je e)
  | none =>
   rw [e] at h
   by_cases c:r.1=p
   ·rw [if_pos c] at h
    have:r.2=w:=by simpa using h
    rw [← c,← this];exact List.mem_cons_self
   ·rw [if_neg c] at h;cases h
theorem doF {P:Str→Option Value} (T:Txt K P t):DoF K t:=⟨T.cl_Doing,T.na_Doing_slots,T.na_Doing_worths,T.na_Doing_sayings⟩
theorem DoAt.same {H0 H H':Hp} {x dx sl wo sa:Addr} {s:Sta} (D:DoAt t H0 H x dx sl wo sa s) (k:Same H H'):DoAt t H0 H' x dx sl wo sa s :=
 ⟨D.sm.trans k,D.f1,D.f2,D.f3,k _ _ D.ix,k _ _ D.hs,k _ _ D.hw,k _ _ D.ha⟩
theorem DoAt.putS {H0 H:Hp} {x dx sl wo sa:Addr} {s:Sta} (D:DoAt t H0 H x dx sl wo sa s) (kvs:List (Key × V)):DoAt t H0 (upd H sl (.dK kvs)) x dx sl wo sa { s with sl:=kvs } :=
 ⟨yj D.sm D.f1,D.f1,D.f2,D.f3,by rw [zk (yq D.ix D.hs (fun z=>nomatch z))];exact D.ix,zd,by rw [zk (yq D.hw D.hs (fun z=>nomatch z))];exact D.hw,by rw [zk (yq D.ha D.hs (fun z=>nomatch z))];exact D.ha⟩
theorem DoAt.putW {H0 H:Hp} {x dx sl wo sa:Addr} {s:Sta} (D:DoAt t H0 H x dx sl wo sa s) (rows:List Row):DoAt t H0 (upd H wo (.dT (dOf rows))) x dx sl wo sa { s with wo:=rows } :=
 ⟨yj D.sm D.f2,D.f1,D.f2,D.f3,by rw [zk (yq D.ix D.hw (fun z=>nomatch z))];exact D.ix,by rw [zk (yq D.hs D.hw (fun z=>nomatch z))];exact D.hs,zd,by rw [zk (yq D.ha D.hw (fun z=>nomatch z))];exact D.ha⟩
theorem DoAt.putA {H0 H:Hp} {x dx sl wo sa:Addr} {s:Sta} (D:DoAt t H0 H x dx sl wo sa s) (is:List Int):DoAt t H0 (upd H sa (.lst (is.map V.int))) x dx sl wo sa { s with sa:=is } :=
 ⟨yj D.sm D.f3,D.f1,D.f2,D.f3,by rw [zk (yq D.ix D.ha (fun z=>nomatch z))];exact D.ix,by rw [zk (yq D.hs D.ha (fun z=>nomatch z))];exact D.hs,by rw [zk (yq D.hw D.ha (fun z=>nomatch z))];exact D.hw,zd⟩
theorem Xg {x a:Addr} {tab:List Row} {H0:Hp} {dx:Addr} (F:DoF K t) (h1:Same H0 H) (h2:H0 x=none) (h3:H x=some (.ins t.c_Doing dx [])) (h4:LsAt H0 a tab) (h5:tab.length≤500)
  (q:∀ H' sl wo sa,DoAt t H0 H' x dx sl wo sa ⟨[],tab,[]⟩→Q .non H') :
  jB K t { nx:=fun _ H'=>Q .non H',rt:=Q } (L2.start ["self","table"] [.ref x,.ref a]) H:=by
 simp only [jB,qJ,ji,zZ,L2.start,zn,zc,yM,zb,zj,tCB,YG,List.map,List.replicate,List.length,List.append,jqa,jqb,jqc,jqd,jqe,jqf,jqg,jqh,jqi,jqj,jqk,jql,jqm,jqn,and_true,true_and,and_assoc,jqo,jqp,jqq,jqr,jqs,jqt,if_true,ite_true,jqu,ite_false,if_false]
 intro sl hsl
 obtain ⟨xs,hx,rx⟩:=h4
 have nsl:x≠sl:=zJ h3 hsl
 have fsl:H0 sl=none:=yf h1 hsl
 refine ⟨_,_,_,(by rw [zk nsl];exact h3),F.cl,F.n1,by decide,?_⟩
 have S2:Same H0 (upd (upd H sl (.dK [])) x (.ins t.c_Doing dx (zZ "slots" (.ref sl) []))):=yj (yj h1 fsl) h2
 have x2:upd (upd H sl (.dK [])) x (.ins t.c_Doing dx (zZ "slots" (.ref sl) [])) x=some (.ins t.c_Doing dx (zZ "slots" (.ref sl) [])):=zd
 have l2:upd (upd H sl (.dK [])) x (.ins t.c_Doing dx (zZ "slots" (.ref sl) [])) sl=some (.dK []):=by rw [zk (Ne.symm nsl),zd]
 generalize upd (upd H sl (.dK [])) x (.ins t.c_Doing dx (zZ "slots" (.ref sl) []))=H2 at *
 refine ⟨xs,S2 _ _ hx,tab,jS S2 rx,by lia,fun wo hwo=>?_⟩
 have nwo:x≠wo:=zJ x2 hwo
 have fwo:H0 wo=none:=yf S2 hwo
 refine ⟨_,_,_,(by rw [zk nwo];exact x2),F.cl,F.n2,(by simp [zZ]),Nat.zero_le _,?_⟩
 have S3:Same H0 (upd (upd H2 wo (.dT (dOf tab))) x (.ins t.c_Doing dx (zZ "worths" (.ref wo) (zZ "slots" (.ref sl) [])))):=yj (yj S2 fwo) h2
 have x3:upd (upd H2 wo (.dT (dOf tab))) x (.ins t.c_Doing dx (zZ "worths" (.ref wo) (zZ "slots" (.ref sl) []))) x=some (.ins t.c_Doing dx (zZ "worths" (.ref wo) (zZ "slots" (.ref sl) []))):=zd
 have l3:upd (upd H2 wo (.dT (dOf tab))) x (.ins t.c_Doing dx (zZ "worths" (.ref wo) (zZ "slots" (.ref sl) []))) sl=some (.dK []):=by rw [zk (Ne.symm nsl),zk (zJ l2 hwo)];exact l2
 have w3:upd (upd H2 wo (.dT (dOf tab))) x (.ins t.c_Doing dx (zZ "worths" (.ref wo) (zZ "slots" (.ref sl) []))) wo=some (.dT (dOf tab)):=by rw [zk (Ne.symm nwo),zd]
 generalize upd (upd H2 wo (.dT (dOf tab))) x (.ins t.c_Doing dx (zZ "worths" (.ref wo) (zZ "slots" (.ref sl) [])))=H3 at *
 intro sa hsa
 have nsa:x≠sa:=zJ x3 hsa
 refine ⟨_,_,_,(by rw [zk nsa];exact x3),F.cl,F.n3,(by simp [zZ];split <;> simp),q _ sl wo sa ⟨yj (yj S3 (yf S3 hsa)) h2,fsl,fwo,yf S3 hsa,zd,?_,?_,?_⟩⟩
 ·rw [zk (Ne.symm nsl),zk (zJ l3 hsa)];exact l3
 ·rw [zk (Ne.symm nwo),zk (zJ w3 hsa)];exact w3
 ·rw [zk (Ne.symm nsa),zd];rfl
theorem Ze {x tm:Addr} {e:List V} {H0:Hp} {dx sl wo sa:Addr} {s:Sta} {E:XK} (F:DoF K t) (D:DoAt t H0 H x dx sl wo sa s) (h2:yL s.sl) (h3:H tm=some (.tup e)) (h4:TermOk e)
  (q:∀ H',Same H H'→fin t (rk s.sl e) Q E H'):wq K t E { nx:=fun _ H'=>Q .non H',rt:=Q } (L2.start ["self","term"] [.ref x,.ref tm]) H:=by
 simp only [wq,w4,yb,L2.start,zt,zc,zb,zj,zo,List.map,List.replicate,List.length,List.append,jqa,jqb,jqc,jqd,jqe,jqf,jqg,jqh,jqi,jqj,jqk,jql,jqm,jqn,and_true,true_and,and_assoc,jqo,jqp,jqq,jqr,jqs,jqt,if_true,ite_true,jqu,ite_false,if_false]
 exact ⟨_,_,_,D.ix,F.cl,F.n1,_,rfl,s.sl,_,rfl,e,h3,D.hs,_,h4.good s.sl,h4.2.1,h4.2.2,h2,q⟩
theorem Xh {x:Addr} {v:V} {r:Rw} {m:Nat} {H0:Hp} {dx sl wo sa:Addr} {s:Sta} {E:XK} (F:DoF K t) (D:DoAt t H0 H x dx sl wo sa s) (h1:RwAt yO H0 v r) (h2:vb r) (h3:xQ r) (h4:StOk m s) (h5:m≤900)
  (q1:∀ H' s',goR r s=.go s'→DoAt t H0 H' x dx sl wo sa s'→Q .non H') (q2:∀ H' e,goR r s=.er e→Same H0 H'→Y8 t e E H') :
  xr K t E { nx:=fun _ H'=>Q .non H',rt:=Q } (L2.start ["self","row","place"] [.ref x,v]) H:=by
 cases r with
 | take sh e sl' =>
  unfold RwAt at h1
  unfold xQ at h3
  obtain ⟨r,te,rfl,_,_,e2,e3⟩:=h1
  have e2:=D.sm _ _ e2
  have e3:=D.sm _ _ e3
  simp only [xr,yg,z8,yb,zT,L2.start,z8,zI,yn,zv,zn,zH,zl,yd,tOp,zc,tC,z0,zb,zj,zF,zp,tBM,tyV,zv,rEq,yA,List.map,List.replicate,List.length,List.append,jqa,jqb,jqc,jqd,jqe,jqf,jqg,jqh,jqi,jqj,jqk,jql,jqm,jqn,and_true,true_and,and_assoc,jqo,jqp,jqq,jqr,jqs,jqt,if_true,ite_true,jqu,ite_false,if_false]
  refine ⟨_,SqT.of e2,_,rfl,rfl,?_⟩
  rw [if_pos rfl]
  simp only [kF,zG,yg,z8,yb,zT,L2.start,z8,zI,yn,zv,zn,zH,zl,yd,tOp,zc,tC,z0,zb,zj,zF,zp,tBM,tyV,zv,rEq,yA,List.map,List.replicate,List.length,List.append,jqa,jqb,jqc,jqd,jqe,jqf,jqg,jqh,jqi,jqj,jqk,jql,jqm,jqn,and_true,true_and,and_assoc,jqo,jqp,jqq,jqr,jqs,jqt,if_true,ite_true,jqu,ite_false,if_false]
  refine ⟨_,_,_,D.ix,F.cl,F.n2,_,rfl,_,rfl,.inr ⟨_,.inl D.hw⟩,_,SqT.of e2,_,rfl,?_⟩
  refine ⟨_,_,D.ix,rfl,_,SqT.of e2,_,rfl,_,rfl,e,H0,dx,sl,wo,sa,s,D,h4.so,e3,h3,fun H1 s1=>?_⟩
  cases hk:rk s.sl e with
  | error er=>exact fin_err.mpr (q2 H1 er (by unfold goR;rw [hk]) (D.sm.trans s1))
  | ok n =>
   refine fin_ok.mpr ⟨by decide,fun p hp=>?_⟩
   have s2:=isV (o:=HO.tup [V.str sh,V.int n]) p hp
   have D2:=D.same (s1.trans s2)
   refine ⟨(zu s.wo (sh,n)).map V.int,.inr ⟨dOf s.wo,zP (sh,n),p,.inl D2.hw,rfl,zd,(xS _ _).symm⟩,?_⟩
   have hv:(Option.map V.int (zu s.wo (sh,n))).getD (V.int 0)=V.int ((zu s.wo (sh,n)).getD 0):=by cases zu s.wo (sh,n) <;> rfl
   rw [hv]
   have l1:=h4.l1
   exact ⟨_,_,_,D2.ix,F.cl,F.n1,_,rfl,_,SqT.of ((s1.trans s2) _ _ e2),_,rfl,_,rfl,_,DPut.k (k:=.inr sl') D2.hs (Nat.lt_of_le_of_lt (by lia:_≤900) (by decide)),q1 _ _ (by unfold goR;rw [hk]) (D2.putS _)⟩
 | give sh e f =>
  unfold RwAt at h1
  unfold xQ at h3
  obtain ⟨r,te,tf,rfl,_,_,_,e2,e3,e4⟩:=h1
  have e2:=D.sm _ _ e2
  have e3:=D.sm _ _ e3
  have e4:=D.sm _ _ e4
  simp only [xr,yg,z8,yb,zT,L2.start,z8,zI,yn,zv,zn,zH,zl,yd,tOp,zc,tC,z0,zb,zj,zF,zp,tBM,tyV,zv,rEq,yA,List.map,List.replicate,List.length,List.append,jqa,jqb,jqc,jqd,jqe,jqf,jqg,jqh,jqi,jqj,jqk,jql,jqm,jqn,and_true,true_and,and_assoc,jqo,jqp,jqq,jqr,jqs,jqt,if_true,ite_true,jqu,ite_false,if_false]
  refine ⟨_,SqT.of e2,_,rfl,rfl,?_⟩
  rw [if_neg (by decide)]
  refine ⟨_,SqT.of e2,_,rfl,rfl,?_⟩
  rw [if_pos rfl]
  simp only [kE,zG,yg,z8,yb,zT,L2.start,z8,zI,yn,zv,zn,zH,zl,yd,tOp,zc,tC,z0,zb,zj,zF,zp,tBM,tyV,zv,rEq,yA,List.map,List.replicate,List.length,List.append,jqa,jqb,jqc,jqd,jqe,jqf,jqg,jqh,jqi,jqj,jqk,jql,jqm,jqn,and_true,true_and,and_assoc,jqo,jqp,jqq,jqr,jqs,jqt,if_true,ite_true,jqu,ite_false,if_false]
  refine ⟨_,SqT.of e2,_,rfl,_,_,D.ix,rfl,_,SqT.of e2,_,rfl,_,rfl,e,H0,dx,sl,wo,sa,s,D,h4.so,e3,h3.1,fun H1 s1=>?_⟩
  cases hk:rk s.sl e with
  | error er=>exact fin_err.mpr (q2 H1 er (by unfold goR;rw [hk]) (D.sm.trans s1))
  | ok n =>
   refine fin_ok.mpr ⟨by decide,fun p hp=>?_⟩
   have s2:=isV (o:=HO.tup [V.str sh,V.int n]) p hp
   have D2:=D.same (s1.trans s2)
   have S2:=s1.trans s2
   simp only [kD,zG,yg,z8,yb,zT,L2.start,z8,zI,yn,zv,zn,zH,zl,yd,tOp,zc,tC,z0,zb,zj,zF,zp,tBM,tyV,zv,rEq,yA,List.map,List.replicate,List.length,List.append,jqa,jqb,jqc,jqd,jqe,jqf,jqg,jqh,jqi,jqj,jqk,jql,jqm,jqn,and_true,true_and,and_assoc,jqo,jqp,jqq,jqr,jqs,jqt,if_true,ite_true,jqu,ite_false,if_false]
   refine ⟨_,_,D2.ix,rfl,_,SqT.of (S2 _ _ e2),_,rfl,_,rfl,f,H0,dx,sl,wo,sa,s,D2,h4.so,S2 _ _ e4,h3.2,fun H3 s3=>?_⟩
   cases hk2:rk s.sl f with
   | error er=>exact fin_err.mpr (q2 H3 er (by unfold goR;rw [hk];simp only [hk2]) (D2.sm.trans s3))
   | ok w =>
    have D3:=D2.same s3
    have l2:=h4.l2
    have ld:=xb s.wo
    refine fin_ok.mpr ⟨_,_,_,D3.ix,F.cl,F.n2,_,rfl,_,rfl,_,DPut.t (k:=zP (sh,n)) D3.hw (s3 _ _ zd) (Nat.lt_of_le_of_lt (by lia:_≤900) (by decide)),?_⟩
    rw [show yD (dOf s.wo) (zP (sh,n)) (V.int w)=dOf (s.wo ++ [((sh,n),w)]) from (jP s.wo ((sh,n),w)).symm]
    exact q1 _ _ (by unfold goR;rw [hk];simp only [hk2]) (D3.putW _)
 | lt sl' e =>
  unfold RwAt at h1
  unfold xQ at h3
  obtain ⟨r,te,rfl,_,_,e2,e3⟩:=h1
  have e2:=D.sm _ _ e2
  have e3:=D.sm _ _ e3
  simp only [xr,yg,z8,yb,zT,L2.start,z8,zI,yn,zv,zn,zH,zl,yd,tOp,zc,tC,z0,zb,zj,zF,zp,tBM,tyV,zv,rEq,yA,List.map,List.replicate,List.length,List.append,jqa,jqb,jqc,jqd,jqe,jqf,jqg,jqh,jqi,jqj,jqk,jql,jqm,jqn,and_true,true_and,and_assoc,jqo,jqp,jqq,jqr,jqs,jqt,if_true,ite_true,jqu,ite_false,if_false]
  refine ⟨_,SqT.of e2,_,rfl,rfl,?_⟩
  rw [if_neg (by decide)]
  refine ⟨_,SqT.of e2,_,rfl,rfl,?_⟩
  rw [if_neg (by decide)]
  refine ⟨_,SqT.of e2,_,rfl,rfl,?_⟩
  rw [if_pos rfl]
  simp only [kB,zG,yg,z8,yb,zT,L2.start,z8,zI,yn,zv,zn,zH,zl,yd,tOp,zc,tC,z0,zb,zj,zF,zp,tBM,tyV,zv,rEq,yA,List.map,List.replicate,List.length,List.append,jqa,jqb,jqc,jqd,jqe,jqf,jqg,jqh,jqi,jqj,jqk,jql,jqm,jqn,and_true,true_and,and_assoc,jqo,jqp,jqq,jqr,jqs,jqt,if_true,ite_true,jqu,ite_false,if_false]
  refine ⟨_,_,D.ix,rfl,_,SqT.of e2,_,rfl,_,rfl,e,H0,dx,sl,wo,sa,s,D,h4.so,e3,h3,fun H1 s1=>?_⟩
  cases hk:rk s.sl e with
  | error er=>exact fin_err.mpr (q2 H1 er (by unfold goR;rw [hk]) (D.sm.trans s1))
  | ok n =>
   have D2:=D.same s1
   have l1:=h4.l1
   exact fin_ok.mpr ⟨_,_,_,D2.ix,F.cl,F.n1,_,rfl,_,SqT.of (s1 _ _ e2),_,rfl,_,rfl,_,DPut.k (k:=.inr sl') D2.hs (Nat.lt_of_le_of_lt (by lia:_≤900) (by decide)),q1 _ _ (by unfold goR;rw [hk]) (D2.putS _)⟩
 | say e =>
  unfold RwAt at h1
  unfold xQ at h3
  obtain ⟨r,te,rfl,_,_,e2,e3⟩:=h1
  have e2:=D.sm _ _ e2
  have e3:=D.sm _ _ e3
  simp only [xr,yg,z8,yb,zT,L2.start,z8,zI,yn,zv,zn,zH,zl,yd,tOp,zc,tC,z0,zb,zj,zF,zp,tBM,tyV,zv,rEq,yA,List.map,List.replicate,List.length,List.append,jqa,jqb,jqc,jqd,jqe,jqf,jqg,jqh,jqi,jqj,jqk,jql,jqm,jqn,and_true,true_and,and_assoc,jqo,jqp,jqq,jqr,jqs,jqt,if_true,ite_true,jqu,ite_false,if_false]
  refine ⟨_,SqT.of e2,_,rfl,rfl,?_⟩
  rw [if_neg (by decide)]
  refine ⟨_,SqT.of e2,_,rfl,rfl,?_⟩
  rw [if_neg (by decide)]
  refine ⟨_,SqT.of e2,_,rfl,rfl,?_⟩
  rw [if_neg (by decide)]
  simp only [kC,zG,yg,z8,yb,zT,L2.start,z8,zI,yn,zv,zn,zH,zl,yd,tOp,zc,tC,z0,zb,zj,zF,zp,tBM,tyV,zv,rEq,yA,List.map,List.replicate,List.length,List.append,jqa,jqb,jqc,jqd,jqe,jqf,jqg,jqh,jqi,jqj,jqk,jql,jqm,jqn,and_true,true_and,and_assoc,jqo,jqp,jqq,jqr,jqs,jqt,if_true,ite_true,jqu,ite_false,if_false]
  refine ⟨_,_,_,D.ix,F.cl,F.n3,_,rfl,.inl ⟨_,SqL.of D.ha⟩,_,_,D.ix,rfl,_,SqT.of e2,_,rfl,_,rfl,e,H0,dx,sl,wo,sa,s,D,h4.so,e3,h3,fun H1 s1=>?_⟩
  cases hk:rk s.sl e with
  | error er=>exact fin_err.mpr (q2 H1 er (by unfold goR;rw [hk]) (D.sm.trans s1))
  | ok n =>
   have D2:=D.same s1
   have l3:=h4.l3
   have e:s.sa.map V.int ++ [V.int n]=(s.sa ++ [n]).map V.int:=by simp
   refine fin_ok.mpr ⟨_,rfl,_,D2.ha,Nat.lt_of_le_of_lt (by rw [List.length_map];lia:_≤900) (by decide),?_⟩
   rw [e]
   exact q1 _ _ (by unfold goR;rw [hk]) (D2.putA _)
 | off e=>exact h2.elim
 | iff e a b=>exact h2.elim
theorem wt {vs:List V} {H:Hp} {Q:VK} {E:XK} (h:yc t 0 vs H Q E):False:=by
 obtain ⟨_,_,_,_,_,_,_,_,_,_,_,_,_,_,_,_,h,_⟩:=h
 exact Nat.not_lt_zero _ h
def goI (t:Adr) (x l dx sl wo sa:Addr) (xs:List V) (rws:Rws) (s:Sta) (n:Nat) (H0:Hp) (i:Nat) (σ:St) (H':Hp):Prop:=∃ (s':Sta) (rest:Rws) (m:Nat),(∃ o,σ=[some (.ref x),some (.ref l),o])∧DoAt t H0 H' x dx sl wo sa s'∧RwsAt yO H0 (xs.drop i) rest∧yX rest∧rest.deep < n + 1∧StOk m s'∧m + rest.cnt≤900∧yE rws s=yE rest s'
theorem zck {a b c n:Nat} (h:max (max a b + 1) c < n + 1):a < n∧b < n:=by lia
theorem zdF {m a b c:Nat} (h:m + (max a b + 1 + c)≤900):m + a≤900∧m + b≤900:=by lia
theorem ku {x l:Addr} {xs:List V} {rws:Rws} {m n:Nat} {H0:Hp} {dx sl wo sa:Addr} {s:Sta} {E:XK} (F:DoF K t) (D:DoAt t H0 H x dx sl wo sa s) (h1:H0 l=some (.lst xs)) (h2:RwsAt yO H0 xs rws) (h3:yX rws) (h4:rws.deep < n + 1) (h5:StOk m s) (h6:m + rws.cnt≤900)
  (q1:∀ H' s',yE rws s=.go s'→DoAt t H0 H' x dx sl wo sa s'→Q (.bl true) H') (q2:∀ H',yE rws s=.off→Same H0 H'→Q (.bl false) H') (q3:∀ H' e,yE rws s=.er e→Same H0 H'→Y8 t e E H') :
  xt K t n E { nx:=fun _ H'=>Q .non H',rt:=Q } (L2.start ["self","rows","row"] [.ref x,.ref l]) H:=by
 simp only [xt,zT,L2.start,zv,zn,zl,zt,yd,zD,tOp,zc,tC,zb,zj,yH,zF,xx,zp,tB,tIf,yG,zv,rEq,rNe,yA,List.map,List.replicate,List.length,List.append,jqa,jqb,jqc,jqd,jqe,jqf,jqg,jqh,jqi,jqj,jqk,jql,jqm,jqn,and_true,true_and,and_assoc,jqo,jqp,jqq,jqr,jqs,jqt,if_true,ite_true,jqu,ite_false,if_false]
 refine ⟨⟨_,SqL.of (D.sm _ _ h1)⟩,vL xs (goI t x l dx sl wo sa xs rws s n H0) ⟨s,rws,m,⟨_,rfl⟩,D,by rw [List.drop_zero];exact h2,h3,h4,h5,h6,rfl⟩ (fun i σ H' ⟨s',rest,m,_,D',_⟩=>SqL.of (D'.sm _ _ h1)) ?_ ?_⟩
 ·rintro i v σ H' hv ⟨s',rest,m,⟨o,rfl⟩,D',hr,ok,dp,st,ct,ge⟩
  obtain ⟨r,rs,rfl,rx,rr⟩:=hr.get hv
  unfold yX at ok
  have c1:(Rws.cons r rs).deep=max r.deep rs.deep:=by rw [Rws.deep]
  have c2:(Rws.cons r rs).cnt=r.cnt + rs.cnt:=by rw [Rws.cnt]
  rw [c1] at dp
  rw [c2] at ct
  have go:∀ s'',goR r s'=.go s''→yE rws s=yE rs s'':=fun s'' z=>by rw [ge,yE,z]
  have nx:∀ (s'':Sta) (H'':Hp) (o':Option V),goR r s'=.go s''→DoAt t H0 H'' x dx sl wo sa s''→goI t x l dx sl wo sa xs rws s n H0 (i + 1) [some (.ref x),some (.ref l),o'] H'':=fun s'' H'' o' z D''=>⟨s'',rs,m + r.cnt,⟨_,rfl⟩,D'',rr,ok.2,by lia,zaq r st ok.1 z,by lia,go s'' z⟩
  have er:∀ e,goR r s'=.er e→yE rws s=.er e:=fun e z=>by rw [ge,yE,z]
  have of:goR r s'=.off→yE rws s=.off:=fun z=>by rw [ge,yE,z]
  rcases Classical.em (vb r) with hD | hD
  ·obtain ⟨p,ws,hd,rfl,e2,e3,n1,n2⟩:=zaE rx hD
   have e2:=D'.sm _ _ e2
   simp only [yx,zT,L2.start,zv,zn,zl,zt,yd,zD,tOp,zc,tC,zb,zj,yH,zF,xx,zp,tB,tIf,yG,zv,rEq,rNe,yA,List.map,List.replicate,List.length,List.append,jqa,jqb,jqc,jqd,jqe,jqf,jqg,jqh,jqi,jqj,jqk,jql,jqm,jqn,and_true,true_and,and_assoc,jqo,jqp,jqq,jqr,jqs,jqt,if_true,ite_true,jqu,ite_false,if_false]
   refine ⟨_,SqT.of e2,_,e3,rfl,?_⟩
   rw [if_neg (fun z=>n1 (V.str.inj z))]
   refine ⟨_,SqT.of e2,_,e3,rfl,?_⟩
   rw [if_neg (fun z=>n2 (V.str.inj z))]
   simp only [we,js,zT,L2.start,zv,zn,zl,zt,yd,zD,tOp,zc,tC,zb,zj,yH,zF,xx,zp,tB,tIf,yG,zv,rEq,rNe,yA,List.map,List.replicate,List.length,List.append,jqa,jqb,jqc,jqd,jqe,jqf,jqg,jqh,jqi,jqj,jqk,jql,jqm,jqn,and_true,true_and,and_assoc,jqo,jqp,jqq,jqr,jqs,jqt,if_true,ite_true,jqu,ite_false,if_false]
   exact ⟨_,_,D'.ix,rfl,r,m,H0,dx,sl,wo,sa,s',D',rx,hD,ok.1,st,by lia,fun H1 s1 z D1=>nx s1 H1 _ z D1,fun H1 e z sm=>q3 H1 e (er e z) sm⟩
  cases r with
  | take sh e sl'=>exact (hD trivial).elim
  | give sh e f=>exact (hD trivial).elim
  | lt sl' e=>exact (hD trivial).elim
  | say e=>exact (hD trivial).elim
  | off e =>
   unfold RwAt at rx
   have ok1:=ok.1
   unfold xQ at ok1
   obtain ⟨r,te,rfl,_,_,e2,e3⟩:=rx
   have e2:=D'.sm _ _ e2
   have e3:=D'.sm _ _ e3
   simp only [yx,zT,L2.start,zv,zn,zl,zt,yd,zD,tOp,zc,tC,zb,zj,yH,zF,xx,zp,tB,tIf,yG,zv,rEq,rNe,yA,List.map,List.replicate,List.length,List.append,jqa,jqb,jqc,jqd,jqe,jqf,jqg,jqh,jqi,jqj,jqk,jql,jqm,jqn,and_true,true_and,and_assoc,jqo,jqp,jqq,jqr,jqs,jqt,if_true,ite_true,jqu,ite_false,if_false]
   refine ⟨_,SqT.of e2,_,rfl,rfl,?_⟩
   rw [if_pos rfl]
   simp only [wf,zG,zT,L2.start,zv,zn,zl,zt,yd,zD,tOp,zc,tC,zb,zj,yH,zF,xx,zp,tB,tIf,yG,zv,rEq,rNe,yA,List.map,List.replicate,List.length,List.append,jqa,jqb,jqc,jqd,jqe,jqf,jqg,jqh,jqi,jqj,jqk,jql,jqm,jqn,and_true,true_and,and_assoc,jqo,jqp,jqq,jqr,jqs,jqt,if_true,ite_true,jqu,ite_false,if_false]
   refine ⟨_,_,D'.ix,rfl,_,SqT.of e2,_,rfl,_,rfl,e,H0,dx,sl,wo,sa,s',D',st.so,e3,ok1,fun H1 s1=>?_⟩
   cases hk:rk s'.sl e with
   | error x=>exact fin_err.mpr (q3 H1 x (er x (by unfold goR;rw [hk])) (D'.sm.trans s1))
   | ok k =>
    refine fin_ok.mpr ⟨rfl,?_⟩
    by_cases h0:k=0
    ·rw [if_neg (by rw [h0];simp)]
     exact nx s' H1 _ (by unfold goR;rw [hk];simp only [if_pos h0]) (D'.same s1)
    ·rw [if_pos (by simpa using h0)]
     exact q2 H1 (of (by unfold goR;rw [hk];simp only [if_neg h0])) (D'.sm.trans s1)
  | iff e a b =>
   unfold RwAt at rx
   have ok1:=ok.1
   unfold xQ at ok1
   obtain ⟨r,te,la,lb,as,bs,rfl,_,_,_,_,e2,e3,e4,e5,e6,e7⟩:=rx
   have e2:=D'.sm _ _ e2
   have e3:=D'.sm _ _ e3
   have c3:(Rw.iff e a b).deep=max a.deep b.deep + 1:=by rw [Rw.deep]
   have c4:(Rw.iff e a b).cnt=max a.cnt b.cnt + 1:=by rw [Rw.cnt]
   rw [c3] at dp
   rw [c4] at ct
   simp only [yx,zT,L2.start,zv,zn,zl,zt,yd,zD,tOp,zc,tC,zb,zj,yH,zF,xx,zp,tB,tIf,yG,zv,rEq,rNe,yA,List.map,List.replicate,List.length,List.append,jqa,jqb,jqc,jqd,jqe,jqf,jqg,jqh,jqi,jqj,jqk,jql,jqm,jqn,and_true,true_and,and_assoc,jqo,jqp,jqq,jqr,jqs,jqt,if_true,ite_true,jqu,ite_false,if_false]
   refine ⟨_,SqT.of e2,_,rfl,rfl,?_⟩
   rw [if_neg (by decide)]
   refine ⟨_,SqT.of e2,_,rfl,rfl,?_⟩
   rw [if_pos rfl]
   simp only [wd,zG,yc,zT,L2.start,zv,zn,zl,zt,yd,zD,tOp,zc,tC,zb,zj,yH,zF,xx,zp,tB,tIf,yG,zv,rEq,rNe,yA,List.map,List.replicate,List.length,List.append,jqa,jqb,jqc,jqd,jqe,jqf,jqg,jqh,jqi,jqj,jqk,jql,jqm,jqn,and_true,true_and,and_assoc,jqo,jqp,jqq,jqr,jqs,jqt,if_true,ite_true,jqu,ite_false,if_false]
   refine ⟨_,_,D'.ix,rfl,_,_,D'.ix,rfl,_,SqT.of e2,_,rfl,_,rfl,e,H0,dx,sl,wo,sa,s',D',st.so,e3,ok1.1,fun H1 s1=>?_⟩
   cases hk:rk s'.sl e with
   | error x=>exact fin_err.mpr (q3 H1 x (er x (by unfold goR;rw [hk])) (D'.sm.trans s1))
   | ok k =>
    refine fin_ok.mpr ⟨rfl,?_⟩
    by_cases h0:k=0
    ·have gb:goR (.iff e a b) s'=yE b s':=by rw [goR,hk];simp only [if_pos h0]
     rw [if_neg (by rw [h0];simp)]
     refine ⟨_,SqT.of (s1 _ _ e2),_,rfl,_,rfl,bs,b,m,H0,dx,sl,wo,sa,s',D'.same s1,e6,e7,ok1.2.2,(zck dp).2,st,(zdF ct).2,fun H2 s2 g D2=>?_,fun H2 g sm=>?_,fun H2 x g sm=>q3 H2 x (er x (gb.trans g)) sm⟩
     ·rw [if_neg (by decide)]
      exact nx s2 H2 _ (gb.trans g) D2
     ·exact q2 H2 (of (gb.trans g)) sm
    ·have gb:goR (.iff e a b) s'=yE a s':=by rw [goR,hk];simp only [if_neg h0]
     rw [if_pos (by simpa using h0)]
     refine ⟨_,SqT.of (s1 _ _ e2),_,rfl,_,rfl,as,a,m,H0,dx,sl,wo,sa,s',D'.same s1,e4,e5,ok1.2.1,(zck dp).1,st,(zdF ct).1,fun H2 s2 g D2=>?_,fun H2 g sm=>?_,fun H2 x g sm=>q3 H2 x (er x (gb.trans g)) sm⟩
     ·rw [if_neg (by decide)]
      exact nx s2 H2 _ (gb.trans g) D2
     ·exact q2 H2 (of (gb.trans g)) sm
 ·rintro σ H' ⟨s',rest,m,⟨o,rfl⟩,D',hr,ok,dp,st,ct,ge⟩
  have e:=hr.none
  subst e
  exact q1 H' s' (by rw [ge];unfold yE;rfl) D'
theorem LsAt.same {H H':Hp} {a:Addr} {rows:List Row} (h:LsAt H a rows) (s:Same H H'):LsAt H' a rows:=by
 obtain ⟨xs,h1,h2⟩:=h
 exact ⟨xs,s _ _ h1,jS s h2⟩
theorem Xi {w:Str} {a:Addr} {tab:List Row} (h1:LsAt H a tab) (q:∀ r o l H',Same H H'→H l=none→H' r=some (.tup [o,.ref l])→ZN H' o (.off w)→LsAt H' l tab→Q (.ref r) H') :
  jC K t { nx:=fun _ H'=>Q .non H',rt:=Q } (L2.start ["why","table"] [.str w,.ref a]) H:=by
 simp only [jC,L2.start,Xt,zt,zc,tC,z0,zb,zj,tCB,List.map,List.replicate,List.length,List.append,jqa,jqb,jqc,jqd,jqe,jqf,jqg,jqh,jqi,jqj,jqk,jql,jqm,jqn,and_true,true_and,and_assoc,jqo,jqp,jqq,jqr,jqs,jqt,if_true,ite_true,jqu,ite_false,if_false]
 obtain ⟨xs,hx,rx⟩:=h1
 refine ⟨by decide,fun o ho=>?_⟩
 have s1:=isV (o:=HO.tup [V.str (Str.ofString "off"),V.str w]) o ho
 refine ⟨xs,.inl (SqL.of (s1 _ _ hx)),fun l hl=>⟨by decide,fun r hr=>?_⟩⟩
 have s2:=isV (o:=HO.lst xs) l hl
 have s3:=isV (o:=HO.tup [V.ref o,V.ref l]) r hr
 have S:=s1.trans (s2.trans s3)
 exact q r (.ref o) l _ S (yf s1 hl) zd ⟨o,rfl,s3 _ _ (s2 _ _ zd)⟩ ⟨xs,s3 _ _ zd,jS S rx⟩
theorem W1 {a:Addr} {rows:List Row} (h1:LsAt H a rows) (h2:(dOf rows).length≤63) (h3:rows.length≤1000) (q:∀ l out H',Same H H'→H l=none→LsAt H' l out→vC rows out→Q (.ref l) H') :
  jm K t { nx:=fun _ H'=>Q .non H',rt:=Q } (L2.start ["rows","worths"] [.ref a]) H:=by
 obtain ⟨xs,hx,rx⟩:=h1
 exact XC hx rx h2 h3 fun l ys out H' s fr hy ry ti=>q l out H' s fr ⟨ys,hy,ry⟩ ti
theorem Xj {v:V} {a x dx sl wo sa:Addr} {rws:Rws} {tab:List Row} {H0:Hp} {s:Sta} {b:Bool} (F:DoF K t) (h2:LsAt H0 a tab) (h3:KL rws tab) (sm:Same H0 H)
  (hb:(b=true∧yE rws ⟨[],tab,[]⟩=.go s∧DoAt t H0 H x dx sl wo sa s)∨(b=false∧yE rws ⟨[],tab,[]⟩=.off))
  (q:∀ r o l oc out H',Same H0 H'→H0 l=none→H' r=some (.tup [o,.ref l])→ZN H' o oc→LsAt H' l out→vY rws tab oc out→Q (.ref r) H') :
  Zc K t { nx:=fun _ H'=>Q .non H',rt:=Q } [some v,some (.ref a),some (.ref x),some (.bl b)] H:=by
 simp only [Zc,yV,kY,JL,yb,ka,Z2,L2.start,zn,zt,zD,zc,tC,z0,zb,zj,zF,xx,tB,tCB,zo,List.map,List.replicate,List.length,List.append,jqa,jqb,jqc,jqd,jqe,jqf,jqg,jqh,jqi,jqj,jqk,jql,jqm,jqn,and_true,true_and,and_assoc,jqo,jqp,jqq,jqr,jqs,jqt,if_true,ite_true,jqu,ite_false,if_false]
 rcases hb with ⟨rfl,hg,D⟩ | ⟨rfl,hg⟩
 ·rw [if_neg (by decide)]
  refine ⟨_,_,_,D.ix,F.cl,F.n3,_,rfl,_,rfl,_,.inl ⟨SqL.of D.ha,fun y hy=>⟨by decide,fun o ho=>?_⟩⟩⟩
  have s1:=isV (o:=HO.tup (s.sa.map V.int)) y hy
  have s2:=isV (o:=HO.tup [V.str (Str.ofString "done"),V.ref y]) o ho
  have y2:=s2 _ _ (show upd H y (HO.tup (s.sa.map V.int)) y=some (.tup (s.sa.map V.int)) from zd)
  have o2:upd (upd H y (HO.tup (s.sa.map V.int))) o (HO.tup [V.str (Str.ofString "done"),V.ref y]) o=some (.tup [V.str (Str.ofString "done"),V.ref y]):=zd
  have D2:=D.same (s1.trans s2)
  have S2:=sm.trans (s1.trans s2)
  generalize upd (upd H y (HO.tup (s.sa.map V.int))) o (HO.tup [V.str (Str.ofString "done"),V.ref y])=H2 at *
  refine ⟨_,_,_,D2.ix,F.cl,F.n2,_,rfl,_,rfl,_,D2.hw,fun r hr=>?_⟩
  have s3:=isV (o:=kT r wo) r hr
  have ok:=Yp rws (n:=tab.length) ⟨(fun k v e=>by rw [YB] at e;cases e),h3.iw,Nat.zero_le _,Nat.le_refl _,Nat.zero_le _⟩ h3.ok hg
  have few:=h3.fw s hg
  obtain ⟨its,ei,nd,mi⟩:=JR s.wo
  have li:its.length=(dOf s.wo).length:=by rw [ei,List.length_map]
  have ld:=xb its
  refine ⟨wo,zd,_,s3 _ _ D2.hw,by lia,fun l ys H4 s4 fl hl pr=>?_⟩
  rw [ei] at pr
  have S4:=S2.trans (s3.trans s4)
  refine ⟨its,⟨ys,hl,KG pr⟩,by lia,by lia,fun l2 out H5 s5 fl2 la ti=>⟨by decide,fun rr hrr=>?_⟩⟩
  have s6:=isV (o:=HO.tup [V.ref o,V.ref l2]) rr hrr
  have k6:=s3.trans (s4.trans (s5.trans s6))
  exact q rr (.ref o) l2 (.done s.sa) out _ (S4.trans (s5.trans s6)) (yf S4 fl2) zd ⟨o,y,rfl,k6 _ _ o2,k6 _ _ y2⟩ (la.same s6) (by unfold vY;rw [hg];exact ⟨rfl,zbA nd mi ti⟩)
 ·rw [if_pos rfl]
  exact ⟨tab,h2.same sm,fun r o l H' s' fl hr oa la=>q r o l (.off "told") tab H' (sm.trans s') (yf sm fl) hr oa la (by unfold vY;rw [hg];exact ⟨rfl,rfl⟩)⟩
theorem J7 {P:Str→Option Value} {v:V} {a x dx sl wo sa:Addr} {rws:Rws} {tab:List Row} {H0:Hp} (T:Txt K P t) (D:DoAt t H0 H x dx sl wo sa ⟨[],tab,[]⟩) (h1:qE yO H0 v rws) (h2:LsAt H0 a tab) (h3:KL rws tab)
  (q:∀ r o l oc out H',Same H0 H'→H0 l=none→H' r=some (.tup [o,.ref l])→ZN H' o oc→LsAt H' l out→vY rws tab oc out→Q (.ref r) H') :
  Zd K t { nx:=fun _ H'=>Q .non H',rt:=Q } [some v,some (.ref a),some (.ref x),none] H:=by
 have F:=doF T
 obtain ⟨ra,xs,rfl,_,ha,hx⟩:=h1
 simp only [Zd,yc,yV,JL,yb,j9,ZL,ka,Z2,L2.start,YO,zn,zt,zD,zc,tC,z0,zb,zj,zF,xx,tB,tCB,zo,List.map,List.replicate,List.length,List.append,jqa,jqb,jqc,jqd,jqe,jqf,jqg,jqh,jqi,jqj,jqk,jql,jqm,jqn,and_true,true_and,and_assoc,jqo,jqp,jqq,jqr,jqs,jqt,if_true,ite_true,jqu,ite_false,if_false]
 refine ⟨dx,_,D.ix,rfl,xs,rws,tab.length,H0,dx,sl,wo,sa,⟨[],tab,[]⟩,D,ha,hx,h3.ok,h3.dp,⟨(fun k v e=>by rw [YB] at e;cases e),h3.iw,Nat.zero_le _,Nat.le_refl _,Nat.zero_le _⟩,by have:=h3.ln;lia,fun H' s' g D'=>Xj F h2 h3 D'.sm (.inl ⟨rfl,g,D'⟩) q,fun H' g sm=>Xj (s:=⟨[],[],[]⟩) (dx:=dx) (sl:=sl) (wo:=wo) (sa:=sa) F h2 h3 sm (.inr ⟨rfl,g⟩) q,fun H' e g sm=>?_⟩
 cases e with
 | nought=>exact ⟨t.c_Nought,rfl,.inr ⟨T.e_Nought_Great,T.e_Nought_Nought,tab,h2.same sm,fun r o l H'' s hl hr oa la=>q r o l (.off "nought") tab H'' (sm.trans s) (yf sm hl) hr oa la (by unfold vY;rw [g];exact ⟨rfl,rfl⟩)⟩⟩
 | great=>exact ⟨t.c_Great,rfl,.inl ⟨T.e_Great_Great,tab,h2.same sm,fun r o l H'' s hl hr oa la=>q r o l (.off "great") tab H'' (sm.trans s) (yf sm hl) hr oa la (by unfold vY;rw [g];exact ⟨rfl,rfl⟩)⟩⟩
 | stuck=>trivial
theorem Qx {P:Str→Option Value} {v:V} {a:Addr} {rws:Rws} {tab:List Row} (T:Txt K P t) (h1:qE yO H v rws) (h2:LsAt H a tab) (h3:KL rws tab)
  (q:∀ r o l oc out H',Same H H'→H l=none→H' r=some (.tup [o,.ref l])→ZN H' o oc→LsAt H' l out→vY rws tab oc out→Q (.ref r) H') :
  Xb K t { nx:=fun _ H'=>Q .non H',rt:=Q } (L2.start ["rows","table","doing","came_through"] [v,.ref a]) H:=by
 simp only [Xb,jr,JL,yb,j9,XR,ZL,ka,Z2,L2.start,YO,zn,zH,zl,zt,zD,zc,tC,z0,zb,zj,zF,xx,tB,tCB,zo,List.map,List.replicate,List.length,List.append,jqa,jqb,jqc,jqd,jqe,jqf,jqg,jqh,jqi,jqj,jqk,jql,jqm,jqn,and_true,true_and,and_assoc,jqo,jqp,jqq,jqr,jqs,jqt,if_true,ite_true,jqu,ite_false,if_false]
 intro x dx hx hd n
 have s1:=isV (o:=HO.own x) dx hd
 have hx1:upd H dx (HO.own x) x=none:=by rw [zk (Ne.symm n)];exact hx
 have s2:=isV (o:=HO.ins t.c_Doing dx []) x hx1
 have ln:=h3.ln
 exact ⟨tab,H,s1.trans s2,hx,dx,zd,h2,by lia,fun H' sl wo sa D=>J7 T D h1 h2 h3 q⟩
theorem J8 {a p:Addr} {tab:List Row} {q0:Pl} (h1:LsAt H a tab) (h5:tab.length≤500) (h6:H p=some (.tup [.str q0.1,.int q0.2])) (q:∀ H',Same H H'→Q (.int ((zu tab q0).getD 0)) H') :
  ZP K t { nx:=fun _ H'=>Q .non H',rt:=Q } (L2.start ["table","place"] [.ref a,.ref p]) H:=by
 simp only [ZP,qJ,z8,L2.start,z8,zt,zc,tC,zb,zj,tCB,List.map,List.replicate,List.length,List.append,jqa,jqb,jqc,jqd,jqe,jqf,jqg,jqh,jqi,jqj,jqk,jql,jqm,jqn,and_true,true_and,and_assoc,jqo,jqp,jqq,jqr,jqs,jqt,if_true,ite_true,jqu,ite_false,if_false]
 obtain ⟨xs,h1,h2⟩:=h1
 refine ⟨xs,h1,tab,h2,by lia,fun d hd=>⟨.inr ⟨dOf tab,.inl zd⟩,?_⟩⟩
 have S:=isV (o:=HO.dT (dOf tab)) d hd
 have g:DGet (upd H d (.dT (dOf tab))) d (.ref p) ((zu tab q0).map V.int):=.inr ⟨dOf tab,zP q0,p,.inl zd,rfl,S _ _ h6,(xS tab q0).symm⟩
 refine ⟨_,g,?_⟩
 have:=q _ S
 cases e:zu tab q0 with
 | none=>rw [e] at this;exact this
 | some w=>rw [e] at this;exact this
theorem zdG {v:V} (h:lfV v):j8 v∧isJ v=false∧plV v:=by
 rcases h with ⟨i,rfl,hi⟩ | ⟨x,rfl,hx⟩
 ·exact ⟨.inl ⟨i,rfl,hi⟩,rfl,.inl ⟨i,rfl⟩⟩
 ·have:=Zn hx
  exact ⟨.inr ⟨x,rfl,by lia⟩,this.2.2.1,.inr ⟨x,rfl,kt hx⟩⟩
theorem NamesAt.same {H H':Hp} {nm:Addr} {ws:List Str} (h:NamesAt H nm ws) (s:Same H H'):NamesAt H' nm ws:=⟨s _ _ h.1,h.2⟩
theorem qk {nm:Addr} {ws:List Str} (h:NamesAt H nm ws) (n:Nat) (hl:ws.length=n) (hn:0 < (n:Int)) (e:Int):∃ x,atI (ws.map V.str) (e % n)=some (.str x)∧x∈ws∧xO x=true:=by
 obtain ⟨v,hv,hm⟩:=zaC e n (xs:=ws.map V.str) (by rw [List.length_map,hl]) hn
 obtain ⟨x,hx,rfl⟩:=List.mem_map.mp hm
 exact ⟨x,hv,hx,h.2 x hx⟩
theorem Yf {c j:Int} (h1:0≤j) (h2:j≤900) (q:∀ w H',inW w=true→Same H H'→Q (.int w) H') :
  v4 K t { nx:=fun _ H'=>Q .non H',rt:=Q } (L2.start ["cell","j"] [.int c,.int j]) H:=by
 simp only [v4,zr,L2.start,zn,zt,zD,tOp,zc,tC,zb,zj,zF,zp,zo,rEq,rI,rI0,yA,List.map,List.replicate,List.length,List.append,jqa,jqb,jqc,jqd,jqe,jqf,jqg,jqh,jqi,jqj,jqk,jql,jqm,jqn,and_true,true_and,and_assoc,jqo,jqp,jqq,Nat.reduceSub,Nat.reduceAdd,jqr,jqs,jqt,Int.reduceToNat,Int.reducePow,Int.reduceNeg,Int.reduceMul,Int.reduceAdd,if_true,ite_true,jqu,ite_false,if_false]
 have P30:=KM (j:=30) (by decide) (by decide)
 have P40:=KM (j:=40) (by decide) (by decide)
 have hb:(1000000000000000000000000000000000000000000000000000000000000:Int) < big:=by decide +kernel
 refine ⟨h1,by lia,fun r1 H1 a1 b1 s1=>⟨by decide,xN (fun _=>?_) fun _=>⟨by lia,by lia,fun r2 H2 a2 b2 s2=>⟨by decide,q _ _ (inW_iff.mpr ?_) (s1.trans s2)⟩⟩⟩⟩
 ·have g1:=Int.emod_nonneg c (b:=10000000000000000000000000000000000000000) (by decide)
  have g2:=Int.emod_lt_of_pos c (b:=10000000000000000000000000000000000000000) (by decide)
  generalize c % 10000000000000000000000000000000000000000=d at *
  have m1:0≤d * (j + 2):=Int.mul_nonneg g1 (by lia)
  have m2:d * (j + 2)≤10000000000000000000000000000000000000000 * 1000:=Int.mul_le_mul (by lia) (by lia) (by lia) (by decide)
  generalize d * (j + 2)=f at *
  have g3:=Int.emod_nonneg (f * 1000003 + j) (b:=2000000000000000000000000000001) (by decide)
  have g4:=Int.emod_lt_of_pos (f * 1000003 + j) (b:=2000000000000000000000000000001) (by decide)
  exact ⟨P40,by decide,⟨by lia,by lia⟩,⟨by lia,by lia⟩,P30,⟨by lia,by lia⟩,by decide,P30,q _ _ (inW_iff.mpr (by lia)) s1⟩
 ·lia
theorem Wl {a b:List V} {w:Str} (ha:TermOk a) (hb:TermOk b) (hw:wdJ w) (l:a.length + b.length < 1000):TermOk (a ++ b ++ [.str w]):=by
 refine ⟨fun kvs=>?_,fun z hz=>?_,by rw [List.length_append,List.length_append,List.length_singleton];lia⟩
 ·obtain ⟨r1,g1⟩:=ha.1 kvs
  obtain ⟨r2,g2⟩:=hb.1 kvs
  exact ⟨_,Qn hw.1 g1 g2⟩
 ·rcases List.mem_append.mp hz with hz | hz
  ·rcases List.mem_append.mp hz with hz | hz
   ·exact ha.2.1 z hz
   ·exact hb.2.1 z hz
  ·rw [List.mem_singleton.mp hz];exact .inr ⟨w,rfl,hw.2.1⟩
theorem K0 {a b:List V} {w:Str} (ha:tmP a) (hb:tmP b) (hw:wdJ w):tmP (a ++ b ++ [.str w]):=fun z hz=>by
 rcases List.mem_append.mp hz with hz | hz
 ·rcases List.mem_append.mp hz with hz | hz
  ·exact ha z hz
  ·exact hb z hz
 ·rw [List.mem_singleton.mp hz];exact .inr ⟨w,rfl,hw.2.2⟩
theorem Xk {u:V} (h:lfV u):TermOk [u]∧tmP [u]:=by
 obtain ⟨o1,j1,p1⟩:=zdG h
 exact ⟨zat o1 j1,fun z hz=>by rw [List.mem_singleton.mp hz];exact p1⟩
mutual
theorem zbS:∀ (r:Rw) (k:Nat),(yB r k).length≤szR r∧r.cnt≤szR r
 | .iff e a b,k=>by
  have h1:=jT a (k + 1)
  have h2:=jT b (k + 2 + (zm a (k + 1)).length)
  have c:(Rw.iff e a b).cnt=max a.cnt b.cnt + 1:=by rw [Rw.cnt]
  have z:szR (.iff e a b)=vI a + vI b + 2:=by rw [szR]
  rw [yB,c,z]
  unfold blk
  split
  ·exact ⟨by simp;lia,by lia⟩
  ·exact ⟨by simp;lia,by lia⟩
 | .take sh e sl,k=>by simp [yB,szR,Rw.cnt]
 | .give sh e f,k=>by simp [yB,szR,Rw.cnt]
 | .lt sl e,k=>by simp [yB,szR,Rw.cnt]
 | .say e,k=>by simp [yB,szR,Rw.cnt]
 | .off e,k=>by simp [yB,szR,Rw.cnt]
theorem jT:∀ (r:Rws) (k:Nat),(zm r k).length≤vI r∧r.cnt≤vI r
 | .nil,k=>by simp [zm,vI,Rws.cnt]
 | .cons r rs,k=>by
  have h1:=zbS r k
  have h2:=jT rs (k + (yB r k).length)
  rw [zm,vI,Rws.cnt,List.length_append]
  lia
end
theorem Wm (x:Rw):∀ (r:Rws),vI (r.snoc x)=vI r + szR x
 | .nil=>by show vI (.cons x .nil)=_;simp [vI]
 | .cons y r=>by
  show vI (.cons y (r.snoc x))=_
  rw [vI,vI,Wm x r];lia
theorem rwV.deep {r:Rw} (h:rwV r):r.deep=0∧szR r=1:=by
 have:=h.ni
 cases r with
 | iff e a b=>exact this.elim
 | _=>exact ⟨by simp [Rw.deep],by simp [szR]⟩
theorem jf (C:List Cs) (tb:Pl→Int):∀ (a b:Nat) (s:RSt),wg C tb (a + b) s=wg C tb b (wg C tb a s)
 | 0,b,s=>by rw [Nat.zero_add];rfl
 | a + 1,b,s=>by
  rw [Nat.add_right_comm]
  exact jf C tb a b (yP C tb s)
theorem Rch.refl (C:List Cs) (tb:Pl→Int) (s:RSt):Rch C tb s s:=⟨0,rfl⟩
theorem Rch.trans {C:List Cs} {tb:Pl→Int} {s1 s2 s3:RSt} (a:Rch C tb s1 s2) (b:Rch C tb s2 s3):Rch C tb s1 s3:=by
 obtain ⟨j,rfl⟩:=a
 obtain ⟨k,rfl⟩:=b
 exact ⟨j + k,jf C tb j k s1⟩
theorem Rch.one (C:List Cs) (tb:Pl→Int) (s:RSt):Rch C tb s (yP C tb s):=⟨1,rfl⟩
theorem xW (q:Row) (p:Pl):∀ (rows:List Row),zu (rows ++ [q]) p=if q.1=p then some q.2 else zu rows p
 | []=>by
  show (Option.none.or (if q.1=p then some q.2 else none))=_
  rw [Option.none_or]
  rfl
 | r :: t=>by
  show (zu (t ++ [q]) p).or _=if q.1=p then some q.2 else (zu t p).or _
  rw [xW q p t]
  split
  ·rfl
  ·rfl
structure W2 (tb:Pl→Int) (st:Sta) (s:RSt):Prop where
 sl:s.sl=st.sl
 sa:s.sa=st.sa
 wo:∀ p,(zu st.wo p).getD 0=(zu s.gi p).getD (tb p)
 no:∀ p w,zu s.no p=some w→w=tb p
def Sub (C:List Cs) (k:Nat) (D:List Cs):Prop:=∃ A B,C=A ++ (D ++ B)∧A.length=k
theorem Sub.get {C D:List Cs} {k i:Nat} {c:Cs} (h:Sub C k D) (e:D[i]?=some c):C[k + i]?=some c:=by
 obtain ⟨A,B,rfl,rfl⟩:=h
 have hi:=(List.getElem?_eq_some_iff.mp e).1
 rw [List.getElem?_append_right (by lia),Nat.add_sub_cancel_left,List.getElem?_append_left hi]
 exact e
theorem Sub.left {C D E:List Cs} {k:Nat} (h:Sub C k (D ++ E)):Sub C k D:=by
 obtain ⟨A,B,rfl,e⟩:=h
 exact ⟨A,E ++ B,by rw [List.append_assoc],e⟩
theorem Sub.right {C D E:List Cs} {k:Nat} (h:Sub C k (D ++ E)):Sub C (k + D.length) E:=by
 obtain ⟨A,B,rfl,e⟩:=h
 exact ⟨A ++ D,B,by simp,by rw [List.length_append,e]⟩
theorem J9 {C:List Cs} {tb:Pl→Int} {s:RSt} {c:Cs} (hw:s.why=none) (hc:C[s.n]?=some c):yP C tb s=zX c (match wx c s with | none=>0 | some p=>tb p) s:=by
 have hl:=(List.getElem?_eq_some_iff.mp hc).1
 have ho:¬ ym C s=true:=by unfold ym;rw [hw];simp;exact hl
 unfold yP q8 xL w5
 rw [if_neg ho,if_neg ho,hc]
 rfl
def Comes (C:List Cs) (tb:Pl→Int) (s:RSt) (to:Nat):Res→Prop
 | .go st'=>∃ s',Rch C tb s s'∧s'.n=to∧s'.why=none∧W2 tb st' s'
 | .off=>∃ s',Rch C tb s s'∧s'.why=some (Str.ofString "told")
 | .er e=>∃ s',Rch C tb s s'∧s'.why=some (Y1 e)
theorem Comes.pre {C:List Cs} {tb:Pl→Int} {s s1:RSt} {to:Nat} {r:Res} (a:Rch C tb s s1) (h:Comes C tb s1 to r):Comes C tb s to r:=by
 cases r with
 | go st=>obtain ⟨s',b,c⟩:=h;exact ⟨s',a.trans b,c⟩
 | off=>obtain ⟨s',b,c⟩:=h;exact ⟨s',a.trans b,c⟩
 | er e=>obtain ⟨s',b,c⟩:=h;exact ⟨s',a.trans b,c⟩
theorem jU {C:List Cs} {tb:Pl→Int} {s:RSt} {st:Sta} {r:Rw} (nf:JZ r) (R:W2 tb st s) (hw:s.why=none) (hc:C[s.n]?=some (.row r)):Comes C tb s (s.n + 1) (goR r st):=by
 have one:=Rch.one C tb s
 have ef:=J9 (tb:=tb) hw hc
 rw [ef] at one
 have es:=R.sl
 cases r with
 | iff e a b=>exact nf.elim
 | take sh e x =>
  cases hk:rk s.sl e with
  | error er =>
   have g:goR (.take sh e x) st=.er er:=by rw [goR,← es,hk]
   rw [g]
   refine ⟨_,one,?_⟩
   simp [zX,yu,doR,hk]
  | ok n =>
   have g:goR (.take sh e x) st=.go { st with sl:=yD st.sl (.inr x) (.int ((zu st.wo (sh,n)).getD 0)) }:=by rw [goR,← es,hk]
   rw [g]
   have kn:∀ w,(zu s.gi (sh,n)=none→zu s.no (sh,n)=none→w=tb (sh,n))→wM (sh,n) w s=(zu st.wo (sh,n)).getD 0:=fun w h=>by
    rw [R.wo]
    unfold wM
    cases h1:zu s.gi (sh,n) with
    | some v=>rfl
    | none =>
     show (zu s.no (sh,n)).getD w=tb (sh,n)
     cases h2:zu s.no (sh,n) with
     | some v=>exact R.no _ _ h2
     | none=>exact h h1 h2
   refine ⟨_,one,?_⟩
   simp only [zX,yu,doR,wx,hk]
   by_cases hh:(zu s.gi (sh,n)).isSome=true∨(zu s.no (sh,n)).isSome=true
   ·rw [if_pos hh]
    have n0:y9 (sh,n) 0 s=s:=if_pos hh
    rw [n0]
    refine ⟨trivial,hw,⟨?_,R.sa,R.wo,R.no⟩⟩
    show yD s.sl _ _=yD st.sl _ _
    rw [es,kn 0 (fun a b=>by rw [a,b] at hh;simp at hh)]
   ·rw [if_neg hh]
    have n0:y9 (sh,n) (tb (sh,n)) s={ s with no:=s.no ++ [((sh,n),tb (sh,n))] }:=if_neg hh
    dsimp only
    simp only [n0]
    refine ⟨trivial,hw,⟨?_,R.sa,R.wo,fun p w h=>?_⟩⟩
    ·show yD s.sl _ _=yD st.sl _ _
     rw [es,kn _ (fun _ _=>rfl)]
    ·have h:zu (s.no ++ [((sh,n),tb (sh,n))]) p=some w:=h
     rw [xW] at h
     split at h
     ·rename_i z
      cases h
      exact congrArg tb z
     ·exact R.no p w h
 | give sh e f =>
  cases hk:rk s.sl e with
  | error er =>
   have g:goR (.give sh e f) st=.er er:=by rw [goR,← es,hk]
   rw [g]
   exact ⟨_,one,by simp [zX,yu,doR,hk]⟩
  | ok n =>
   cases hf:rk s.sl f with
   | error er =>
    have g:goR (.give sh e f) st=.er er:=by rw [goR,← es,hk];simp only [hf]
    rw [g]
    exact ⟨_,one,by simp [zX,yu,doR,hk,hf]⟩
   | ok w =>
    have g:goR (.give sh e f) st=.go { st with wo:=st.wo ++ [((sh,n),w)] }:=by rw [goR,← es,hk];simp only [hf]
    rw [g]
    refine ⟨_,one,?_⟩
    simp only [zX,yu,doR,hk,hf]
    refine ⟨trivial,hw,⟨es,R.sa,fun p=>?_,R.no⟩⟩
    show (zu (st.wo ++ [((sh,n),w)]) p).getD 0=(zu (s.gi ++ [((sh,n),w)]) p).getD (tb p)
    rw [xW,xW]
    split
    ·rfl
    ·exact R.wo p
 | lt x e =>
  cases hk:rk s.sl e with
  | error er =>
   have g:goR (.lt x e) st=.er er:=by rw [goR,← es,hk]
   rw [g]
   exact ⟨_,one,by simp [zX,yu,doR,hk]⟩
  | ok n =>
   have g:goR (.lt x e) st=.go { st with sl:=yD st.sl (.inr x) (.int n) }:=by rw [goR,← es,hk]
   rw [g]
   refine ⟨_,one,?_⟩
   simp only [zX,yu,doR,hk]
   exact ⟨trivial,hw,⟨by show yD s.sl _ _=yD st.sl _ _;rw [es],R.sa,R.wo,R.no⟩⟩
 | say e =>
  cases hk:rk s.sl e with
  | error er =>
   have g:goR (.say e) st=.er er:=by rw [goR,← es,hk]
   rw [g]
   exact ⟨_,one,by simp [zX,yu,doR,hk]⟩
  | ok n =>
   have g:goR (.say e) st=.go { st with sa:=st.sa ++ [n] }:=by rw [goR,← es,hk]
   rw [g]
   refine ⟨_,one,?_⟩
   simp only [zX,yu,doR,hk]
   exact ⟨trivial,hw,⟨es,by show s.sa ++ [n]=st.sa ++ [n];rw [R.sa],R.wo,R.no⟩⟩
 | off e =>
  cases hk:rk s.sl e with
  | error er =>
   have g:goR (.off e) st=.er er:=by rw [goR,← es,hk]
   rw [g]
   exact ⟨_,one,by simp [zX,yu,hk]⟩
  | ok n =>
   by_cases h0:n=0
   ·have g:goR (.off e) st=.go st:=by rw [goR,← es,hk];simp only [h0,if_true]
    rw [g]
    refine ⟨_,one,?_⟩
    simp only [zX,yu,hk,h0,if_true]
    exact ⟨trivial,hw,⟨es,R.sa,R.wo,R.no⟩⟩
   ·have g:goR (.off e) st=.off:=by rw [goR,← es,hk];simp only [h0,if_false]
    rw [g]
    refine ⟨_,one,?_⟩
    simp only [zX,yu,hk,h0,if_false]
theorem Xl {C:List Cs} {tb:Pl→Int} {s:RSt} {st:Sta} {e:List V} {to:Nat} (R:W2 tb st s) (hw:s.why=none) (hc:C[s.n]?=some (.skip e to)):match rk st.sl e with | .ok i=>∃ s',Rch C tb s s'∧s'.n=(if i=0 then to else s.n + 1)∧s'.why=none∧W2 tb st s' | .error er=>∃ s',Rch C tb s s'∧s'.why=some (Y1 er):=by
 have one:=Rch.one C tb s
 have ef:=J9 (tb:=tb) hw hc
 rw [ef] at one
 have es:=R.sl
 cases hk:rk st.sl e with
 | error er=>exact ⟨_,one,by simp [zX,yu,es,hk]⟩
 | ok i =>
  refine ⟨_,one,?_⟩
  simp only [zX,yu,es,hk]
  exact ⟨trivial,hw,⟨rfl,R.sa,R.wo,R.no⟩⟩
theorem zaR {C:List Cs} {tb:Pl→Int} {s:RSt} {st:Sta} {k:Nat} (R:W2 tb st s) (hw:s.why=none) (hc:C[s.n]?=some (.go k)):∃ s',Rch C tb s s'∧s'.n=k∧s'.why=none∧W2 tb st s':=by
 have one:=Rch.one C tb s
 have ef:=J9 (tb:=tb) hw hc
 rw [ef] at one
 exact ⟨_,one,rfl,hw,⟨R.sl,R.sa,R.wo,R.no⟩⟩
mutual
theorem zaS {C:List Cs} {tb:Pl→Int}:∀ (r:Rw) {s:RSt} {st:Sta},Sub C s.n (yB r s.n)→W2 tb st s→s.why=none→Comes C tb s (s.n + (yB r s.n).length) (goR r st)
 | .take sh e x,s,st,hC,R,hw=>jU (r:=.take sh e x) trivial R hw (hC.get (i:=0) rfl)
 | .give sh e f,s,st,hC,R,hw=>jU (r:=.give sh e f) trivial R hw (hC.get (i:=0) rfl)
 | .lt x e,s,st,hC,R,hw=>jU (r:=.lt x e) trivial R hw (hC.get (i:=0) rfl)
 | .say e,s,st,hC,R,hw=>jU (r:=.say e) trivial R hw (hC.get (i:=0) rfl)
 | .off e,s,st,hC,R,hw=>jU (r:=.off e) trivial R hw (hC.get (i:=0) rfl)
 | .iff e a b,s,st,hC,R,hw=>by
  cases hb:Rws.isNil b with
  | true =>
   have ec:yB (.iff e a b) s.n=.skip e (s.n + 1 + (zm a (s.n + 1)).length) :: zm a (s.n + 1):=by rw [yB];unfold blk;rw [hb,if_pos rfl]
   rw [ec] at hC ⊢
   have b0:b=.nil:=by cases b with | nil=>rfl | cons _ _=>cases hb
   have sk:=Xl R hw (hC.get (i:=0) rfl)
   have hC2:Sub C (s.n + 1) (zm a (s.n + 1)):=Sub.right (D:=[.skip e _]) hC
   cases hk:rk st.sl e with
   | error er =>
    rw [hk] at sk
    have g:goR (.iff e a b) st=.er er:=by rw [goR,hk]
    rw [g]
    exact sk
   | ok i =>
    rw [hk] at sk
    obtain ⟨s1,r1,n1,w1,R1⟩:=sk
    by_cases h0:i=0
    ·have g:goR (.iff e a b) st=.go st:=by rw [goR,hk];simp only [h0,if_true,b0];rw [yE]
     rw [g]
     rw [if_pos h0] at n1
     exact ⟨s1,r1,by rw [n1];simp;lia,w1,R1⟩
    ·have g:goR (.iff e a b) st=yE a st:=by rw [goR,hk];simp only [h0,if_false]
     rw [g]
     rw [if_neg h0] at n1
     have:=jV a (C:=C) (tb:=tb) (s:=s1) (st:=st) (by rw [n1];exact hC2) R1 w1
     rw [n1] at this
     rw [show s.n + (Cs.skip e (s.n + 1 + (zm a (s.n + 1)).length) :: zm a (s.n + 1)).length=s.n + 1 + (zm a (s.n + 1)).length by simp;lia]
     exact this.pre r1
  | false =>
   have ec:yB (.iff e a b) s.n=.skip e (s.n + 2 + (zm a (s.n + 1)).length) :: (zm a (s.n + 1) ++ (.go (s.n + 2 + (zm a (s.n + 1)).length + (zm b (s.n + 2 + (zm a (s.n + 1)).length)).length) :: zm b (s.n + 2 + (zm a (s.n + 1)).length))):=by rw [yB];unfold blk;rw [hb,if_neg (by decide)]
   rw [ec] at hC ⊢
   have sk:=Xl R hw (hC.get (i:=0) rfl)
   have hC2:=Sub.right (D:=[.skip e _]) hC
   have hA:Sub C (s.n + 1) (zm a (s.n + 1)):=hC2.left
   have hG:=hC2.right
   have hB:=Sub.right (D:=[.go _]) hG
   have tot:s.n + (Cs.skip e (s.n + 2 + (zm a (s.n + 1)).length) :: (zm a (s.n + 1) ++ (Cs.go (s.n + 2 + (zm a (s.n + 1)).length + (zm b (s.n + 2 + (zm a (s.n + 1)).length)).length) :: zm b (s.n + 2 + (zm a (s.n + 1)).length)))).length=s.n + 2 + (zm a (s.n + 1)).length + (zm b (s.n + 2 + (zm a (s.n + 1)).length)).length:=by simp;lia
   rw [tot]
   have hB:Sub C (s.n + 2 + (zm a (s.n + 1)).length) (zm b (s.n + 2 + (zm a (s.n + 1)).length)):=by
    have e1:s.n + 1 + (zm a (s.n + 1)).length + 1=s.n + 2 + (zm a (s.n + 1)).length:=by lia
    rw [← e1]
    rw [← e1] at hB
    exact hB
   have hG1:=hG.get (i:=0) (c:=.go _) rfl
   cases hk:rk st.sl e with
   | error er =>
    rw [hk] at sk
    have g:goR (.iff e a b) st=.er er:=by rw [goR,hk]
    rw [g]
    exact sk
   | ok i =>
    rw [hk] at sk
    obtain ⟨s1,r1,n1,w1,R1⟩:=sk
    by_cases h0:i=0
    ·have g:goR (.iff e a b) st=yE b st:=by rw [goR,hk];simp only [h0,if_true]
     rw [g]
     rw [if_pos h0] at n1
     have:=jV b (C:=C) (tb:=tb) (s:=s1) (st:=st) (by rw [n1];exact hB) R1 w1
     rw [n1] at this
     exact this.pre r1
    ·have g:goR (.iff e a b) st=yE a st:=by rw [goR,hk];simp only [h0,if_false]
     rw [g]
     rw [if_neg h0] at n1
     have:=jV a (C:=C) (tb:=tb) (s:=s1) (st:=st) (by rw [n1];exact hA) R1 w1
     rw [n1] at this
     refine Comes.pre r1 ?_
     cases hg:yE a st with
     | go st2 =>
      rw [hg] at this
      obtain ⟨s2,r2,n2,w2,R2⟩:=this
      obtain ⟨s3,r3,n3,w3,R3⟩:=zaR R2 w2 (by rw [n2];exact hG1)
      exact ⟨s3,r2.trans r3,n3,w3,R3⟩
     | off=>rw [hg] at this;exact this
     | er er=>rw [hg] at this;exact this
theorem jV {C:List Cs} {tb:Pl→Int}:∀ (r:Rws) {s:RSt} {st:Sta},Sub C s.n (zm r s.n)→W2 tb st s→s.why=none→Comes C tb s (s.n + (zm r s.n).length) (yE r st)
 | .nil,s,st,hC,R,hw=>by
  have e:zm .nil s.n=[]:=by rw [zm]
  have g:yE .nil st=.go st:=by rw [yE]
  rw [e,g]
  exact ⟨s,Rch.refl C tb s,rfl,hw,R⟩
 | .cons x r,s,st,hC,R,hw=>by
  have e:zm (.cons x r) s.n=yB x s.n ++ zm r (s.n + (yB x s.n).length):=by rw [zm]
  rw [e] at hC ⊢
  have h1:=zaS x hC.left R hw
  cases hx:goR x st with
  | go st1 =>
   rw [hx] at h1
   have g:yE (.cons x r) st=yE r st1:=by rw [yE,hx]
   rw [g]
   obtain ⟨s1,r1,n1,w1,R1⟩:=h1
   have:=jV r (C:=C) (tb:=tb) (s:=s1) (st:=st1) (by rw [n1];exact hC.right) R1 w1
   rw [n1] at this
   rw [List.length_append,← Nat.add_assoc]
   exact this.pre r1
  | off =>
   rw [hx] at h1
   have g:yE (.cons x r) st=.off:=by rw [yE,hx]
   rw [g]
   exact h1
  | er er =>
   rw [hx] at h1
   have g:yE (.cons x r) st=.er er:=by rw [yE,hx]
   rw [g]
   exact h1
end
theorem Ka {tb:Pl→Int} {r:Rws} {s:RSt} {st:Sta} (hn:s.n=0) (R:W2 tb st s) (hw:s.why=none):Comes (zm r 0) tb s (zm r 0).length (yE r st):=by
 have:=jV (C:=zm r 0) (tb:=tb) r (s:=s) (st:=st) (by rw [hn];exact ⟨[],[],by simp,rfl⟩) R hw
 rw [hn,Nat.zero_add] at this
 exact this
theorem Zz {C:List Cs} {tb:Pl→Int} {s:RSt} (h:ym C s=true):∀ k,wg C tb k s=s
 | 0=>rfl
 | k + 1=>by
  have e:yP C tb s=s:=by unfold yP xL;rw [if_pos h]
  show wg C tb k (yP C tb s)=s
  rw [e]
  exact Zz h k
theorem ZA {C:List Cs} {tb:Pl→Int} {s a b:RSt} (ha:Rch C tb s a) (hb:Rch C tb s b) (oa:ym C a=true) (ob:ym C b=true):a=b:=by
 obtain ⟨j,rfl⟩:=ha
 obtain ⟨k,rfl⟩:=hb
 rcases Nat.le_total j k with h | h
 ·obtain ⟨d,rfl⟩:∃ d,k=j + d:=⟨k - j,by lia⟩
  rw [jf,Zz oa]
 ·obtain ⟨d,rfl⟩:∃ d,j=k + d:=⟨j - k,by lia⟩
  rw [jf,Zz ob]
theorem zc6 {r:Rw} {w:Int} {s s':RSt} (h:doR r w s=.ok s'):s'.no=s.no∨∃ p,wx (.row r) s=some p∧s'.no=s.no ++ [(p,w)]:=by
 cases r with
 | take sh e x =>
  cases hk:rk s.sl e with
  | error er=>rw [doR,hk] at h;cases h
  | ok n =>
   rw [doR,hk] at h
   cases h
   by_cases hh:(zu s.gi (sh,n)).isSome=true∨(zu s.no (sh,n)).isSome=true
   ·refine .inl ?_
    show (y9 (sh,n) w s).no=s.no
    rw [show y9 (sh,n) w s=s from if_pos hh]
   ·refine .inr ⟨(sh,n),?_,?_⟩
    ·simp only [wx,hk]
     rw [if_neg hh]
    ·show (y9 (sh,n) w s).no=s.no ++ [((sh,n),w)]
     rw [show y9 (sh,n) w s={ s with no:=s.no ++ [((sh,n),w)] } from if_neg hh]
 | give sh e f =>
  cases hk:rk s.sl e with
  | error er=>rw [doR,hk] at h;cases h
  | ok n =>
   rw [doR,hk] at h
   dsimp only at h
   cases hf:rk s.sl f with
   | error er=>rw [hf] at h;cases h
   | ok i=>rw [hf] at h;cases h;exact .inl rfl
 | lt x e =>
  cases hk:rk s.sl e with
  | error er=>rw [doR,hk] at h;cases h
  | ok n=>rw [doR,hk] at h;cases h;exact .inl rfl
 | say e =>
  cases hk:rk s.sl e with
  | error er=>rw [doR,hk] at h;cases h
  | ok n=>rw [doR,hk] at h;cases h;exact .inl rfl
 | off e=>cases h;exact .inl rfl
 | iff e a b=>cases h;exact .inl rfl
theorem zbT {sh:Str} {e:List V} {x:Str} {w:Int} {s:RSt} {p:Pl} (h:wx (.row (.take sh e x)) s=some p):(zX (.row (.take sh e x)) w s).no=s.no ++ [(p,w)]:=by
 cases hk:rk s.sl e with
 | error er=>simp only [wx,hk] at h;cases h
 | ok n =>
  simp only [wx,hk] at h
  by_cases hh:(zu s.gi (sh,n)).isSome=true∨(zu s.no (sh,n)).isSome=true
  ·rw [if_pos hh] at h;cases h
  ·rw [if_neg hh] at h
   cases h
   simp only [zX,yu,doR,hk]
   show (y9 (sh,n) w s).no=_
   rw [show y9 (sh,n) w s={ s with no:=s.no ++ [((sh,n),w)] } from if_neg hh]
theorem zaT (c:Cs) (w:Int) (s:RSt):(wx c s=none∧(zX c w s).no=s.no)∨∃ p,wx c s=some p∧(zX c w s).no=s.no ++ [(p,w)]:=by
 cases ha:wx c s with
 | some p =>
  cases c with
  | row r =>
   cases r with
   | take sh e x=>exact .inr ⟨p,rfl,zbT ha⟩
   | _=>cases ha
  | _=>cases ha
 | none =>
  refine .inl ⟨rfl,?_⟩
  cases c with
  | go k=>rfl
  | skip e to =>
   simp only [zX,yu]
   cases rk s.sl e <;> rfl
  | row r =>
   have d:∀ s',doR r w s=.ok s'→s'.no=s.no:=fun s' h=>by
    rcases zc6 h with z | ⟨p,z,_⟩
    ·exact z
    ·rw [ha] at z;cases z
   cases r with
   | off e =>
    simp only [zX,yu]
    cases rk s.sl e with
    | error er=>rfl
    | ok i=>dsimp only;split <;> rfl
   | take sh e x =>
    simp only [zX,yu]
    cases h:doR (.take sh e x) w s with
    | error er=>rfl
    | ok s'=>exact d s' h
   | give sh e f =>
    simp only [zX,yu]
    cases h:doR (.give sh e f) w s with
    | error er=>rfl
    | ok s'=>exact d s' h
   | lt x e =>
    simp only [zX,yu]
    cases h:doR (.lt x e) w s with
    | error er=>rfl
    | ok s'=>exact d s' h
   | say e =>
    simp only [zX,yu]
    cases h:doR (.say e) w s with
    | error er=>rfl
    | ok s'=>exact d s' h
   | iff e a b =>
    simp only [zX,yu]
    cases h:doR (.iff e a b) w s with
    | error er=>rfl
    | ok s'=>exact d s' h
theorem W3 (C:List Cs) (tb:Pl→Int) (s:RSt):(w5 C s=none∧(yP C tb s).no=s.no)∨∃ p,w5 C s=some p∧(yP C tb s).no=s.no ++ [(p,tb p)]:=by
 by_cases ho:ym C s=true
 ·refine .inl ⟨by unfold w5;rw [if_pos ho],?_⟩
  unfold yP xL
  rw [if_pos ho]
 ·cases hc:C[s.n]? with
  | none =>
   refine .inl ⟨by unfold w5;rw [if_neg ho,hc];rfl,?_⟩
   unfold yP xL
   rw [if_neg ho,hc]
  | some c =>
   have e:w5 C s=wx c s:=by unfold w5;rw [if_neg ho,hc];rfl
   have f:yP C tb s=zX c (q8 C tb s) s:=by unfold yP xL;rw [if_neg ho,hc]
   rw [e,f]
   rcases zaT c (q8 C tb s) s with ⟨a,b⟩ | ⟨p,a,b⟩
   ·exact .inl ⟨a,b⟩
   ·refine .inr ⟨p,a,?_⟩
    rw [b]
    unfold q8
    rw [e,a]
theorem Xm {C:List Cs} {tb tb':Pl→Int} {s:RSt} (h:∀ p,w5 C s=some p→tb' p=tb p):yP C tb' s=yP C tb s:=by
 have e:q8 C tb' s=q8 C tb s:=by
  unfold q8
  cases ha:w5 C s with
  | none=>rfl
  | some p=>exact h p ha
 unfold yP
 rw [e]
theorem ZB (C:List Cs) (tb:Pl→Int):∀ (k:Nat) (s:RSt),∃ l,(wg C tb k s).no=s.no ++ l
 | 0,s=>⟨[],by simp [wg]⟩
 | k + 1,s=>by
  obtain ⟨l,e⟩:=ZB C tb k (yP C tb s)
  show ∃ l,(wg C tb k (yP C tb s)).no=_
  rcases W3 C tb s with ⟨_,b⟩ | ⟨p,_,b⟩
  ·exact ⟨l,by rw [e,b]⟩
  ·exact ⟨(p,tb p) :: l,by rw [e,b];simp⟩
theorem Jf (C:List Cs) (tb tb':Pl→Int):∀ (k:Nat) (s:RSt),(∀ r∈(wg C tb k s).no,tb' r.1=r.2)→wg C tb' k s=wg C tb k s
 | 0,s,_=>rfl
 | k + 1,s,h=>by
  have h:∀ r∈(wg C tb k (yP C tb s)).no,tb' r.1=r.2:=h
  have e:yP C tb' s=yP C tb s:=Xm fun p hp=>by
   rcases W3 C tb s with ⟨a,_⟩ | ⟨q,a,b⟩
   ·rw [hp] at a;cases a
   ·rw [hp] at a
    cases a
    obtain ⟨l,g⟩:=ZB C tb k (yP C tb s)
    exact h (p,tb p) (by rw [g,b];simp)
  show wg C tb' k (yP C tb' s)=wg C tb k (yP C tb s)
  rw [e]
  exact Jf C tb tb' k (yP C tb s) h
theorem Zf (C:List Cs) (tb tb':Pl→Int):∀ (k:Nat) (s:RSt) (at_:Nat) (p:Pl) (w:Int),s.no.length≤at_→(wg C tb k s).no[at_]?=some (p,w)→(∀ r∈(wg C tb k s).no.take at_,tb' r.1=r.2) →
  ∃ j s1,wg C tb' j s=s1∧s1.no=(wg C tb k s).no.take at_ ++ [(p,tb' p)]
 | 0,s,at_,p,w,hl,h,_=>by
  have:=(List.getElem?_eq_some_iff.mp h).1
  have:at_ < s.no.length:=this
  lia
 | k + 1,s,at_,p,w,hl,h,hn=>by
  have h:(wg C tb k (yP C tb s)).no[at_]?=some (p,w):=h
  have hn:∀ r∈(wg C tb k (yP C tb s)).no.take at_,tb' r.1=r.2:=hn
  show ∃ j s1,wg C tb' j s=s1∧s1.no=(wg C tb k (yP C tb s)).no.take at_ ++ [(p,tb' p)]
  obtain ⟨l,g⟩:=ZB C tb k (yP C tb s)
  rcases W3 C tb s with ⟨a,b⟩ | ⟨q,a,b⟩
  ·have e:yP C tb' s=yP C tb s:=Xm fun p hp=>by rw [hp] at a;cases a
   obtain ⟨j,s1,e1,e2⟩:=Zf C tb tb' k (yP C tb s) at_ p w (by rw [b];exact hl) h hn
   exact ⟨j + 1,s1,by show wg C tb' j (yP C tb' s)=s1;rw [e];exact e1,e2⟩
  ·rw [b] at g
   by_cases ha:at_=s.no.length
   ·have gp:(wg C tb k (yP C tb s)).no[at_]?=some (q,tb q):=by rw [g,ha];simp
    rw [gp] at h
    cases h
    refine ⟨1,yP C tb' s,rfl,?_⟩
    have gt:(wg C tb k (yP C tb s)).no.take at_=s.no:=by rw [g,ha];simp
    rw [gt]
    rcases W3 C tb' s with ⟨a',_⟩ | ⟨q',a',b'⟩
    ·rw [a] at a';cases a'
    ·rw [a] at a'
     cases a'
     exact b'
   ·have tq:tb' q=tb q:=hn (q,tb q) (by
     rw [g,List.append_assoc,List.take_append]
     refine List.mem_append_right _ ?_
     obtain ⟨m,hm⟩:∃ m,at_ - s.no.length=m + 1:=⟨at_ - s.no.length - 1,by lia⟩
     rw [hm]
     exact List.mem_cons_self ..)
    have e:yP C tb' s=yP C tb s:=Xm fun p hp=>by rw [hp] at a;cases a;exact tq
    obtain ⟨j,s1,e1,e2⟩:=Zf C tb tb' k (yP C tb s) at_ p w (by rw [b];simp;lia) h hn
    exact ⟨j + 1,s1,by show wg C tb' j (yP C tb' s)=s1;rw [e];exact e1,e2⟩
theorem Qy (c:Cs) (w:Int) (s:RSt):(zX c w s).gi.length + (zX c w s).no.length≤s.gi.length + s.no.length + 1:=by
 have z:s.gi.length + s.no.length≤s.gi.length + s.no.length + 1:=by lia
 cases c with
 | go k=>exact z
 | skip e to=>cases hk:rk s.sl e with
  | error x=>simp only [zX,yu,hk];exact z
  | ok i=>simp only [zX,yu,hk];exact z
 | row r =>
  cases r with
  | off e=>cases hk:rk s.sl e with
   | error x=>simp only [zX,yu,hk];exact z
   | ok i =>
    simp only [zX,yu,hk]
    split
    ·exact z
    ·exact z
  | iff e a b=>exact z
  | take sh e x=>cases hk:rk s.sl e with
   | error x=>simp only [zX,yu,doR,hk];exact z
   | ok i =>
    simp only [zX,yu,doR,hk]
    unfold y9
    split
    ·exact z
    ·show s.gi.length + (s.no ++ [((sh,i),w)]).length≤_
     rw [List.length_append,List.length_singleton];lia
  | give sh e f=>cases hk:rk s.sl e with
   | error x=>simp only [zX,yu,doR,hk];exact z
   | ok i=>cases hk2:rk s.sl f with
    | error x=>simp only [zX,yu,doR,hk,hk2];exact z
    | ok j =>
     simp only [zX,yu,doR,hk,hk2]
     rw [List.length_append,List.length_singleton];lia
  | lt x e=>cases hk:rk s.sl e with
   | error x=>simp only [zX,yu,doR,hk];exact z
   | ok i=>simp only [zX,yu,doR,hk];exact z
  | say e=>cases hk:rk s.sl e with
   | error x=>simp only [zX,yu,doR,hk];exact z
   | ok i=>simp only [zX,yu,doR,hk];exact z
theorem zbU (C:List Cs) (tb:Pl→Int) (s:RSt):(yP C tb s).gi.length + (yP C tb s).no.length≤s.gi.length + s.no.length + 1:=by
 unfold yP xL
 split
 ·lia
 ·split
  ·lia
  ·exact Qy ..
theorem rn0 {C:List Cs}:RnI C 0 st0:=⟨⟨(fun k v e=>by cases e),(fun r h=>nomatch h),(fun r h=>nomatch h),Nat.le_refl _,Nat.le_refl _,Nat.le_refl _,Nat.le_refl _,List.nodup_nil⟩,(fun r h=>nomatch h),(fun r h=>nomatch h),fun _=>Nat.zero_le _,fun w z=>nomatch z⟩
structure FdS (t:Adr) (H0 H:Hp) (x:Addr) (a:RAd) (C:List Cs) (tb:Pl→Int) (k:Nat) (s:RSt):Prop where
 sm:Same H0 H
 R:RnAt t H x a C s
 I:RnI C k s
 rc:wg C tb k st0=s
 fw:s.gi.length + s.no.length≤k
 le:k≤C.length
theorem FdS.same {H0 H':Hp} {x:Addr} {a:RAd} {C:List Cs} {tb:Pl→Int} {k:Nat} {s:RSt} (S:FdS t H0 H x a C tb k s) (h:Same H H'):FdS t H0 H' x a C tb k s:=⟨S.sm.trans h,S.R.same h,S.I,S.rc,S.fw,S.le⟩
def fdI (t:Adr) (H0:Hp) (l tl x:Addr) (a:RAd) (C:List Cs) (tb:Pl→Int) (m:Nat) (σ:St) (H:Hp):Prop:=∃ k s,m=C.length - k∧(∃ o,σ=[some (.ref l),some (.ref tl),some (.ref x),o])∧FdS t H0 H x a C tb k s
section
variable {l tl x:Addr} {a:RAd} {xs:List V} {C:List Cs} {rows:List Row} {H0:Hp}
theorem FdS.step {k:Nat} {s:RSt} {tb:Pl→Int} {H1 H2:Hp} (O:Qv C) (ow:∀ b,OwA x a b→H0 b=none) (S:FdS t H0 H1 x a C tb k s) (ho:ym C s=false) (hw:inW (q8 C tb s)=true) (k2:Kp x a H1 H2) (R2:RnAt t H2 x a C (xL C (q8 C tb s) s)):FdS t H0 H2 x a C tb (k + 1) (yP C tb s):=by
 have no:¬ ym C s=true:=by rw [ho];decide
 have lt:=Zv no
 have wn:s.why=none:=by
  cases e:s.why with
  | none=>rfl
  | some v=>exact absurd (show ym C s=true by unfold ym;rw [e];rfl) no
 have:=S.I.at_ wn
 refine ⟨fun b o e=>k2 b o (fun y=>by rw [ow b (.inl y)] at e;cases e) (S.sm _ _ e),R2,zbO O S.I ho hw,?_,?_,by lia⟩
 ·rw [jf,S.rc];rfl
 ·have:=zbU C tb s
  have:=S.fw
  lia
theorem zbV (h1:H l=some (.lst xs)) (h2:Paired (CsAt H) xs C) (O:Qv C) (h4:LsAt H tl rows) (h5:rows.length≤500) (h6:∀ r∈rows,inW r.2=true) (q:∀ r s H',Same H H'→WS C rows s→PpAt H H' r s→Q (.ref r) H') :
  J1 K t { nx:=fun _ H'=>Q .non H',rt:=Q } (L2.start ["code","table","run","place"] [.ref l,.ref tl]) H:=by
 simp only [J1,kX,yC,jl,jk,vH,qA,zT,XR,L2.start,zn,zH,zl,zt,yd,tOp,zc,tC,zb,zj,xx,zp,tB,tIf,zo,zcD,List.map,List.replicate,List.length,List.append,jqa,jqb,jqc,jqd,jqe,jqf,jqg,jqh,jqi,jqj,jqk,jql,jqm,jqn,and_true,true_and,and_assoc,jqo,jqp,jqq,jqr,jqs,jqt,if_true,ite_true,jqu,ite_false,if_false]
 intro x dx hx hd n
 have hdx:H dx=none:=hd
 have n1:∀ b o,H b=some o→b≠x:=fun b o e=>zJ e hx
 have n2:∀ b o,H b=some o→b≠dx:=fun b o e=>zJ e hd
 have s2:Same H (upd (upd H dx (HO.own x)) x (HO.ins t.c_Run dx [])):=fun b o e=>by rw [zk (n1 b o e),zk (n2 b o e)];exact e
 refine ⟨_,zd,xs,s2 _ _ h1,C,wr s2 h2,fun H3 a k3 R3 fr=>?_⟩
 obtain ⟨s3,ow⟩:=zc3 (Same.refl H) hx hd k3 fr
 have tl0:∀ s H',RnAt t H' x a C s→True:=fun _ _ _=>trivial
 unfold Js
 refine ⟨fdI t H l tl x a C (vJ rows),⟨_,0,st0,rfl,⟨_,rfl⟩,s3,R3,rn0,rfl,Nat.le_refl _,Nat.zero_le _⟩,?_⟩
 rintro m σ H4 ⟨k,s,rfl,⟨o,rfl⟩,S⟩
 simp only [yC,jl,jk,vH,qA,zT,XR,L2.start,zn,zH,zl,zt,yd,tOp,zc,tC,zb,zj,xx,zp,tB,tIf,zo,zcD,List.map,List.replicate,List.length,List.append,jqa,jqb,jqc,jqd,jqe,jqf,jqg,jqh,jqi,jqj,jqk,jql,jqm,jqn,and_true,true_and,and_assoc,jqo,jqp,jqq,jqr,jqs,jqt,if_true,ite_true,jqu,ite_false,if_false]
 have lc:=O.le
 have lk:=S.le
 refine ⟨_,_,S.R.ix,rfl,a,C,s,S.R,fun H5 s5=>?_⟩
 have S5:=S.same s5
 cases ho:ym C s with
 | true =>
  rw [if_neg (by decide)]
  have l2:=S.I.ok.l2
  have l3:=S.I.ok.l3
  refine ⟨_,_,S5.R.ix,rfl,a,C,s,S5.R,by lia,S.I.ok.nd,by lia,fun H6 z=>(by rw [ho] at z;cases z),fun r o' nl gl out H6 _ s6 fn fg _ hr oc hn hg gi=>?_⟩
  exact q r s H6 (S5.sm.trans s6) ⟨ho,⟨k,S.rc⟩,⟨k,S.le,S.I⟩,Nat.le_trans S.fw S.le⟩ ⟨o',nl,gl,out,hr,oc,hn,hg,gi,yf S5.sm fn,yf S5.sm fg⟩
 | false =>
  rw [if_pos (by decide)]
  refine ⟨fdI t H l tl x a C (vJ rows) (C.length - (k + 1)),fun σ' H' z=>⟨_,?_,z⟩,?_⟩
  ·have:=Zv (C:=C) (s:=s) (by rw [ho];decide)
   have wn:s.why=none:=by
    cases e:s.why with
    | none=>rfl
    | some v=>rw [show ym C s=true by unfold ym;rw [e];rfl] at ho;cases ho
   have:=S.I.at_ wn
   lia
  refine ⟨_,_,S5.R.ix,rfl,a,C,s,S5.R,O.ok,S.I.ok.so,fun H6 ha s6=>?_,fun p q1 H6 ha s6 hq=>?_⟩
  ·have S6:=S5.same s6
   have ew:q8 C (vJ rows) s=0:=by unfold q8;rw [ha]
   refine ⟨_,_,S6.R.ix,rfl,?_⟩
   refine ⟨k,a,C,s,S6.R,O.ok,S.I.ok,by lia,fun H7 k7 R7=>?_⟩
   rw [← ew] at R7
   exact ⟨k + 1,_,rfl,⟨_,rfl⟩,S6.step O ow ho (by rw [ew];rfl) k7 R7⟩
  ·have S6:=S5.same s6
   have ew:q8 C (vJ rows) s=vJ rows p:=by unfold q8;rw [ha]
   refine ⟨_,_,S6.R.ix,rfl,?_⟩
   refine ⟨rows,jn h4 S6.sm,h5,p,hq,fun H7 s7=>?_⟩
   have S7:=S6.same s7
   refine ⟨k,a,C,s,S7.R,O.ok,S.I.ok,by lia,fun H8 k8 R8=>?_⟩
   have R9:RnAt t H8 x a C (xL C (q8 C (vJ rows) s) s):=by rw [ew];exact R8
   exact ⟨k + 1,_,rfl,⟨_,rfl⟩,S7.step O ow ho (by rw [ew];exact VS h6 p) k8 R9⟩
end
def tw6:List V:=[V.str (Str.ofString "plus"),V.str (Str.ofString "minus"),V.str (Str.ofString "rest"),V.str (Str.ofString "under"),V.str (Str.ofString "times"),V.str (Str.ofString "same")]
theorem zc7 (r:Int):∃ w:Str,atI tw6 (r % 6)=some (.str w)∧wdJ w:=by
 obtain ⟨x,hx,hm⟩:=zaC r 6 (xs:=tw6) rfl (by decide)
 unfold tw6 at hm
 simp only [List.mem_cons,List.not_mem_nil,or_false] at hm
 rcases hm with rfl | rfl | rfl | rfl | rfl | rfl <;> exact ⟨_,hx,by decide +kernel,by decide +kernel,by decide +kernel⟩
theorem XD {c j:Int} {a:Addr} {ws:List Str} (h1:0≤j) (h2:j≤700) (h3:NamesAt H a ws) (h4:ws.length=2) (q:∀ p e H',Same H H'→H p=none→H' p=some (.tup e)→TermOk e→tmP e→Q (.ref p) H') :
  kj K t { nx:=fun _ H'=>Q .non H',rt:=Q } (L2.start ["cell","j","slots","slot","kind","words"] [.int c,.int j,.ref a]) H:=by
 simp only [kj,zr,zU,L2.start,zn,zH,zl,zt,zD,tOp,zc,tC,yM,z0,zb,zj,zF,zp,zo,xz,rI,rI0,List.map,List.replicate,List.length,List.append,jqa,jqb,jqc,jqd,jqe,jqf,jqg,jqh,jqi,jqj,jqk,jql,jqm,jqn,and_true,true_and,and_assoc,jqo,jqp,jqq,jqr,jqs,jqt,if_true,ite_true,jqu,ite_false,if_false]
 refine ⟨h1,by lia,fun r1 H1 _ _ s1=>⟨by decide,?_⟩⟩
 obtain ⟨x,hx,_,nx⟩:=qk (h3.same s1) 2 h4 (by decide) r1
 obtain ⟨t1,p1⟩:=Xk (u:=.str x) (.inr ⟨x,rfl,nx⟩)
 refine ⟨_,SqL.of (s1 _ _ h3.1),_,hx,by lia,by lia,fun r2 H2 _ _ s2=>⟨by decide,xN (fun _=>⟨by decide,fun p hp=>?_⟩) fun _=>xN (fun _=>⟨by lia,by lia,fun w H3 hw s3=>⟨by decide,fun p hp=>?_⟩⟩) fun _=>⟨by decide,fun l hl=>⟨by lia,by lia,fun w H3 hw s3=>⟨by lia,by lia,fun r4 H4 _ _ s4=>⟨by decide,?_⟩⟩⟩⟩⟩⟩
 ·have S:=s1.trans s2
  exact q p [.str x] _ (S.trans (isV p hp)) (yf S hp) zd t1 p1
 ·have S:=s1.trans (s2.trans s3)
  obtain ⟨t2,p2⟩:=Xk (u:=.int w) (.inl ⟨w,rfl,hw⟩)
  exact q p [.int w] _ (S.trans (isV p hp)) (yf S hp) zd t2 p2
 ·have s0:=isV (o:=HO.lst tw6) l hl
  have e0:upd H2 l (HO.lst tw6) l=some (.lst tw6):=zd
  obtain ⟨y,hy,jy⟩:=zc7 r4
  refine ⟨tw6,SqL.of ((s3.trans s4) _ _ e0),_,hy,by decide,fun p hp=>?_⟩
  have S:=s1.trans (s2.trans (s0.trans (s3.trans s4)))
  obtain ⟨t2,p2⟩:=Xk (u:=.int w) (.inl ⟨w,rfl,hw⟩)
  exact q p ([.str x] ++ [.int w] ++ [.str y]) _ (S.trans (isV p hp)) (yf S hp) zd (Wl t1 t2 jy (by simp)) (K0 p1 p2 jy)
section
variable {c kd:Int} {a b sp:Addr} {ws:List Str} {sh sl:Str} {e:List V} {Hb:Hp}
theorem Jg (h3:NamesAt H a ws) (h4:ws.length=2) (nsh:xO sh=true) (nsl:xO sl=true) (hp:H sp=some (.tup e)) (te:TermOk e) (pe:tmP e) (S:Same Hb H)
  (q:∀ v r H',Same Hb H'→RwAt yO H' v r→rwV r→Q v H') :
  jx K t { nx:=fun _ H'=>Q .non H',rt:=Q } [some (.int c),some (.ref a),some (.ref b),some (.int kd),some (.str sh),some (.str sl),some (.ref sp)] H:=by
 simp only [jx,yt,zU,L2.start,zn,zt,zD,tOp,zc,tC,z0,zb,zj,zF,zp,zo,rEq,rI0,yA,List.map,List.replicate,List.length,List.append,jqa,jqb,jqc,jqd,jqe,jqf,jqg,jqh,jqi,jqj,jqk,jql,jqm,jqn,and_true,true_and,and_assoc,jqo,jqp,jqq,jqr,jqs,jqt,if_true,ite_true,jqu,ite_false,if_false]
 have inn:∀ {e f:List V},JS nmP (.give sh e f):=fun {e f}=>by unfold JS;exact fun _ _ _=>nsh
 obtain ⟨ts,ps⟩:=Xk (u:=.str sl) (.inr ⟨sl,rfl,nsl⟩)
 refine xN (fun _=>⟨by decide,fun r hr=>?_⟩) fun _=>xN (fun _=>⟨by decide,by decide,ws,h3,h4,fun p2 f H2 s2 fp2 hp2 tf pf=>⟨by decide,fun r hr=>?_⟩⟩) fun _=>xN (fun _=>⟨by decide,by decide,fun w H2 hw s2=>⟨by decide,fun p hp=>⟨by decide,fun r hr=>?_⟩⟩⟩) fun _=>⟨by decide,by decide,ws,h3,h4,fun p f H1 s1 fp hp te pe=>⟨by decide,fun r hr=>?_⟩⟩
 ·exact q _ (.take sh e sl) _ (S.trans (isV r hr)) ⟨r,sp,rfl,trivial,trivial,zd,isV r hr _ _ hp⟩ ⟨trivial,⟨kt nsh,pe,kt nsl⟩,te,by unfold JS;trivial⟩
 ·exact q _ (.give sh e f) _ (S.trans (s2.trans (isV r hr))) ⟨r,sp,p2,rfl,trivial,trivial,trivial,zd,(s2.trans (isV r hr)) _ _ hp,isV r hr _ _ hp2⟩ ⟨trivial,⟨kt nsh,pe,pf⟩,⟨te,tf⟩,inn⟩
 ·have T:=S.trans s2
  have s3:=isV (o:=HO.tup [V.str sl,V.int w,V.str (Str.ofString "same")]) p hp
  have jw:wdJ (Str.ofString "same"):=⟨by decide +kernel,by decide +kernel,by decide +kernel⟩
  obtain ⟨t2,p2⟩:=Xk (u:=.int w) (.inl ⟨w,rfl,hw⟩)
  exact q _ (.off ([.str sl] ++ [.int w] ++ [.str (Str.ofString "same")])) _ (T.trans (s3.trans (isV r hr))) ⟨r,p,rfl,trivial,trivial,zd,isV r hr _ _ zd⟩ ⟨trivial,(by unfold Z9;exact K0 ps p2 jw),(by unfold xQ;exact Wl ts t2 jw (by simp)),by unfold JS;trivial⟩
 ·exact q _ (.lt sl f) _ (S.trans (s1.trans (isV r hr))) ⟨r,p,rfl,trivial,trivial,zd,isV r hr _ _ hp⟩ ⟨trivial,⟨kt nsl,pe⟩,te,by unfold JS;trivial⟩
end
theorem W6 {c:Int} {a b:Addr} {ws us:List Str} (h1:NamesAt H a ws) (h2:ws.length=2) (h3:NamesAt H b us) (h4:us.length=2) (q:∀ v r H',Same H H'→RwAt yO H' v r→rwV r→Q v H') :
  k4 K t { nx:=fun _ H'=>Q .non H',rt:=Q } (L2.start ["cell","slots","shelves","kind","shelf","slot","spot"] [.int c,.ref a,.ref b]) H:=by
 simp only [k4,zr,yt,L2.start,zn,zH,zl,zt,zD,tOp,zc,tC,z0,zb,zj,zF,zp,zo,xz,rEq,rI,rI0,yA,List.map,List.replicate,List.length,List.append,jqa,jqb,jqc,jqd,jqe,jqf,jqg,jqh,jqi,jqj,jqk,jql,jqm,jqn,and_true,true_and,and_assoc,jqo,jqp,jqq,jqr,jqs,jqt,if_true,ite_true,jqu,ite_false,if_false]
 refine ⟨by decide,by decide,fun r1 H1 a1 b1 s1=>⟨by decide,by decide,by decide,fun r2 H2 a2 b2 s2=>⟨by decide,?_⟩⟩⟩
 obtain ⟨x,hx,_,nx⟩:=qk (h3.same (s1.trans s2)) 2 h4 (by decide) r2
 refine ⟨_,SqL.of ((s1.trans s2) _ _ h3.1),_,hx,by decide,by decide,fun r3 H3 a3 b3 s3=>⟨by decide,?_⟩⟩
 have S:=s1.trans (s2.trans s3)
 obtain ⟨y,hy,_,ny⟩:=qk (h1.same S) 2 h2 (by decide) r3
 refine ⟨_,SqL.of (S _ _ h1.1),_,hy,by decide,by decide,fun r4 H4 a4 b4 s4=>⟨by decide,by decide,fun sp hsp=>⟨by decide,by decide,fun r5 H5 _ _ s6=>⟨by decide,?_⟩⟩⟩⟩
 have s5:=isV (o:=HO.tup [V.int (r4 % 3)]) sp hsp
 have e5:upd H4 sp (HO.tup [V.int (r4 % 3)]) sp=some (.tup [V.int (r4 % 3)]):=zd
 have S5:=S.trans (s4.trans (s5.trans s6))
 have lf:lfV (.int (r4 % 3)):=.inl ⟨_,rfl,inW_iff.mpr (by lia)⟩
 refine xN (fun _=>⟨by decide,by decide,ws,h1.same S5,h2,fun p e H6 s7 fp hp te pe=>?_⟩) fun _=>?_
 ·exact Jg (h1.same (S5.trans s7)) h2 nx ny hp te pe (S5.trans s7) q
 ·exact Jg (h1.same S5) h2 nx ny (s6 _ _ e5) (Xk lf).1 (Xk lf).2 S5 q
def ldI (v:V) (xs:List V) (r0:Rws) (H0:Hp) (i:Nat) (σ:St) (H:Hp):Prop:=∃ (d:Nat) (rest:Rws),(∃ o,σ=[some v,some (.int (d:Nat)),o])∧Same H0 H∧RwsAt yO H0 (xs.drop i) rest∧max d rest.deep=r0.deep
theorem qO {vs:List V} {H:Hp} {Q:VK} {E:XK} (h:xg 0 vs H Q E):False:=by
 obtain ⟨v,r,_,_,h,_⟩:=h
 lia
theorem XE {n:Nat} {v:V} {r:Rws} (h1:qE yO H v r) (h2:r.deep < n + 1) (q:∀ H',Same H H'→Q (.int (r.deep:Nat)) H') :
  ki K t n { nx:=fun _ H'=>Q .non H',rt:=Q } (L2.start ["rows","deep","row"] [v]) H:=by
 obtain ⟨p,xs,rfl,_,hp,hx⟩:=h1
 simp only [ki,xg,KJ,L2.start,zv,zn,zH,zl,zt,zD,tOp,zc,tC,zb,zj,yH,zF,zp,tCB,zo,yG,zv,rEq,rI0,yA,List.map,List.replicate,List.length,List.append,jqa,jqb,jqc,jqd,jqe,jqf,jqg,jqh,jqi,jqj,jqk,jql,jqm,jqn,and_true,true_and,and_assoc,jqo,jqp,jqq,jqr,jqs,jqt,if_true,ite_true,jqu,ite_false,if_false]
 refine ⟨⟨_,SqL.of hp⟩,vL xs (ldI (.ref p) xs r H) ⟨0,r,⟨_,rfl⟩,Same.refl _,by rw [List.drop_zero];exact hx,by lia⟩ (fun i σ H' ⟨_,_,_,s,_⟩=>SqL.of (s _ _ hp)) ?_ ?_⟩
 ·rintro i u σ H' hu ⟨d,rest,⟨o,rfl⟩,s,hr,eq⟩
  obtain ⟨x,rs,rfl,rx,rr⟩:=hr.get hu
  have c1:(Rws.cons x rs).deep=max x.deep rs.deep:=by rw [Rws.deep]
  rw [c1] at eq
  obtain ⟨p1,fs,hd,rfl,e2,e3,e4⟩:=KO rx
  simp only [KJ,L2.start,zv,zn,zH,zl,zt,zD,tOp,zc,tC,zb,zj,yH,zF,zp,tCB,zo,yG,zv,rEq,rI0,yA,List.map,List.replicate,List.length,List.append,jqa,jqb,jqc,jqd,jqe,jqf,jqg,jqh,jqi,jqj,jqk,jql,jqm,jqn,and_true,true_and,and_assoc,jqo,jqp,jqq,jqr,jqs,jqt,if_true,ite_true,jqu,ite_false,if_false]
  refine ⟨_,SqT.of (s _ _ e2),_,e3,rfl,?_⟩
  rcases KN x with ⟨e,a,b,rfl⟩ | hni
  ·rw [if_pos (congrArg V.str (e4.mpr (fun z=>z)))]
   have d1:(Rw.iff e a b).deep=max a.deep b.deep + 1:=by rw [Rw.deep]
   rw [d1] at eq
   unfold RwAt at rx
   obtain ⟨r',te,la,lb,ys,zs,er,_,_,_,_,g1,g2,g3,g4,g5,g6⟩:=rx
   cases er
   refine ⟨_,SqT.of (s _ _ g1),_,rfl,a,⟨la,ys,rfl,trivial,s _ _ g3,g4.mono s⟩,by lia,fun H1 s1=>?_⟩
   refine ⟨_,SqT.of ((s.trans s1) _ _ g1),_,rfl,b,⟨lb,zs,rfl,trivial,(s.trans s1) _ _ g5,g6.mono (s.trans s1)⟩,by lia,fun H2 s2=>?_⟩
   refine ⟨if (1 + (if b.deep > a.deep then b.deep else a.deep)) > d then 1 + (if b.deep > a.deep then b.deep else a.deep) else d,rs,⟨some (.ref p1),?_⟩,s.trans (s1.trans s2),rr,?_⟩
   ·congr 3
    refine congrArg V.int ?_
    have e1:(if (b.deep:Int) > a.deep then (b.deep:Int) else a.deep)=((if b.deep > a.deep then b.deep else a.deep:Nat):Int):=by
     split <;> split <;> lia
    rw [e1]
    generalize (if b.deep > a.deep then b.deep else a.deep:Nat)=m
    split <;> split <;> lia
   ·split <;> split <;> lia
  ·rw [if_neg (fun z=>e4.mp (V.str.inj z) hni)]
   have d0:x.deep=0:=by
    cases x with
    | iff e a b=>exact hni.elim
    | _=>simp [Rw.deep]
   exact ⟨d,rs,⟨_,rfl⟩,s,rr,by lia⟩
 ·rintro σ H' ⟨d,rest,⟨o,rfl⟩,s,hr,eq⟩
  have e:=hr.none
  subst e
  rw [show Rws.deep .nil=0 by rw [Rws.deep]] at eq
  have:d=r.deep:=by lia
  subst this
  exact ⟨_,rfl,q H' s⟩
theorem RwsAt.app2 {F:Addr→Prop} {H:Hp} {ys:List V} {s:Rws} (hy:RwsAt F H ys s):∀ (r:Rws) {xs:List V},RwsAt F H xs r→RwsAt F H (xs ++ ys) (r.app s)
 | .nil,xs,h=>by
  unfold RwsAt at h
  subst h
  exact hy
 | .cons r rs,xs,h=>by
  unfold RwsAt at h
  obtain ⟨u,ws,rfl,e2,e3⟩:=h
  show RwsAt F H (u :: (ws ++ ys)) (.cons r (rs.app s))
  unfold RwsAt
  exact ⟨u,ws ++ ys,rfl,e2,RwsAt.app2 hy rs e3⟩
theorem Wn (x:Rw):∀ (r:Rws),jq (r.snoc x)=jq r + gvR x
 | .nil=>by show jq (.cons x .nil)=_;simp [jq]
 | .cons y r=>by
  show jq (.cons y (r.snoc x))=_
  rw [jq,jq,Wn x r];lia
structure RwB (r:Rws) (d g z:Nat):Prop where
 dp:r.deep≤d
 pl:xM r
 ok:yX r
 gv:jq r≤g
 sz:vI r≤z
theorem RwB.snoc {r:Rws} {x:Rw} {d g z g1 z1:Nat} (h:RwB r d g z) (hd:x.deep≤d) (hp:Z9 x) (ho:xQ x) (hg:gvR x≤g1) (hz:szR x≤z1):RwB (r.snoc x) d (g + g1) (z + z1) :=
 ⟨by have:=h.dp;rw [Wc];lia,KI hp r h.pl,KH ho r h.ok,by have:=h.gv;rw [Wn];lia,by have:=h.sz;rw [Wm];lia⟩
theorem RwB.app {s:Rws} {d g z:Nat} (hs:RwB s d g z):∀ (r:Rws) {g1 z1:Nat},RwB r d g1 z1→RwB (r.app s) d (g1 + g) (z1 + z)
 | .nil,g1,z1,h=>⟨hs.dp,hs.pl,hs.ok,Nat.le_trans hs.gv (Nat.le_add_left ..),Nat.le_trans hs.sz (Nat.le_add_left ..)⟩
 | .cons x r,g1,z1,h=>by
  have dp:=h.dp
  have pl:=h.pl
  have ok:=h.ok
  have gv:=h.gv
  have sz:=h.sz
  rw [show (Rws.cons x r).deep=max x.deep r.deep by rw [Rws.deep]] at dp
  unfold xM at pl
  unfold yX at ok
  rw [jq] at gv
  rw [vI] at sz
  have k:=RwB.app hs r (g1:=jq r) (z1:=vI r) ⟨by lia,pl.2,ok.2,Nat.le_refl _,Nat.le_refl _⟩
  show RwB (.cons x (r.app s)) d (g1 + g) (z1 + z)
  have kd:=k.dp
  have kg:=k.gv
  have kz:=k.sz
  refine ⟨?_,?_,?_,?_,?_⟩
  ·rw [show (Rws.cons x (r.app s)).deep=max x.deep (r.app s).deep by rw [Rws.deep]];lia
  ·unfold xM;exact ⟨pl.1,k.pl⟩
  ·unfold yX;exact ⟨ok.1,k.ok⟩
  ·rw [jq];lia
  ·rw [vI];lia
theorem W7 {d:Nat}:RwB .nil d 0 0:=⟨by rw [Rws.deep];lia,by unfold xM;trivial,by unfold yX;trivial,by rw [jq];lia,by rw [vI];lia⟩
theorem rwV.gv {r:Rw} (h:rwV r):gvR r≤1:=by
 have:=h.ni
 cases r with
 | iff e a b=>exact this.elim
 | _=>simp [gvR]
def lrI (p sa sb:Addr) (H0:Hp) (i:Nat) (σ:St) (H:Hp):Prop:=∃ (lr lb:Addr) (xs ys:List V) (R B:Rws) (g1 g2 z1 z2:Nat),(∃ o5 o6,σ=[some (.ref p),some (.ref sa),some (.ref sb),some (.ref lr),some (.ref lb),o5,o6])∧Same H0 H∧H lr=some (.lst xs)∧H lb=some (.lst ys)∧RwsAt yO H xs R∧RwsAt yO H ys B∧RwB R 5 g1 z1∧RwB B 0 g2 z2∧g1 + g2≤i∧z1 + z2≤2 * i
section
variable {p sa sb:Addr} {ws us:List Str} {ns:List Int}
theorem RwB.lens {xs:List V} {r:Rws} {d g z:Nat} (h:RwB r d g z) (a:RwsAt yO H xs r):xs.length≤z:=by
 have a1:=RwsAt.len r a
 have a2:=(jT r 0).2
 have a3:=h.sz
 lia
def lrS (p sa sb lr lb:Addr) (u:Int) (o:Option V):St:=[some (.ref p),some (.ref sa),some (.ref sb),some (.ref lr),some (.ref lb),some (.int u),o]
theorem zbW {i:Nat} {u:Int} {D:ZE} {lr lb:Addr} {xs ys:List V} {R B:Rws} {g1 g2 z1 z2:Nat} {H0:Hp} {o:Option V} (h3:NamesAt H0 sa ws) (h4:ws.length=2) (s:Same H0 H) (h1:H lr=some (.lst xs)) (h2:H lb=some (.lst ys)) (rx:RwsAt yO H xs R) (ry:RwsAt yO H ys B) (bR:RwB R 5 g1 z1) (bB:RwB B 0 g2 z2) (hg:g1 + g2≤i) (hz:z1 + z2≤2 * i) (hd:R.deep < 5) (q:∀ σ H',lrI p sa sb H0 (i + 1) σ H'→D.nx σ H') :
  v6 K t D (lrS p sa sb lr lb u o) H:=by
 simp only [v6,lrS,yt,L2.start,zn,zH,zl,zc,tC,yM,z0,zb,zj,zo,List.map,List.replicate,List.length,List.append,jqa,jqb,jqc,jqd,jqe,jqf,jqg,jqh,jqi,jqj,jqk,jql,jqm,jqn,and_true,true_and,and_assoc,jqo,jqp,jqq,jqr,jqs,jqt,if_true,ite_true,jqu,ite_false,if_false]
 refine ⟨by decide,by decide,ws,h3.same s,h4,fun pt e H1 s1 fp hp te pe=>⟨by decide,fun r hr=>⟨by decide,fun l hl=>⟨by decide,fun l2 hl2=>q _ _ ?_⟩⟩⟩⟩
 have s2:=isV (o:=HO.tup [V.str (Str.ofString "if"),V.ref pt,V.ref lr,V.ref lb]) r hr
 have e2:upd H1 r (HO.tup [V.str (Str.ofString "if"),V.ref pt,V.ref lr,V.ref lb]) r=some (.tup [V.str (Str.ofString "if"),V.ref pt,V.ref lr,V.ref lb]):=zd
 generalize upd H1 r (HO.tup [V.str (Str.ofString "if"),V.ref pt,V.ref lr,V.ref lb])=H2 at *
 have s3:=isV (o:=HO.lst [V.ref r]) l hl
 have e3:upd H2 l (HO.lst [V.ref r]) l=some (.lst [V.ref r]):=zd
 generalize upd H2 l (HO.lst [V.ref r])=H3 at *
 have s4:=isV (o:=HO.lst []) l2 hl2
 have e4:upd H3 l2 (HO.lst []) l2=some (.lst []):=zd
 generalize upd H3 l2 (HO.lst [])=H4 at *
 have U:=s2.trans (s3.trans s4)
 have W:=s1.trans U
 have d1:(Rw.iff e R B).deep=max R.deep B.deep + 1:=by rw [Rw.deep]
 have b0:=bB.dp
 refine ⟨l,l2,[.ref r],[],.cons (.iff e R B) .nil,.nil,max g1 g2,0,z1 + z2 + 2,0,⟨_,_,rfl⟩,s.trans W,s4 _ _ e3,e4,?_,by unfold RwsAt;rfl,⟨?_,?_,?_,?_,?_⟩,W7,by lia,by lia⟩
 ·unfold RwsAt
  refine ⟨_,_,rfl,?_,by unfold RwsAt;rfl⟩
  unfold RwAt
  exact ⟨r,pt,lr,lb,xs,ys,rfl,trivial,trivial,trivial,trivial,(s3.trans s4) _ _ e2,U _ _ hp,W _ _ h1,rx.mono W,W _ _ h2,ry.mono W⟩
 ·simp only [Rws.deep,Rw.deep];lia
 ·unfold xM Z9
  exact ⟨⟨pe,bR.pl,bB.pl⟩,by unfold xM;trivial⟩
 ·unfold yX xQ
  exact ⟨⟨te,bR.ok,bB.ok⟩,by unfold yX;trivial⟩
 ·have a1:=bR.gv
  have a2:=bB.gv
  rw [jq,gvR,jq];lia
 ·have a1:=bR.sz
  have a2:=bB.sz
  rw [vI,szR,vI];lia
theorem zbX {i:Nat} {u:Int} {D:ZE} {lr lb:Addr} {xs ys:List V} {R B:Rws} {g1 g2 z1 z2:Nat} {H0:Hp} {o:Option V} (h3:NamesAt H0 sa ws) (h4:ws.length=2) (h5:NamesAt H0 sb us) (h6:us.length=2) (s:Same H0 H) (h1:H lr=some (.lst xs)) (h2:H lb=some (.lst ys)) (rx:RwsAt yO H xs R) (ry:RwsAt yO H ys B) (bR:RwB R 5 g1 z1) (bB:RwB B 0 g2 z2) (hg:g1 + g2≤i) (hz:z1 + z2≤2 * i) (hi:i < 14) (q:∀ σ H',lrI p sa sb H0 (i + 1) σ H'→D.nx σ H') :
  v5 K t D (lrS p sa sb lr lb u o) H:=by
 simp only [v5,lrS,yt,w6,xA,L2.start,zH,zl,tOp,zc,tC,yM,z0,zb,zj,zo,xA,rI0,List.map,List.replicate,List.length,List.append,jqa,jqb,jqc,jqd,jqe,jqf,jqg,jqh,jqi,jqj,jqk,jql,jqm,jqn,and_true,true_and,and_assoc,jqo,jqp,jqq,jqr,jqs,jqt,if_true,ite_true,jqu,ite_false,if_false]
 refine ⟨by decide,by decide,ws,h3.same s,h4,fun pt e H1 s1 fp hp te pe=>⟨by decide,fun r hr=>?_⟩⟩
 have s2:=isV (o:=HO.tup [V.str (Str.ofString "say"),V.ref pt]) r hr
 have e2:upd H1 r (HO.tup [V.str (Str.ofString "say"),V.ref pt]) r=some (.tup [V.str (Str.ofString "say"),V.ref pt]):=zd
 generalize upd H1 r (HO.tup [V.str (Str.ofString "say"),V.ref pt])=H2 at *
 have S2:=s.trans (s1.trans s2)
 refine ⟨ws,h3.same S2,h4,us,h5.same S2,h6,fun v x H3 s3 hx vx=>⟨by decide,fun l hl=>?_⟩⟩
 have s4:=isV (o:=HO.lst [V.ref r,v]) l hl
 have e4:upd H3 l (HO.lst [V.ref r,v]) l=some (.lst [V.ref r,v]):=zd
 generalize upd H3 l (HO.lst [V.ref r,v])=H4 at *
 have ly:=bB.lens ry
 have W:=s1.trans (s2.trans (s3.trans s4))
 refine ⟨_,W _ _ h2,_,e4,Nat.le_trans (by show ys.length + 2≤100;lia) (by decide),fun l5 hl5=>q _ _ ?_⟩
 have s5:=isV (o:=HO.lst (ys ++ [V.ref r,v])) l5 hl5
 have e5:upd H4 l5 (HO.lst (ys ++ [V.ref r,v])) l5=some (.lst (ys ++ [V.ref r,v])):=zd
 generalize upd H4 l5 (HO.lst (ys ++ [V.ref r,v]))=H5 at *
 have W5:=W.trans s5
 have U:=s3.trans (s4.trans s5)
 have hs:RwAt yO H5 (.ref r) (.say e):=by unfold RwAt;exact ⟨r,pt,rfl,trivial,trivial,U _ _ e2,(s2.trans U) _ _ hp⟩
 have vd:=vx.deep
 have b1:=bB.snoc (x:=.say e) (g1:=0) (z1:=1) (by simp [Rw.deep]) (by unfold Z9;exact pe) (by unfold xQ;exact te) (by simp [gvR]) (by simp [szR])
 have b2:=b1.snoc (x:=x) (g1:=1) (z1:=1) (by lia) vx.pl vx.ok vx.gv (by lia)
 refine ⟨lr,l5,xs,ys ++ [.ref r,v],R,(B.snoc (.say e)).snoc x,g1,_,z1,_,⟨_,_,rfl⟩,s.trans W5,W5 _ _ h1,e5,rx.mono W5,?_,bR,b2,by lia,by lia⟩
 have a1:=RwsAt.snoc hs B (ry.mono W5)
 have a2:=RwsAt.snoc (hx.mono (s4.trans s5)) _ a1
 rw [List.append_assoc] at a2
 exact a2
theorem zbY {i:Nat} {u:Int} {D:ZE} {lr lb:Addr} {xs ys:List V} {R B:Rws} {g1 g2 z1 z2:Nat} {H0:Hp} {o:Option V} (h3:NamesAt H0 sa ws) (h4:ws.length=2) (h5:NamesAt H0 sb us) (h6:us.length=2) (s:Same H0 H) (h1:H lr=some (.lst xs)) (h2:H lb=some (.lst ys)) (rx:RwsAt yO H xs R) (ry:RwsAt yO H ys B) (bR:RwB R 5 g1 z1) (bB:RwB B 0 g2 z2) (hg:g1 + g2≤i) (hz:z1 + z2≤2 * i) (hi:i < 14) (q:∀ σ H',lrI p sa sb H0 (i + 1) σ H'→D.nx σ H') :
  wm K t D (lrS p sa sb lr lb u o) H:=by
 simp only [wm,lrS,w6,xA,L2.start,zH,zl,tOp,zc,yM,zb,zj,zo,xA,List.map,List.replicate,List.length,List.append,jqa,jqb,jqc,jqd,jqe,jqf,jqg,jqh,jqi,jqj,jqk,jql,jqm,jqn,and_true,true_and,and_assoc,jqo,jqp,jqq,jqr,jqs,jqt,if_true,ite_true,jqu,ite_false,if_false]
 refine ⟨ws,h3.same s,h4,us,h5.same s,h6,fun v x H3 s3 hx vx=>⟨by decide,fun l hl=>?_⟩⟩
 have s4:=isV (o:=HO.lst [v]) l hl
 have e4:upd H3 l (HO.lst [v]) l=some (.lst [v]):=zd
 generalize upd H3 l (HO.lst [v])=H4 at *
 have lx:=bR.lens rx
 have W:=s3.trans s4
 refine ⟨_,W _ _ h1,_,e4,Nat.le_trans (by show xs.length + 1≤100;lia) (by decide),fun l5 hl5=>q _ _ ?_⟩
 have s5:=isV (o:=HO.lst (xs ++ [v])) l5 hl5
 have e5:upd H4 l5 (HO.lst (xs ++ [v])) l5=some (.lst (xs ++ [v])):=zd
 generalize upd H4 l5 (HO.lst (xs ++ [v]))=H5 at *
 have W5:=W.trans s5
 have vd:=vx.deep
 have b2:=bR.snoc (x:=x) (g1:=1) (z1:=1) (by lia) vx.pl vx.ok vx.gv (by lia)
 exact ⟨l5,lb,xs ++ [v],ys,R.snoc x,B,_,g2,_,z2,⟨_,_,rfl⟩,s.trans W5,e5,W5 _ _ h2,RwsAt.snoc (hx.mono (s4.trans s5)) R (rx.mono W5),ry.mono W5,b2,bB,by lia,by lia⟩
theorem zbZ {i:Nat} {u k:Int} {D:ZE} {lr lb:Addr} {xs ys:List V} {R B:Rws} {g1 g2 z1 z2:Nat} {H0:Hp} (h3:NamesAt H0 sa ws) (h4:ws.length=2) (h5:NamesAt H0 sb us) (h6:us.length=2) (s:Same H0 H) (h1:H lr=some (.lst xs)) (h2:H lb=some (.lst ys)) (rx:RwsAt yO H xs R) (ry:RwsAt yO H ys B) (bR:RwB R 5 g1 z1) (bB:RwB B 0 g2 z2) (hg:g1 + g2≤i) (hz:z1 + z2≤2 * i) (hi:i < 14) (q:∀ σ H',lrI p sa sb H0 (i + 1) σ H'→D.nx σ H') :
  wp K t D (lrS p sa sb lr lb u (some (.int k))) H:=by
 simp only [wp,lrS,xA,L2.start,zH,zl,tOp,zc,tC,yM,z0,zb,zj,zF,Vj,zp,tCB,zo,vS,xA,rEq,rI0,xP,yA,List.map,List.replicate,List.length,List.append,jqa,jqb,jqc,jqd,jqe,jqf,jqg,jqh,jqi,jqj,jqk,jql,jqm,jqn,and_true,true_and,and_assoc,jqo,jqp,jqq,jqr,jqs,jqt,if_true,ite_true,jqu,ite_false,if_false]
 have G:wm K t D (lrS p sa sb lr lb u (some (.int k))) H:=zbY h3 h4 h5 h6 s h1 h2 rx ry bR bB hg hz hi q
 refine xN (fun _=>⟨_,.inl ⟨_,SqL.of h2,rfl⟩,xN (fun _=>?_) fun _=>G⟩) fun _=>G
 exact zbX h3 h4 h5 h6 s h1 h2 rx ry bR bB hg hz hi q
theorem zb0 {i:Nat} {u:Int} {D:ZE} {lr lb:Addr} {xs ys:List V} {R B:Rws} {g1 g2 z1 z2:Nat} {H0:Hp} {o:Option V} (h3:NamesAt H0 sa ws) (h4:ws.length=2) (h5:NamesAt H0 sb us) (h6:us.length=2) (s:Same H0 H) (h1:H lr=some (.lst xs)) (h2:H lb=some (.lst ys)) (rx:RwsAt yO H xs R) (ry:RwsAt yO H ys B) (bR:RwB R 5 g1 z1) (bB:RwB B 0 g2 z2) (hg:g1 + g2≤i) (hz:z1 + z2≤2 * i) (hi:i < 14) (q:∀ σ H',lrI p sa sb H0 (i + 1) σ H'→D.nx σ H') :
  v7 K t D (lrS p sa sb lr lb u o) H:=by
 simp only [v7,lrS,zr,xg,xA,Y3,L2.start,zn,zH,zl,tOp,zc,tC,yM,z0,zb,zj,zF,Vj,zp,tCB,zo,vS,xA,rEq,rI,rI0,rIn,xP,yA,List.map,List.replicate,List.length,List.append,jqa,jqb,jqc,jqd,jqe,jqf,jqg,jqh,jqi,jqj,jqk,jql,jqm,jqn,and_true,true_and,and_assoc,jqo,jqp,jqq,jqr,jqs,jqt,if_true,ite_true,jqu,ite_false,if_false]
 refine ⟨by decide,by decide,fun r1 H1 _ _ s1=>⟨by decide,by decide,fun T hT=>⟨_,.inr (SqT.of zd),rfl,rfl,?_⟩⟩⟩
 have s2:=isV (o:=HO.tup [V.int 13,V.int 14]) T hT
 generalize upd H1 T (HO.tup [V.int 13,V.int 14])=H2 at *
 have el:∀ {H3:Hp},Same H2 H3→wp K t D (lrS p sa sb lr lb u (some (.int (r1 % 16)))) H3:=fun {H3} s3 =>
  let W:=s1.trans (s2.trans s3)
  zbZ h3 h4 h5 h6 (s.trans W) (W _ _ h1) (W _ _ h2) (rx.mono W) (ry.mono W) bR bB hg hz hi q
 refine xN (fun _=>⟨by decide,fun l0 hl0=>?_⟩) fun _=>el (Same.refl _)
 have s3:=isV (o:=HO.lst []) l0 hl0
 have e3:upd H2 l0 (HO.lst []) l0=some (.lst []):=zd
 generalize upd H2 l0 (HO.lst [])=H3 at *
 have W:=s1.trans (s2.trans s3)
 refine ⟨xs,SqL.of (W _ _ h1),SqL.of e3,xN (fun _=>?_) fun _=>el s3⟩
 have b0:=bR.dp
 refine ⟨R,⟨lr,xs,rfl,trivial,W _ _ h1,rx.mono W⟩,by lia,fun H4 s4=>xN (fun c=>?_) fun _=>el (s3.trans s4)⟩
 have W4:=W.trans s4
 exact zbW h3 h4 (s.trans W4) (W4 _ _ h1) (W4 _ _ h2) (rx.mono W4) (ry.mono W4) bR bB hg hz (by lia) q
theorem XG (h1:H p=some (.lst (ns.map V.int))) (h2:ns.length≤14) (h3:NamesAt H sa ws) (h4:ws.length=2) (h5:NamesAt H sb us) (h6:us.length=2) (q:∀ v r H',Same H H'→qE yO H' v r→RwA r 14→Q v H') :
  km K t { nx:=fun _ H'=>Q .non H',rt:=Q } (L2.start ["cells","slots","shelves","rows","block","cell","kind"] [.ref p,.ref sa,.ref sb]) H:=by
 simp only [km,k9,xA,Y3,L2.start,zn,zH,zl,zt,tOp,zc,tC,yM,z0,zb,zj,yH,zF,Vj,zp,tCB,zo,vS,yG,xA,rEq,rI,rI0,rIn,xP,yA,List.map,List.replicate,List.length,List.append,jqa,jqb,jqc,jqd,jqe,jqf,jqg,jqh,jqi,jqj,jqk,jql,jqm,jqn,and_true,true_and,and_assoc,jqo,jqp,jqq,jqr,jqs,jqt,if_true,ite_true,jqu,ite_false,if_false]
 refine ⟨by decide,fun lr hlr=>⟨by decide,fun lb hlb=>?_⟩⟩
 have s1:=isV (o:=HO.lst []) lr hlr
 have e1:upd H lr (HO.lst []) lr=some (.lst []):=zd
 generalize upd H lr (HO.lst [])=H1 at *
 have s2:=isV (o:=HO.lst []) lb hlb
 have e2:upd H1 lb (HO.lst []) lb=some (.lst []):=zd
 generalize upd H1 lb (HO.lst [])=H2 at *
 have S:=s1.trans s2
 have nl:∀ {H:Hp},RwsAt yO H [] .nil:=by intro H;unfold RwsAt;rfl
 refine ⟨⟨_,SqL.of (S _ _ h1)⟩,vL (ns.map V.int) (lrI p sa sb H) ⟨lr,lb,[],[],.nil,.nil,0,0,0,0,⟨_,_,rfl⟩,S,s2 _ _ e1,e2,nl,nl,W7,W7,Nat.le_refl _,Nat.le_refl _⟩ (fun i σ H' ⟨_,_,_,_,_,_,_,_,_,_,_,s,_⟩=>SqL.of (s _ _ h1)) ?_ ?_⟩
 ·rintro i v σ H' hv ⟨lr,lb,xs,ys,R,B,g1,g2,z1,z2,⟨o5,o6,rfl⟩,s,h1,h2,rx,ry,bR,bB,hg,hz⟩
  obtain ⟨u,hu,rfl⟩:∃ u,u∈ns∧V.int u=v:=List.mem_map.mp (List.mem_of_getElem? hv)
  have li:=(List.getElem?_eq_some_iff.mp hv).1
  rw [List.length_map] at li
  exact zb0 h3 h4 h5 h6 s h1 h2 rx ry bR bB hg hz (by lia) fun σ H' h=>h
 ·rintro σ H' ⟨lr,lb,xs,ys,R,B,g1,g2,z1,z2,⟨o5,o6,rfl⟩,s,h1,h2,rx,ry,bR,bB,hg,hz⟩
  rw [List.length_map] at hg hz
  have lx:=bR.lens rx
  have ly:=bB.lens ry
  simp only [xA,Y3,L2.start,zn,zH,zl,zt,tOp,zc,tC,yM,z0,zb,zj,yH,zF,Vj,zp,tCB,zo,vS,yG,xA,rEq,rI,rI0,rIn,xP,yA,List.map,List.replicate,List.length,List.append,jqa,jqb,jqc,jqd,jqe,jqf,jqg,jqh,jqi,jqj,jqk,jql,jqm,jqn,and_true,true_and,and_assoc,jqo,jqp,jqq,jqr,jqs,jqt,if_true,ite_true,jqu,ite_false,if_false]
  refine ⟨xs,h1,ys,h2,Nat.le_trans (by lia:xs.length + ys.length≤100) (by decide),fun l hl=>?_⟩
  have s3:=isV (o:=HO.lst (xs ++ ys)) l hl
  have k:=RwB.app (s:=B) (d:=5) ⟨by have:=bB.dp;lia,bB.pl,bB.ok,bB.gv,bB.sz⟩ R bR
  have kg:=k.gv
  have kz:=k.sz
  exact q _ (R.app B) _ (s.trans s3) ⟨l,_,rfl,trivial,zd,RwsAt.app2 (ry.mono s3) R (rx.mono s3)⟩ ⟨k.dp,k.pl,k.ok,by lia,by lia⟩
end
theorem ql {H H':Hp} (s:Same H H') {xs:List V} {rows:List Row} (h:Paired (PrAt H) xs rows):Paired (PrAt H') xs rows:=Paired.mapP h fun _ _ ⟨r,p,e,h1,h2⟩=>⟨r,p,e,s _ _ h1,s _ _ h2⟩
def cIt (its:List Row) (i:Nat) (ys:List V) (H:Hp):Prop:=Paired (PrAt H) ys ((its.take i).filter fun r=>decide (r.2≠0))
theorem Yg {d:Addr} {rows:List Row} (h1:H d=some (.dT (dOf rows))) (h2:(dOf rows).length≤63) (q:∀ l out H',Same H H'→H l=none→LsAt H' l out→vC rows out→Q (.ref l) H') :
  ja K t { nx:=fun _ H'=>Q .non H',rt:=Q } (L2.start ["worths"] [.ref d]) H:=by
 simp only [ja,VV,zaz,L2.start,zl,jJ,xu,jI,zt,tOp,zc,tC,z0,zb,zj,zp,tCB,vA,qD,rNe,yA,List.map,List.replicate,List.length,List.append,jqa,jqb,jqc,jqd,jqe,jqf,jqg,jqh,jqi,jqj,jqk,jql,jqm,jqn,and_true,true_and,and_assoc,jqo,jqp,jqq,jqr,jqs,jqt,if_true,ite_true,jqu,ite_false,if_false]
 obtain ⟨its,ei,nd,mi⟩:=JR rows
 have li:its.length=(dOf rows).length:=by rw [ei,List.length_map]
 refine ⟨d,_,dOf rows,h1,.inl rfl,fun o=>?_⟩
 have f1:upd H d (.frz o (.dT (dOf rows))) d=some (.frz o (.dT (dOf rows))):=zd
 have back:∀ {H':Hp},Same (upd H d (.frz o (.dT (dOf rows)))) H'→Same H (upd H' d (.dT (dOf rows))):=fun {H'} s b u e=>by
  by_cases c:b=d
  ·subst c
   rw [h1] at e
   cases e
   exact zd
  ·rw [zk c]
   exact s b u (by rw [zk c];exact e)
 have fr0:∀ {b:Addr},upd H d (.frz o (.dT (dOf rows))) b=none→H b=none∧b≠d:=fun {b} e=>by
  by_cases c:b=d
  ·subst c;rw [f1] at e;cases e
  ·rw [zk c] at e;exact ⟨e,c⟩
 generalize upd H d (.frz o (.dT (dOf rows)))=H1 at *
 simp only [VV,zaz,L2.start,zl,jJ,xu,jI,zt,tOp,zc,tC,z0,zb,zj,zp,tCB,vA,qD,rNe,yA,List.map,List.replicate,List.length,List.append,jqa,jqb,jqc,jqd,jqe,jqf,jqg,jqh,jqi,jqj,jqk,jql,jqm,jqn,and_true,true_and,and_assoc,jqo,jqp,jqq,jqr,jqs,jqt,if_true,ite_true,jqu,ite_false,if_false]
 refine ⟨_,_,f1,fun D hD=>?_⟩
 refine V7 (J:=Itm d o (dOf rows)) its.length (by lia) (fun τ=>∃ o1 o2,τ=[o1,o2]) (cIt its) (fun i ys H H' s h=>je s h) ⟨_,_,rfl⟩ .nil (fun i H s h=>⟨s _ _ f1,by lia⟩) (fun H s=>⟨s _ _ f1,by lia⟩) hD ?_ ?_
 ·rintro i v τ ys H4 H5 ⟨x,y,rfl⟩ s4 hi hR ⟨T,k,v',p,hk,rfl,hT,hp,rfl⟩
  have hit:its[i]?=some its[i]:=List.getElem?_eq_getElem hi
  rw [ei,List.getElem?_map,hit] at hk
  obtain ⟨ek,ev⟩:=Prod.mk.inj (Option.some.inj hk)
  have s5:=isV (o:=HO.tup [V.ref p,v']) T hT
  simp only [VV,zaz,L2.start,zl,jJ,xu,jI,zt,tOp,zc,tC,z0,zb,zj,zp,tCB,vA,qD,rNe,yA,List.map,List.replicate,List.length,List.append,jqa,jqb,jqc,jqd,jqe,jqf,jqg,jqh,jqi,jqj,jqk,jql,jqm,jqn,and_true,true_and,and_assoc,jqo,jqp,jqq,jqr,jqs,jqt,if_true,ite_true,jqu,ite_false,if_false]
  subst ek ev
  have tk:its.take (i + 1)=its.take i ++ [its[i]]:=by rw [List.take_add_one,hit];rfl
  refine ⟨_,SqT.of zd,rfl,_,_,rfl,_,_,rfl,rfl,rfl,xN (fun c=>⟨by decide,fun p2 hp2=>⟨⟨_,rfl⟩,?_,s5.trans (isV p2 hp2)⟩⟩) fun c=>⟨⟨_,rfl⟩,?_,s5⟩⟩
  ·have hw0:its[i].2≠0:=fun z=>c (by rw [z])
   unfold cIt at hR ⊢
   rw [tk,List.filter_append,show [its[i]].filter (fun r:Row=>decide (r.2≠0))=[its[i]] by rw [List.filter_cons,if_pos (decide_eq_true hw0)];rfl]
   have s6:=s5.trans (isV (o:=HO.tup [V.ref p,V.int its[i].2]) p2 hp2)
   exact Paired.snocP (ql s6 hR) ⟨p2,p,rfl,zd,s6 _ _ hp⟩
  ·have hw0:its[i].2=0:=by simpa using c
   unfold cIt at hR ⊢
   rw [tk,List.filter_append,show [its[i]].filter (fun r:Row=>decide (r.2≠0))=[] by rw [List.filter_cons,if_neg (by rw [decide_eq_true_eq];exact fun z=>z hw0)];rfl,List.append_nil]
   exact ql s5 hR
 ·rintro ys H4 hly hR s4 hq
  have hR:Paired (PrAt H4) ys (its.filter fun r=>decide (r.2≠0)):=by
   unfold cIt at hR
   rw [List.take_length] at hR;exact hR
  have nd2:((its.filter fun r=>decide (r.2≠0)).map (·.1)).Nodup:=List.Nodup.sublist ((List.filter_sublist (l:=its)).map _) nd
  have ln2:=List.length_filter_le (fun r:Row=>decide (r.2≠0)) its
  refine ⟨_,SqL.of hq,_,hR,nd2,by lia,fun l zs srt H5 s5 fl hl hs ris perm=>?_⟩
  have f5:=(s4.trans s5) _ _ f1
  have fl1:=fr0 (yf s4 fl)
  refine ⟨f5,q l srt _ (back (s4.trans s5)) fl1.1 ⟨zs,by rw [zk fl1.2];exact hl,je (fun b us e=>by rw [zk (fun z=>by rw [z,f5] at e;cases e)];exact e) hs⟩ ⟨ris,fun p w=>?_⟩⟩
  rw [perm.mem_iff,List.mem_filter,mi p w,decide_eq_true_eq]
theorem zc8 {rows:List Row} {p:Pl} {w:Int} (h:∀ r∈rows,xV r) (e:zu rows p=some w):xV (p,w):=h _ (Je e)
theorem W8 {rows out:List Row} (h:vC rows out):out.length≤(dOf rows).length:=by
 have h1:=zbv h
 have h2:=List.length_filter_le nzV (dOf rows)
 lia
theorem Xn {rows out:List Row} (h:vC rows out) (v:∀ r∈rows,xV r):∀ r∈out,xV r:=fun r hr=>zc8 v ((h.2 r.1 r.2).mp hr).1
theorem Yh {w c:Int} (h:inW w=true) (q:∀ i H',inW i=true→Same H H'→Q (.int i) H') :
  jb K t { nx:=fun _ H'=>Q .non H',rt:=Q } (L2.start ["worth","cell","other"] [.int w,.int c]) H:=by
 simp only [jb,zU,L2.start,zn,zH,zl,zt,zD,tOp,zc,tC,zb,zj,zF,zp,zo,rNe,rI0,yA,List.map,List.replicate,List.length,List.append,jqa,jqb,jqc,jqd,jqe,jqf,jqg,jqh,jqi,jqj,jqk,jql,jqm,jqn,and_true,true_and,and_assoc,jqo,jqp,jqq,jqr,jqs,jqt,if_true,ite_true,jqu,ite_false,if_false]
 have hw:=inW_iff.mp h
 refine ⟨by decide,by decide,fun i H1 hi s1=>xN (fun _=>q _ _ hi s1) fun _=>xN (fun c=>q _ _ (inW_iff.mpr ?_) s1) fun c=>q _ _ (inW_iff.mpr ?_) s1⟩
 ·lia
 ·lia
theorem ZC {r nl gl:Addr} {o:V} {no gi:List Row} (h1:H r=some (.tup [o,.ref nl,.ref gl])) (h2:LsAt H nl no) (h3:LsAt H gl gi) (q:∀ H',Same H H'→Q (.bl true) H') :
  wN K t { nx:=fun _ H'=>Q .non H',rt:=Q } (L2.start ["paper"] [.ref r]) H:=by
 obtain ⟨xs,hx,_⟩:=h2
 obtain ⟨ys,hy,_⟩:=h3
 simp only [wN,L2.start,zv,zt,tOp,zc,tC,zb,zj,kx,tCB,vS,zv,rEq,xP,Zm,yA,List.map,List.replicate,List.length,List.append,jqa,jqb,jqc,jqd,jqe,jqf,jqg,jqh,jqi,jqj,jqk,jql,jqm,jqn,and_true,true_and,and_assoc,jqo,jqp,jqq,jqr,jqs,jqt,if_true,ite_true,jqu,ite_false,if_false]
 have F:=kf K
 refine ⟨_,.tup h1,true,by with_unfolding_all rfl,?_⟩
 rw [if_pos rfl]
 refine ⟨3,.inr ⟨_,SqT.of h1,rfl⟩,?_⟩
 rw [if_pos (by decide)]
 refine ⟨_,SqT.of h1,_,rfl,_,.lst hx,true,by with_unfolding_all rfl,?_⟩
 rw [if_pos rfl]
 exact ⟨_,SqT.of h1,_,rfl,_,.lst hy,true,by with_unfolding_all rfl,q _ (Same.refl _)⟩
theorem ZD {H1:Hp} {d p:Addr} {rows:List Row} {q:Row} (hd:H1 d=some (.dT (dOf rows))) (hp:H1 p=some (.tup [.str q.1.1,.int q.1.2])) (hl:rows.length≤1000):DPut H1 d (.ref p) (.int q.2) (upd H1 d (.dT (dOf (rows ++ [q])))):=by
 rw [jP]
 have:=xb rows
 exact DPut.t (k:=zP q.1) hd hp (Nat.lt_of_le_of_lt (by lia:(dOf rows).length≤1000) (by decide))
theorem zdH {a b:Int} (h1:0≤a) (h2:a≤1000) (h3:0≤b) (h4:b≤1000):CMulB a b:=by
 have hb:(1000:Int) < big:=by decide +kernel
 unfold CMulB
 lia
def tbI (c:Int) (b d:Addr) (H0:Hp) (i:Nat) (σ:St) (H:Hp):Prop:=∃ xs:List Row,(∃ o3,σ=[some (.int c),some (.ref b),some (.ref d),o3])∧Same H0 H∧H d=some (.dT (dOf xs))∧(∀ r∈xs,xV r)∧xs.length=i
theorem Xo {c:Int} {b:Addr} {us:List Str} (h1:NamesAt H b us) (h2:us.length=2) (q:∀ l out H',Same H H'→LsAt H' l out→out.length≤6→(∀ r∈out,xV r)→Q (.ref l) H') :
  jG K t { nx:=fun _ H'=>Q .non H',rt:=Q } (L2.start ["cell","shelves","worths","k"] [.int c,.ref b]) H:=by
 simp only [jG,kG,zr,zU,yJ,yg,kO,L2.start,zn,zH,zl,zt,tOp,zc,tC,z0,zb,zj,yH,zo,wj,xz,rI,rI0,List.map,List.replicate,List.length,List.append,jqa,jqb,jqc,jqd,jqe,jqf,jqg,jqh,jqi,jqj,jqk,jql,jqm,jqn,and_true,true_and,and_assoc,jqo,jqp,jqq,jqr,jqs,jqt,if_true,ite_true,jqu,ite_false,if_false]
 intro d hd
 have s0:=isV (o:=HO.dT []) d hd
 have e0:upd H d (HO.dT []) d=some (.dT (dOf [])):=zd
 generalize upd H d (HO.dT [])=H0 at *
 refine ⟨by decide,by decide,fun r H1 g1 g2 s1=>⟨by decide,by lia,by lia,qS (tbI c b d H) ⟨[],⟨_,rfl⟩,s0.trans s1,s1 _ _ e0,(fun r h=>nomatch h),rfl⟩ ?_ ?_⟩⟩
 ·rintro i σ H' hi ⟨xs,⟨o3,rfl⟩,s,hd',v,lx⟩
  simp only [yg,kO,L2.start,zn,zH,zl,zt,tOp,zc,tC,z0,zb,zj,yH,zo,wj,xz,rI,rI0,List.map,List.replicate,List.length,List.append,jqa,jqb,jqc,jqd,jqe,jqf,jqg,jqh,jqi,jqj,jqk,jql,jqm,jqn,and_true,true_and,and_assoc,jqo,jqp,jqq,jqr,jqs,jqt,if_true,ite_true,jqu,ite_false,if_false,Int.zero_add]
  have hi6:i < 7:=by lia
  refine ⟨zdH (by lia) (by lia) (by lia) (by lia),by lia,by lia,fun w H2 hw s2=>⟨by lia,by lia,fun r1 H3 _ _ s3=>⟨by decide,?_⟩⟩⟩
  obtain ⟨x,hx,_,nx⟩:=qk (h1.same (s.trans (s2.trans s3))) 2 h2 (by decide) r1
  refine ⟨_,SqL.of ((s.trans (s2.trans s3)) _ _ h1.1),_,hx,by lia,by lia,fun r2 H4 _ _ s4=>⟨by decide,by decide,fun p hp=>?_⟩⟩
  have s5:=isV (o:=HO.tup [V.str x,V.int (r2 % 3)]) p hp
  have e5:upd H4 p (HO.tup [V.str x,V.int (r2 % 3)]) p=some (.tup [V.str x,V.int (r2 % 3)]):=zd
  generalize upd H4 p (HO.tup [V.str x,V.int (r2 % 3)])=H5 at *
  have U:=s2.trans (s3.trans (s4.trans s5))
  refine ⟨_,ZD (q:=((x,r2 % 3),w)) (U _ _ hd') e5 (by lia),xs ++ [((x,r2 % 3),w)],⟨_,rfl⟩,yj (s.trans U) hd,zd,fun r hr=>?_,by rw [List.length_append,lx];rfl⟩
  rcases List.mem_append.mp hr with hr | hr
  ·exact v r hr
  ·rw [List.mem_singleton.mp hr];exact ⟨hw,kt nx⟩
 ·rintro σ H' ⟨xs,⟨o3,rfl⟩,s,hd',v,lx⟩
  simp only [yg,kO,L2.start,zn,zH,zl,zt,tOp,zc,tC,z0,zb,zj,yH,zo,wj,xz,rI,rI0,List.map,List.replicate,List.length,List.append,jqa,jqb,jqc,jqd,jqe,jqf,jqg,jqh,jqi,jqj,jqk,jql,jqm,jqn,and_true,true_and,and_assoc,jqo,jqp,jqq,jqr,jqs,jqt,if_true,ite_true,jqu,ite_false,if_false]
  have ld:=xb xs
  exact ⟨_,hd',by lia,fun l out H2 s2 fl la T=>q l out H2 (s.trans s2) la (by have:=W8 T;lia) (Xn T v)⟩
def loS (c:Int) (b tl r d:Addr) (o5 o6 o7:Option V):St:=[some (.int c),some (.ref b),some (.ref tl),some (.ref r),some (.ref d),o5,o6,o7]
def loN (c:Int) (b tl r d:Addr) (H0:Hp) (pre no:List Row) (i:Nat) (σ:St) (H:Hp):Prop:=(∃ o5 o6 o7,σ=loS c b tl r d o5 o6 o7)∧Same H0 H∧H d=some (.dT (dOf (pre ++ no.take i)))
def loI (c:Int) (b tl r d:Addr) (H0:Hp) (pre:List Row) (i:Nat) (σ:St) (H:Hp):Prop:=∃ xs:List Row,(∃ o5 o6 o7,σ=loS c b tl r d o5 o6 o7)∧Same H0 H∧H d=some (.dT (dOf (pre ++ xs)))∧(∀ r∈xs,xV r)∧xs.length=i
theorem loI.put {c:Int} {b tl r d:Addr} {H0 H:Hp} {pre xs:List Row} {i:Nat} {q:Row} {o5 o6 o7:Option V} (f0:H0 d=none) (S:Same H0 H) (v:∀ r∈xs,xV r) (l:xs.length=i) (vq:xV q):loI c b tl r d H0 pre (i + 1) (loS c b tl r d o5 o6 o7) (upd H d (.dT (dOf (pre ++ xs ++ [q])))) :=
 ⟨xs ++ [q],⟨_,_,_,rfl⟩,yj S f0,by rw [← List.append_assoc];exact zd,fun r hr=>by
  rcases List.mem_append.mp hr with hr | hr
  ·exact v r hr
  ·rw [List.mem_singleton.mp hr];exact vq,by rw [List.length_append,l];rfl⟩
section
variable {c:Int} {b tl r nl gl d:Addr} {us:List Str} {o:V} {tab pre no gi:List Row} {H0:Hp} {o5 o6 o7:Option V}
theorem zb1 (f0:H0 d=none) (hr:H0 r=some (.tup [o,.ref nl,.ref gl])) (hn:LsAt H0 nl no) (S:Same H0 H) (e:H d=some (.dT (dOf pre))) (hl:pre.length + no.length≤1000) (q:∀ H',Same H0 H'→H' d=some (.dT (dOf (pre ++ no)))→Q (.ref d) H') :
  vm K t { nx:=fun _ H'=>Q .non H',rt:=Q } (loS c b tl r d o5 o6 o7) H:=by
 obtain ⟨xs,hx,px⟩:=hn
 have lx:=Paired.length px
 simp only [vm,loS,yg,L2.start,zv,zn,zl,jJ,xu,jI,zt,tOp,zc,tC,yH,yG,zv,List.map,List.replicate,List.length,List.append,jqa,jqb,jqc,jqd,jqe,jqf,jqg,jqh,jqi,jqj,jqk,jql,jqm,jqn,and_true,true_and,and_assoc,jqo,jqp,jqq,jqr,jqs,jqt,if_true,ite_true,jqu,ite_false,if_false]
 refine ⟨_,SqT.of (S _ _ hr),_,rfl,nl,rfl,⟨_,SqL.of (S _ _ hx)⟩,vL xs (loN c b tl r d H0 pre no) ⟨⟨_,_,_,rfl⟩,S,by rw [List.take_zero,List.append_nil];exact e⟩ (fun i σ H' h=>SqL.of (h.2.1 _ _ hx)) ?_ ?_⟩
 ·rintro i v σ H' hv ⟨⟨o5,o6,o7,rfl⟩,s,hd⟩
  obtain ⟨a,ha,p1,p2,rfl,h1,h2⟩:=Jd px hv
  simp only [loS,yg,L2.start,zv,zn,zl,jJ,xu,jI,zt,tOp,zc,tC,yH,yG,zv,List.map,List.replicate,List.length,List.append,jqa,jqb,jqc,jqd,jqe,jqf,jqg,jqh,jqi,jqj,jqk,jql,jqm,jqn,and_true,true_and,and_assoc,jqo,jqp,jqq,jqr,jqs,jqt,if_true,ite_true,jqu,ite_false,if_false]
  have tk:no.take (i + 1)=no.take i ++ [a]:=by rw [List.take_add_one,ha];rfl
  have lt:(no.take i).length≤no.length:=by rw [List.length_take];lia
  refine ⟨_,SqT.of (s _ _ h1),rfl,_,_,rfl,_,_,rfl,rfl,_,ZD hd (s _ _ h2) (by rw [List.length_append];lia),?_⟩
  exact ⟨⟨_,_,_,rfl⟩,yj s f0,by rw [tk,← List.append_assoc];exact zd⟩
 ·rintro σ H' ⟨⟨o5,o6,o7,rfl⟩,s,hd⟩
  simp only [loS,yg,L2.start,zv,zn,zl,jJ,xu,jI,zt,tOp,zc,tC,yH,yG,zv,List.map,List.replicate,List.length,List.append,jqa,jqb,jqc,jqd,jqe,jqf,jqg,jqh,jqi,jqj,jqk,jql,jqm,jqn,and_true,true_and,and_assoc,jqo,jqp,jqq,jqr,jqs,jqt,if_true,ite_true,jqu,ite_false,if_false]
  rw [lx,List.take_length] at hd
  exact q H' s hd
theorem zb2 (f0:H0 d=none) (hb:NamesAt H0 b us) (hb2:us.length=2) (hr:H0 r=some (.tup [o,.ref nl,.ref gl])) (hn:LsAt H0 nl no) (S:Same H0 H) (e:H d=some (.dT (dOf pre))) (hl:pre.length + no.length≤900) (q:∀ zs H',Same H0 H'→H' d=some (.dT (dOf (pre ++ zs ++ no)))→(∀ r∈zs,xV r)→zs.length=12→Q (.ref d) H') :
  vo K t { nx:=fun _ H'=>Q .non H',rt:=Q } (loS c b tl r d o5 o6 o7) H:=by
 simp only [vo,loS,zU,yg,L2.start,zv,zn,zl,jJ,xu,jI,zt,tOp,zc,tC,z0,zb,zj,yH,zo,wj,yG,xz,zv,rI,rI0,List.map,List.replicate,List.length,List.append,jqa,jqb,jqc,jqd,jqe,jqf,jqg,jqh,jqi,jqj,jqk,jql,jqm,jqn,and_true,true_and,and_assoc,jqo,jqp,jqq,jqr,jqs,jqt,if_true,ite_true,jqu,ite_false,if_false]
 refine ⟨by decide,by decide,qS (loI c b tl r d H0 pre) ⟨[],⟨_,_,_,rfl⟩,S,by rw [List.append_nil];exact e,(fun r h=>nomatch h),rfl⟩ ?_ ?_⟩
 ·rintro i σ H' hi ⟨xs,⟨o5,o6,o7,rfl⟩,s,hd,v,lx⟩
  simp only [loS,yg,L2.start,zv,zn,zl,jJ,xu,jI,zt,tOp,zc,tC,z0,zb,zj,yH,zo,wj,yG,xz,zv,rI,rI0,List.map,List.replicate,List.length,List.append,jqa,jqb,jqc,jqd,jqe,jqf,jqg,jqh,jqi,jqj,jqk,jql,jqm,jqn,and_true,true_and,and_assoc,jqo,jqp,jqq,jqr,jqs,jqt,if_true,ite_true,jqu,ite_false,if_false,Int.zero_add]
  refine ⟨zdH (by lia) (by lia) (by lia) (by lia),by lia,by lia,fun w H2 hw s2=>⟨by decide,?_⟩⟩
  obtain ⟨x,hx,_,nx⟩:=qk (hb.same (s.trans s2)) 2 hb2 (by decide) (i:Int)
  refine ⟨_,SqL.of ((s.trans s2) _ _ hb.1),_,hx,dB,by decide,fun p hp=>?_⟩
  have s5:=isV (o:=HO.tup [V.str x,V.int ((i:Int) / 2 - 1)]) p hp
  have e5:upd H2 p (HO.tup [V.str x,V.int ((i:Int) / 2 - 1)]) p=some (.tup [V.str x,V.int ((i:Int) / 2 - 1)]):=zd
  generalize upd H2 p (HO.tup [V.str x,V.int ((i:Int) / 2 - 1)])=H5 at *
  have U:=s2.trans s5
  exact ⟨_,ZD (q:=((x,(i:Int) / 2 - 1),w)) (U _ _ hd) e5 (by rw [List.length_append];lia),loI.put f0 (s.trans U) v lx ⟨hw,kt nx⟩⟩
 ·rintro σ H' ⟨xs,⟨o5,o6,o7,rfl⟩,s,hd,v,lx⟩
  exact zb1 f0 hr hn s hd (by rw [List.length_append];lia) fun H'' s'' h''=>q xs H'' s'' h'' v (by lia)
theorem zb3 (f0:H0 d=none) (hb:NamesAt H0 b us) (hb2:us.length=2) (hr:H0 r=some (.tup [o,.ref nl,.ref gl])) (hn:LsAt H0 nl no) (hg:LsAt H0 gl gi) (vg:∀ r∈gi,xV r) (S:Same H0 H) (e:H d=some (.dT (dOf pre))) (hl:pre.length + no.length + gi.length≤800) (q:∀ zs H',Same H0 H'→H' d=some (.dT (dOf (pre ++ zs ++ no)))→(∀ r∈zs,xV r)→zs.length≤gi.length + 12→Q (.ref d) H') :
  vp K t { nx:=fun _ H'=>Q .non H',rt:=Q } (loS c b tl r d o5 o6 o7) H:=by
 obtain ⟨xs,hx,px⟩:=hg
 have lx:=Paired.length px
 simp only [vp,loS,zU,yg,L2.start,zv,zn,zl,jJ,xu,jI,zt,tOp,zc,tC,z0,zb,zj,yH,zo,wj,yG,xz,zv,rI,rI0,List.map,List.replicate,List.length,List.append,jqa,jqb,jqc,jqd,jqe,jqf,jqg,jqh,jqi,jqj,jqk,jql,jqm,jqn,and_true,true_and,and_assoc,jqo,jqp,jqq,jqr,jqs,jqt,if_true,ite_true,jqu,ite_false,if_false]
 refine ⟨_,SqT.of (S _ _ hr),_,rfl,gl,rfl,⟨_,SqL.of (S _ _ hx)⟩,vL xs (loI c b tl r d H0 pre) ⟨[],⟨_,_,_,rfl⟩,S,by rw [List.append_nil];exact e,(fun r h=>nomatch h),rfl⟩ (fun i σ H' ⟨_,_,s,_⟩=>SqL.of (s _ _ hx)) ?_ ?_⟩
 ·rintro i v σ H' hv ⟨zs,⟨o5,o6,o7,rfl⟩,s,hd,vz,lz⟩
  obtain ⟨a,ha,p1,p2,rfl,h1,h2⟩:=Jd px hv
  have li:=(List.getElem?_eq_some_iff.mp hv).1
  simp only [loS,yg,L2.start,zv,zn,zl,jJ,xu,jI,zt,tOp,zc,tC,z0,zb,zj,yH,zo,wj,yG,xz,zv,rI,rI0,List.map,List.replicate,List.length,List.append,jqa,jqb,jqc,jqd,jqe,jqf,jqg,jqh,jqi,jqj,jqk,jql,jqm,jqn,and_true,true_and,and_assoc,jqo,jqp,jqq,jqr,jqs,jqt,if_true,ite_true,jqu,ite_false,if_false]
  refine ⟨_,SqT.of (s _ _ h1),rfl,_,_,rfl,_,_,rfl,rfl,by decide,by decide,fun w H1 hw s1=>?_⟩
  refine ⟨_,ZD (q:=(a.1,w)) (s1 _ _ hd) ((s.trans s1) _ _ h2) (by rw [List.length_append];lia),?_⟩
  exact loI.put f0 (s.trans s1) vz lz ⟨hw,(vg a (List.mem_of_getElem? ha)).2⟩
 ·rintro σ H' ⟨zs,⟨o5,o6,o7,rfl⟩,s,hd,vz,lz⟩
  refine zb2 f0 hb hb2 hr hn s hd (by rw [List.length_append];lia) fun ys H'' s'' h'' v'' l''=>q (zs ++ ys) H'' s'' (by rw [← List.append_assoc];exact h'') (fun r hr=>?_) (by rw [List.length_append];lia)
  rcases List.mem_append.mp hr with hr | hr
  ·exact vz r hr
  ·exact v'' r hr
theorem Xp (h1:NamesAt H b us) (h2:us.length=2) (h3:LsAt H tl tab) (h4:∀ r∈tab,xV r) (h5:tab.length≤6) (h6:H r=some (.tup [o,.ref nl,.ref gl])) (h7:LsAt H nl no) (h8:LsAt H gl gi) (h9:∀ r∈no,xV r) (h10:∀ r∈gi,xV r) (h11:no.length + gi.length≤40) (q:∀ d xs H',Same H H'→H d=none→H' d=some (.dT (dOf (tab ++ xs ++ no)))→(∀ r∈xs,xV r)→xs.length≤gi.length + 12→Q (.ref d) H') :
  jA K t { nx:=fun _ H'=>Q .non H',rt:=Q } (L2.start ["cell","shelves","table","paper","worths","place","worth","k"] [.int c,.ref b,.ref tl,.ref r]) H:=by
 obtain ⟨xs,hx,px⟩:=h3
 simp only [jA,yg,qJ,L2.start,zv,zn,zH,zl,jJ,xu,jI,zt,tOp,zc,tC,z0,zb,zj,yH,tCB,zo,wj,yG,xz,zv,rI,rI0,List.map,List.replicate,List.length,List.append,jqa,jqb,jqc,jqd,jqe,jqf,jqg,jqh,jqi,jqj,jqk,jql,jqm,jqn,and_true,true_and,and_assoc,jqo,jqp,jqq,jqr,jqs,jqt,if_true,ite_true,jqu,ite_false,if_false]
 refine ⟨xs,hx,tab,px,by lia,fun d hd=>?_⟩
 exact zb3 (H0:=H) hd h1 h2 h6 h7 h8 h10 (isV d hd) zd (by lia) fun zs H' s h v l=>q d zs H' s hd h v l
end
mutual
theorem zc9:∀ (r:Rw) {s s':Sta},goR r s=.go s'→s'.wo.length≤s.wo.length + gvR r
 | .take sh e sl,s,s',g=>by
  unfold goR at g
  split at g
  ·cases g;exact Nat.le_add_right _ _
  ·cases g
 | .give sh e f,s,s',g=>by
  unfold goR at g
  split at g
  ·split at g
   ·cases g
    simp [gvR]
   ·cases g
  ·cases g
 | .lt sl e,s,s',g=>by
  unfold goR at g
  split at g
  ·cases g;exact Nat.le_add_right _ _
  ·cases g
 | .say e,s,s',g=>by
  unfold goR at g
  split at g
  ·cases g;exact Nat.le_add_right _ _
  ·cases g
 | .off e,s,s',g=>by
  unfold goR at g
  split at g
  ·split at g
   ·cases g;exact Nat.le_add_right _ _
   ·cases g
  ·cases g
 | .iff e a b,s,s',g=>by
  unfold goR at g
  rw [gvR]
  split at g
  ·split at g
   ·have:=Yr b g;lia
   ·have:=Yr a g;lia
  ·cases g
theorem Yr:∀ (r:Rws) {s s':Sta},yE r s=.go s'→s'.wo.length≤s.wo.length + jq r
 | .nil,s,s',g=>by
  unfold yE at g
  cases g
  exact Nat.le_add_right _ _
 | .cons r rs,s,s',g=>by
  unfold yE at g
  rw [jq]
  split at g
  ·rename_i s1 e1
   have h1:=zc9 r e1
   have h2:=Yr rs g
   lia
  ·rename_i x hx
   exact absurd g (hx s')
end
theorem zaU {r:Rws} {rows out:List Row} {oc:Oc} {s:RSt} (A:vY r rows oc out) (F:WS (zm r 0) rows s):oc=qF s:=by
 have h:=Ka (tb:=vJ rows) (r:=r) (s:=st0) (st:=⟨[],rows,[]⟩) rfl ⟨rfl,rfl,fun p=>rfl,fun p w h=>nomatch h⟩ rfl
 unfold vY at A
 cases hg:yE r ⟨[],rows,[]⟩ with
 | go st =>
  rw [hg] at A h
  obtain ⟨s',rc,n,w,R⟩:=h
  have e:=ZA F.rc rc F.ov (by unfold ym;rw [n,decide_eq_true (Nat.le_refl _),Bool.or_true])
  subst e
  rw [A.1]
  unfold qF
  rw [w,R.sa]
 | off =>
  rw [hg] at A h
  obtain ⟨s',rc,w⟩:=h
  have e:=ZA F.rc rc F.ov (by unfold ym;rw [w];rfl)
  subst e
  rw [A.1]
  unfold qF
  rw [w]
 | er e =>
  rw [hg] at A h
  obtain ⟨s',rc,w⟩:=h
  have e:=ZA F.rc rc F.ov (by unfold ym;rw [w];rfl)
  subst e
  rw [A.1]
  unfold qF
  rw [w]
theorem K3 {C:List Cs} {rows rows2:List Row} {s s2:RSt} (F:WS C rows s) (F2:WS C rows2 s2) (h:∀ r∈s.no,vJ rows2 r.1=r.2):s2=s:=by
 obtain ⟨k,e⟩:=F.rc
 have:=Jf C (vJ rows) (vJ rows2) k st0 (by rw [e];exact h)
 exact ZA F2.rc ⟨k,this.trans e⟩ F2.ov F.ov
theorem Kb {C:List Cs} {rows rows3:List Row} {s s3:RSt} {n:Nat} {p:Pl} {w:Int} (F:WS C rows s) (F3:WS C rows3 s3) (h1:s.no[n]?=some (p,w)) (h2:∀ r∈s.no.take n,vJ rows3 r.1=r.2):s3.no.take (n + 1)=s.no.take n ++ [(p,vJ rows3 p)]:=by
 obtain ⟨k,e⟩:=F.rc
 obtain ⟨j,s1,e1,e2⟩:=Zf C (vJ rows) (vJ rows3) k st0 n p w (Nat.zero_le _) (by rw [e];exact h1) (by rw [e];exact h2)
 obtain ⟨k3,e3⟩:=F3.rc
 have e4:wg C (vJ rows3) (k3 + j) st0=s3:=by rw [jf,e3,Zz F3.ov]
 rw [Nat.add_comm,jf,e1] at e4
 obtain ⟨l,g⟩:=ZB C (vJ rows3) k3 s1
 rw [e4,e2,e] at g
 have la:=(List.getElem?_eq_some_iff.mp h1).1
 have ll:n + 1=(s.no.take n ++ [(p,vJ rows3 p)]).length:=by rw [List.length_append,List.length_take,List.length_singleton];lia
 rw [g,ll]
 exact List.take_left
theorem ZV (p:Pl) (b:List Row):∀ (a:List Row),zu (a ++ b) p=(zu b p).or (zu a p)
 | []=>by rw [List.nil_append];show _=Option.or _ none;rw [Option.or_none]
 | r :: t=>by
  show (zu (t ++ b) p).or _=(zu b p).or ((zu t p).or _)
  rw [ZV p b t,Option.or_assoc]
theorem zcl {pre no out:List Row} {r:Row} (T:vC (pre ++ no) out) (nd:(no.map (·.1)).Nodup) (hr:r∈no):vJ out r.1=r.2:=by
 unfold vJ
 rw [WL T,ZV,(qu nd).mpr (show (r.1,r.2)∈no from hr)]
 rfl
theorem zb4 {no:List Row} {n:Nat} {p:Pl} {w:Int} (nd:(no.map (·.1)).Nodup) (h:no[n]?=some (p,w)) {r:Row} (hr:r∈no.take n):r.1≠p:=fun z=>by
 obtain ⟨i,hi⟩:=List.getElem?_of_mem hr
 rw [List.getElem?_take] at hi
 split at hi
 ·rename_i lt
  have a1:(no.map (·.1))[i]?=some p:=by rw [List.getElem?_map,hi,← z];rfl
  have a2:(no.map (·.1))[n]?=some p:=by rw [List.getElem?_map,h];rfl
  have b1:=(List.getElem?_eq_some_iff.mp a1)
  have b2:=(List.getElem?_eq_some_iff.mp a2)
  have:=(List.getElem?_inj b1.1 nd).mp (a1.trans a2.symm)
  lia
 ·cases hi
theorem Qz {pre no out:List Row} {n:Nat} {p:Pl} {w w':Int} (T:vC (pre ++ no ++ [(p,w')]) out) (nd:(no.map (·.1)).Nodup) (h:no[n]?=some (p,w)):vJ out p=w'∧∀ r∈no.take n,vJ out r.1=r.2:=by
 refine ⟨?_,fun r hr=>?_⟩
 ·unfold vJ
  rw [WL T,xW,if_pos rfl];rfl
 ·unfold vJ
  rw [WL T,xW,if_neg (fun z=>zb4 nd h hr z.symm),ZV,(qu nd).mpr (show (r.1,r.2)∈no from List.mem_of_mem_take hr)]
  rfl
theorem PpAt.same {H0 H H':Hp} {r:Addr} {s:RSt} (P:PpAt H0 H r s) (k:Same H H'):PpAt H0 H' r s:=by
 obtain ⟨o,nl,gl,out,a1,a2,a3,a4,a5,a6,a7⟩:=P
 exact ⟨o,nl,gl,out,k _ _ a1,KY a2 k,jn a3 k,jn a4 k,a5,a6,a7⟩
theorem zaV {C:List Cs} {m:Nat} {s:RSt} (I:RnI C m s):∀ w,qF s=.off w→PyData.strOk w=true:=fun w z=>by
 unfold qF at z
 cases e:s.why with
 | none=>rw [e] at z;cases z
 | some v=>rw [e] at z;cases z;exact I.wy _ e
theorem W9 {H H':Hp} {v:V} {r:Rws} (k:Same H H') (h:qE yO H v r):qE yO H' v r:=by
 obtain ⟨p,xs,e,f,hp,hx⟩:=h
 exact ⟨p,xs,e,f,k _ _ hp,hx.mono k⟩
theorem zda {C:List Cs} {m:Nat} {s:RSt} {out:List Row} (I:RnI C m s) (h:Zs s out):∀ r∈out,inW r.2=true:=by
 unfold Zs at h
 cases e:s.why with
 | some w=>rw [e] at h;rw [h];exact fun r hr=>nomatch hr
 | none =>
  rw [e] at h
  intro r hr
  exact qy (P:=fun r=>inW r.2=true) I.ok.gw ((h.2 r.1 r.2).mp hr)
theorem zcm {C:List Cs} {m:Nat} {H1 H2:Hp} {r r2:Addr} {s:RSt} (I:RnI C m s) (P:PpAt H1 H r s) (P2:PpAt H2 H r2 s):∃ D,Dat K H (.ref r) D∧Dat K H (.ref r2) D∧zV D=true∧D.depth≤64:=by
 obtain ⟨o,nl,gl,out,a1,a2,a3,a4,a5,_⟩:=P
 obtain ⟨o',nl',gl',out',b1,b2,b3,b4,b5,_⟩:=P2
 have eo:=zbP b5 a5
 rw [eo] at b4
 have gk:=zcj I a5
 refine ⟨ppD (qF s) s.no out,zaO a1 a2 a3 a4,zaO b1 b2 b3 b4,?_,?_⟩
 ·have a1:=Jb (zaV I)
  have a2:=Zy I.nn
  have a3:=Zy gk
  simp only [ppD,zV,yw,Bool.and_eq_true,and_true] at a1 a2 a3 ⊢
  exact ⟨a1,a2,a3⟩
 ·have a1:=KZ (qF s)
  have a2:=Yq s.no
  have a3:=Yq out
  simp only [ppD,PyData.depth,PyData.depthAll] at a1 a2 a3 ⊢
  lia
theorem zdb {d l:Addr} {k:List (List Key × V)} {o:HO} {rows:List Row} (hd:H d=some (.dT k)) (h:LsAt H l rows):LsAt (upd H d o) l rows:=by
 obtain ⟨xs,hx,px⟩:=h
 exact ⟨xs,by rw [zk (fun z=>by rw [z,hd] at hx;cases hx)];exact hx,je (fun b us e=>by rw [zk (fun z=>by rw [z,hd] at e;cases e)];exact e) px⟩
theorem Jh (xs:List V) (n:Nat):Z7 xs none (some (n:Int))=xs.take n:=by
 unfold Z7
 rw [HT.sIx_none,HT.sIx_nat,List.drop_zero,Nat.sub_zero]
 by_cases c:n≤xs.length
 ·rw [Nat.min_eq_left c]
 ·rw [Nat.min_eq_right (by lia),List.take_of_length_le (Nat.le_refl _),List.take_of_length_le (by lia)]
structure LdB (Hb H:Hp) (v:V) (l rp:Addr) (xs:List V) (r:Rws) (tab:List Row) (s:RSt):Prop where
 rl:qE yO H v r
 ra:RwA r 14
 hl:H l=some (.lst xs)
 hc:Paired (CsAt H) xs (zm r 0)
 O:Qv (zm r 0)
 F:WS (zm r 0) tab s
 P:PpAt Hb H rp s
 le:(zm r 0).length≤28
theorem LdB.same {Hb H H':Hp} {v:V} {l rp:Addr} {xs:List V} {r:Rws} {tab:List Row} {s:RSt} (B:LdB Hb H v l rp xs r tab s) (k:Same H H'):LdB Hb H' v l rp xs r tab s:=⟨W9 k B.rl,B.ra,k _ _ B.hl,wr k B.hc,B.O,B.F,B.P.same k,B.le⟩
structure TbB (H:Hp) (l:Addr) (rows out:List Row):Prop where
 la:LsAt H l out
 T:vC rows out
 le:out.length≤47
 ok:∀ r∈out,xV r
theorem TbB.same {H H':Hp} {l:Addr} {rows out:List Row} (B:TbB H l rows out) (k:Same H H'):TbB H' l rows out:=⟨jn B.la k,B.T,B.le,B.ok⟩
section
variable {c w w':Int} {v:V} {b tl l rp d sd pa th kp r3:Addr} {xs:List V} {r:Rws} {tab pre sec trd:List Row} {s s3:RSt} {n:Nat} {p:Pl} {Hb Hc H0:Hp}
theorem QA (S:Same H0 H) (B:LdB Hb H v l rp xs r tab s) (T2:TbB H sd (pre ++ s.no) sec) (hd:H d=some (.dT (dOf (pre ++ s.no ++ [(p,w')])))) (hp:H pa=some (.tup [.str p.1,.int p.2])) (hn:s.no[n]?=some (p,w)) (T3:TbB H th (pre ++ s.no ++ [(p,w')]) trd) (hk:LsAt H kp trd) (F3:WS (zm r 0) trd s3) (P3:PpAt Hc H r3 s3) (q:∀ H',Same H0 H'→Q (.bl true) H') :
  jc K t { nx:=fun _ H'=>Q .non H',rt:=Q } [some v,some (.int c),some (.ref b),some (.ref tl),some (.ref l),some (.ref rp),some (.ref d),some (.ref sd),some (.int n),some (.ref pa),some (.int w),some (.ref th),some (.ref kp),some (.ref r3)] H:=by
 simp only [jc,y7,ke,ZK,vT,xA,L2.start,zv,zn,zt,zD,tOp,zc,tC,yM,z0,zb,zj,zF,tOr,xx,zp,tB,kx,tSl,xh,yr,zo,xA,zv,rI0,Zi,List.map,List.replicate,List.length,List.append,jqa,jqb,jqc,jqd,jqe,jqf,jqg,jqh,jqi,jqj,jqk,jql,jqm,jqn,and_true,true_and,and_assoc,jqo,jqp,jqq,jqr,jqs,jqt,if_true,ite_true,jqu,ite_false,if_false]
 obtain ⟨o3,nl3,gl3,out3,c1,c2,c3,c4,c5,_,_⟩:=id P3
 refine ⟨nl3,gl3,o3,c1,_,c3,_,c4,fun H1 s1=>?_⟩
 rw [if_neg (by decide)]
 obtain ⟨o,nl,gl,out,a1,a2,⟨ys,hy,py⟩,a4,a5,_,_⟩:=id B.P
 obtain ⟨zs,hz,pz⟩:=c3
 refine ⟨_,SqT.of (s1 _ _ c1),_,rfl,nl3,rfl,_,SqL.of (s1 _ _ hz),fun p1 hp1=>?_⟩
 rw [show Z7 zs none (some ((n:Int) + 1))=zs.take (n + 1) from Jh zs (n + 1)]
 have s2:=isV (o:=HO.lst (zs.take (n + 1))) p1 hp1
 have e2:upd H1 p1 (HO.lst (zs.take (n + 1))) p1=some (.lst (zs.take (n + 1))):=zd
 generalize upd H1 p1 (HO.lst (zs.take (n + 1)))=H2 at *
 have S2:=s1.trans s2
 refine ⟨_,SqT.of (S2 _ _ a1),_,rfl,nl,rfl,_,SqL.of (S2 _ _ hy),fun p2 hp2=>?_⟩
 rw [Jh]
 have t3:=isV (o:=HO.lst (ys.take n)) p2 hp2
 have e3:upd H2 p2 (HO.lst (ys.take n)) p2=some (.lst (ys.take n)):=zd
 generalize upd H2 p2 (HO.lst (ys.take n))=H3 at *
 have S3:=S2.trans t3
 have g:DGet H3 d (.ref pa) (some (.int w')):=by
  have:=DGet.t (k:=zP p) (S3 _ _ hd) (S3 _ _ hp)
  rw [xS,xW,if_pos rfl] at this
  exact this
 refine ⟨_,g,by decide,fun p3 hp3=>?_⟩
 have s4:=isV (o:=HO.tup [V.ref pa,V.int w']) p3 hp3
 have e4:upd H3 p3 (HO.tup [V.ref pa,V.int w']) p3=some (.tup [V.ref pa,V.int w']):=zd
 generalize upd H3 p3 (HO.tup [V.ref pa,V.int w'])=H4 at *
 have S4:=S3.trans s4
 refine ⟨by decide,fun p4 hp4=>?_⟩
 have s5:=isV (o:=HO.lst [V.ref p3]) p4 hp4
 have e5:upd H4 p4 (HO.lst [V.ref p3]) p4=some (.lst [V.ref p3]):=zd
 generalize upd H4 p4 (HO.lst [V.ref p3])=H5 at *
 have S5:=S4.trans s5
 have lt:(ys.take n).length≤100:=by
  have:=Paired.length py
  have:=B.F.fw
  have:=B.le
  rw [List.length_take];lia
 refine ⟨_,(s4.trans s5) _ _ e3,_,e5,Nat.le_trans (by show (ys.take n).length + 1≤101;lia) (by decide),fun p6 hp6=>?_⟩
 have s6:=isV (o:=HO.lst (ys.take n ++ [V.ref p3])) p6 hp6
 have e6:upd H5 p6 (HO.lst (ys.take n ++ [V.ref p3])) p6=some (.lst (ys.take n ++ [V.ref p3])):=zd
 generalize upd H5 p6 (HO.lst (ys.take n ++ [V.ref p3]))=H6 at *
 have S6:=S5.trans s6
 obtain ⟨m3,lm3,I3⟩:=F3.ri
 obtain ⟨m,lm,I⟩:=B.F.ri
 obtain ⟨tp,tn⟩:=Qz T3.T I.ok.nd hn
 have eq:=Kb B.F F3 hn tn
 rw [tp] at eq
 have l1:LsAt H6 p1 (s3.no.take (n + 1)):=⟨_,(t3.trans (s4.trans (s5.trans s6))) _ _ e2,ql S6 (Paired.takeP (n + 1) pz)⟩
 have l2:LsAt H6 p6 (s.no.take n ++ [(p,w')]):=⟨_,e6,Paired.snocP (ql S6 (Paired.takeP n py)) ⟨p3,pa,rfl,(s5.trans s6) _ _ e4,S6 _ _ hp⟩⟩
 rw [← eq] at l2
 have pl:=Zy (rows:=s3.no.take (n + 1)) fun r hr=>I3.nn r (List.mem_of_mem_take hr)
 have dp:=Yq (s3.no.take (n + 1))
 refine ⟨_,ZU l1,_,ZU l2,pl,pl,by lia,by lia,fun b hb=>?_⟩
 rw [hb.mpr rfl,if_neg (by decide)]
 have T6:=T3.same S6
 have pl3:=Zy (rows:=trd) fun r hr=>(T6.ok r hr).2
 have dp3:=Yq trd
 refine ⟨_,ZU T6.la,_,ZU (jn hk S6),pl3,pl3,by lia,by lia,fun b hb=>?_⟩
 rw [hb.mpr rfl,if_pos (by decide)]
 have B6:=B.same S6
 have T7:=T2.same S6
 refine ⟨xs,B6.hl,zm r 0,B6.hc,B6.O,sec,T7.la,by have:=T7.le;lia,fun q hq=>(T7.ok q hq).1,fun r4 s4' H7 s7 F4 P4=>?_⟩
 have es:=K3 B.F F4 fun r hr=>zcl T7.T I.ok.nd hr
 rw [es] at P4
 obtain ⟨D,d1,d2,dpl,ddp⟩:=zcm (K:=K) I P4 (B6.same s7).P
 exact ⟨_,d1,_,d2,dpl,dpl,ddp,ddp,fun b hb=>by rw [hb.mpr rfl];exact q _ (S.trans (S6.trans s7))⟩
theorem QB (S:Same H0 H) (B:LdB Hb H v l rp xs r tab s) (T2:TbB H sd (pre ++ s.no) sec) (hd:H d=some (.dT (dOf (pre ++ s.no ++ [(p,w')])))) (hv:∀ r∈pre ++ s.no ++ [(p,w')],xV r) (hl:(pre ++ s.no).length≤46) (hp:H pa=some (.tup [.str p.1,.int p.2])) (hn:s.no[n]?=some (p,w)) (q:∀ H',Same H0 H'→Q (.bl true) H') :
  jd K t { nx:=fun _ H'=>Q .non H',rt:=Q } [some v,some (.int c),some (.ref b),some (.ref tl),some (.ref l),some (.ref rp),some (.ref d),some (.ref sd),some (.int n),some (.ref pa),some (.int w),none,none,none] H:=by
 simp only [jd,yJ,ke,ZK,vT,xA,L2.start,Xt,zv,zn,zH,zl,zt,zD,tOp,zc,tC,yM,z0,zb,zj,zF,tOr,xx,zp,tB,kx,tCB,tSl,xh,yr,zo,xA,zv,rI0,Zi,List.map,List.replicate,List.length,List.append,jqa,jqb,jqc,jqd,jqe,jqf,jqg,jqh,jqi,jqj,jqk,jql,jqm,jqn,and_true,true_and,and_assoc,jqo,jqp,jqq,jqr,jqs,jqt,if_true,ite_true,jqu,ite_false,if_false]
 have ld:=xb (pre ++ s.no ++ [(p,w')])
 have ll:(pre ++ s.no ++ [(p,w')]).length=(pre ++ s.no).length + 1:=by rw [List.length_append];rfl
 refine ⟨_,hd,by lia,fun th trd H1 s1 fl la T=>?_⟩
 have T3:TbB H1 th (pre ++ s.no ++ [(p,w')]) trd:=⟨la,T,by have:=W8 T;lia,Xn T hv⟩
 obtain ⟨ys,hy,py⟩:=la
 refine ⟨ys,.inl (SqL.of hy),fun kp hkp=>?_⟩
 have s2:=isV (o:=HO.lst ys) kp hkp
 have e2:upd H1 kp (HO.lst ys) kp=some (.lst ys):=zd
 generalize upd H1 kp (HO.lst ys)=H2 at *
 have U:=s1.trans s2
 have B2:=B.same U
 have T4:=T3.same s2
 refine ⟨xs,B2.hl,zm r 0,B2.hc,B2.O,trd,T4.la,by have:=T4.le;lia,fun q hq=>(T4.ok q hq).1,fun r3 s3 H3 s4 F3 P3=>?_⟩
 exact QA (S.trans (U.trans s4)) (B2.same s4) (T2.same (U.trans s4)) ((U.trans s4) _ _ hd) ((U.trans s4) _ _ hp) hn (T4.same s4) ⟨ys,s4 _ _ e2,ql (s2.trans s4) py⟩ F3 P3 q
theorem zaW (S:Same H0 H) (f0:H0 d=none) (B:LdB Hb H0 v l rp xs r tab s) (T2:TbB H sd (pre ++ s.no) sec) (hd:H d=some (.dT (dOf (pre ++ s.no)))) (hv:∀ r∈pre ++ s.no,xV r) (hl:(pre ++ s.no).length≤46) (h0:s.no≠[]) (q:∀ H',Same H0 H'→Q (.bl true) H') :
  jD K t { nx:=fun _ H'=>Q .non H',rt:=Q } [some v,some (.int c),some (.ref b),some (.ref tl),some (.ref l),some (.ref rp),some (.ref d),some (.ref sd),none,none,none,none,none,none] H:=by
 simp only [jD,zr,v3,yg,ZK,vT,xA,L2.start,Xt,zv,zn,zH,zl,jJ,xu,jI,zt,zD,tOp,zc,tC,yM,z0,zb,zj,zF,tOr,xx,zp,tB,kx,tCB,tSl,xh,yr,zo,vS,xA,xz,zv,rI,rI0,Zi,xP,List.map,List.replicate,List.length,List.append,jqa,jqb,jqc,jqd,jqe,jqf,jqg,jqh,jqi,jqj,jqk,jql,jqm,jqn,and_true,true_and,and_assoc,jqo,jqp,jqq,jqr,jqs,jqt,if_true,ite_true,jqu,ite_false,if_false]
 obtain ⟨o,nl,gl,out,a1,a2,⟨ys,hy,py⟩,a4,a5,a6,a7⟩:=B.P
 have ly:=Paired.length py
 have pos:0 < s.no.length:=List.length_pos_iff.mpr h0
 refine ⟨by decide,by decide,fun r1 H1 g1 g2 s1=>?_⟩
 have S1:=S.trans s1
 have gm1:=Int.emod_nonneg r1 (b:=s.no.length) (by lia)
 have gm2:=Int.emod_lt_of_pos r1 (b:=s.no.length) (by lia)
 obtain ⟨n,en⟩:∃ n:Nat,r1 % (s.no.length:Int)=n:=⟨(r1 % (s.no.length:Int)).toNat,(Int.toNat_of_nonneg gm1).symm⟩
 have ln:n < s.no.length:=by lia
 have hn:s.no[n]?=some s.no[n]:=List.getElem?_eq_getElem ln
 have hyn:ys[n]?=some ys[n]:=List.getElem?_eq_getElem (by lia)
 obtain ⟨p1,p2,ev,b1,b2⟩:=yp py hyn hn
 rw [ev] at hyn
 generalize s.no[n]=a at *
 obtain ⟨p,w⟩:=a
 refine ⟨_,SqT.of (S1 _ _ a1),_,rfl,s.no.length,.inl ⟨_,SqL.of (S1 _ _ hy),ly.symm⟩,by lia,_,SqT.of (S1 _ _ a1),_,rfl,nl,rfl,_,SqL.of (S1 _ _ hy),_,by rw [en];exact qp hyn,p1,rfl,_,SqT.of (S1 _ _ b1),rfl,_,_,rfl,_,_,rfl,rfl,w,rfl,?_⟩
 rw [en]
 have vw:=hv (p,w) (List.mem_append_right _ (List.mem_of_getElem? hn))
 refine ⟨vw.1,fun w' H2 hw' s2=>?_⟩
 have S2:=S1.trans s2
 refine ⟨_,ZD (q:=(p,w')) ((s1.trans s2) _ _ hd) (S2 _ _ b2) (by lia),?_⟩
 have S3:Same H0 (upd H2 d (.dT (dOf (pre ++ s.no ++ [(p,w')])))):=yj S2 f0
 refine QB S3 (B.same S3) ⟨zdb ((s1.trans s2) _ _ hd) (jn T2.la (s1.trans s2)),T2.T,T2.le,T2.ok⟩ zd (fun r hr=>?_) hl (S3 _ _ b2) hn q
 rcases List.mem_append.mp hr with hr | hr
 ·exact hv r hr
 ·rw [List.mem_singleton.mp hr];exact ⟨hw',vw.2⟩
theorem zaX (S:Same H0 H) (f0:H0 d=none) (B:LdB Hb H0 v l rp xs r tab s) (T2:TbB H sd (pre ++ s.no) sec) (hd:H d=some (.dT (dOf (pre ++ s.no)))) (hv:∀ r∈pre ++ s.no,xV r) (hl:(pre ++ s.no).length≤46) (q:∀ H',Same H0 H'→Q (.bl true) H') :
  jE K t { nx:=fun _ H'=>Q .non H',rt:=Q } [some v,some (.int c),some (.ref b),some (.ref tl),some (.ref l),some (.ref rp),some (.ref d),some (.ref sd),none,none,none,none,none,none] H:=by
 simp only [jE,ke,Xa,yg,ZK,vT,xA,L2.start,Xt,qT,zv,zn,zH,zl,jJ,xu,jI,zt,zD,tOp,zc,tC,yM,z0,zb,zj,zF,tOr,xx,zp,tB,kx,tCB,tSl,xh,yr,zo,vS,xA,xz,zv,rI,rI0,Zi,xP,List.map,List.replicate,List.length,List.append,jqa,jqb,jqc,jqd,jqe,jqf,jqg,jqh,jqi,jqj,jqk,jql,jqm,jqn,and_true,true_and,and_assoc,jqo,jqp,jqq,jqr,jqs,jqt,if_true,ite_true,jqu,ite_false,if_false]
 have B1:=B.same S
 obtain ⟨m,lm,I⟩:=B.F.ri
 refine ⟨xs,B1.hl,zm r 0,B1.hc,B1.O,sec,T2.la,by have:=T2.le;lia,fun q hq=>(T2.ok q hq).1,fun r2 s2' H1 s1 F2 P2=>?_⟩
 have es:=K3 B.F F2 fun r hr=>zcl T2.T I.ok.nd hr
 rw [es] at P2 F2
 have B2:=B1.same s1
 obtain ⟨D,d1,d2,dpl,ddp⟩:=zcm (K:=K) I P2 B2.P
 refine ⟨_,d1,_,d2,dpl,dpl,ddp,ddp,fun b hb=>?_⟩
 rw [hb.mpr rfl,if_neg (by decide)]
 have T3:=T2.same s1
 have cn:=(jT r 0).2
 have sz:=B.ra.sz
 have gv:=B.ra.gv
 have l2:=T2.le
 have lp:=W8 T2.T
 have lq:=xb (pre ++ s.no)
 refine ⟨r,B2.rl,sec,T3.la,⟨B.ra.ok,by have:=B.ra.dp;lia,fun q hq=>(T2.ok q hq).1,by lia,fun st hst=>?_⟩,fun r5 o5 l5 oc out5 H2 s2 fl h5 ho5 la5 A5=>?_⟩
 ·have z1:=Yr r hst
  have z2:=xb st.wo
  have z1:st.wo.length≤sec.length + jq r:=z1
  lia
 have S2:=S.trans (s1.trans s2)
 have eo:=zaU A5 F2
 rw [eo] at ho5
 obtain ⟨o,nl,gl,out,a1,a2,⟨ys,hy,py⟩,a4,a5,a6,a7⟩:=B.P
 have op:=Jb (zaV I)
 have od:=KZ (qF s)
 refine ⟨_,SqT.of h5,_,rfl,_,SqT.of (S2 _ _ a1),_,rfl,_,J6 ho5,_,J6 (KY a2 S2),op,op,by lia,by lia,fun b hb=>?_⟩
 rw [hb.mpr rfl,if_neg (by decide)]
 refine ⟨_,SqT.of (S2 _ _ a1),_,rfl,by decide,fun p6 hp6=>?_⟩
 have s6:=isV (o:=HO.lst []) p6 hp6
 have e6:upd H2 p6 (HO.lst []) p6=some (.lst []):=zd
 generalize upd H2 p6 (HO.lst [])=H6 at *
 have S6:=S2.trans s6
 have U:=s1.trans (s2.trans s6)
 refine ⟨nl,rfl,ys,SqL.of (S6 _ _ hy),SqL.of e6,xN (fun _=>q _ S6) fun ne=>?_⟩
 exact zaW S6 f0 B (T2.same U) (U _ _ hd) hv hl (fun z=>ne (List.length_eq_zero_iff.mp (by rw [Paired.length py,z];rfl))) q
theorem zaY {us:List Str} (hb:NamesAt H b us) (hb2:us.length=2) (ht:LsAt H tl tab) (hv:∀ r∈tab,xV r) (hl:tab.length≤6) (B:LdB Hb H v l rp xs r tab s) (q:∀ H',Same H H'→Q (.bl true) H') :
  jF K t { nx:=fun _ H'=>Q .non H',rt:=Q } [some v,some (.int c),some (.ref b),some (.ref tl),some (.ref l),some (.ref rp),none,none,none,none,none,none,none,none] H:=by
 simp only [jF,ju,yJ,yg,ZK,vT,xA,L2.start,Xt,qT,zv,zn,zH,zl,jJ,xu,jI,zt,zD,tOp,zc,tC,yM,z0,zb,zj,zF,tOr,xx,zp,tB,kx,tCB,tSl,xh,yr,zo,vS,xA,xz,zv,rI,rI0,Zi,xP,List.map,List.replicate,List.length,List.append,jqa,jqb,jqc,jqd,jqe,jqf,jqg,jqh,jqi,jqj,jqk,jql,jqm,jqn,and_true,true_and,and_assoc,jqo,jqp,jqq,jqr,jqs,jqt,if_true,ite_true,jqu,ite_false,if_false]
 obtain ⟨o,nl,gl,out,a1,a2,a3,a4,a5,a6,a7⟩:=B.P
 obtain ⟨m,lm,I⟩:=B.F.ri
 have gl1:=zc2 a5
 have fw:=B.F.fw
 have le:=B.le
 have vn:∀ q∈s.no,xV q:=fun q hq=>⟨I.ok.nw q hq,I.nn q hq⟩
 have vg:∀ q∈out,xV q:=fun q hq=>⟨zda I a5 q hq,zcj I a5 q hq⟩
 refine ⟨us,hb,hb2,tab,ht,hv,hl,o,nl,gl,a1,s.no,a3,out,a4,vn,vg,by lia,fun d zs H1 s1 fd hd vz lz=>?_⟩
 have ll:(tab ++ zs ++ s.no).length≤46:=by rw [List.length_append,List.length_append];lia
 have ld:=xb (tab ++ zs ++ s.no)
 have va:∀ q∈tab ++ zs ++ s.no,xV q:=fun q hq=>by
  rcases List.mem_append.mp hq with hq | hq
  ·rcases List.mem_append.mp hq with hq | hq
   ·exact hv q hq
   ·exact vz q hq
  ·exact vn q hq
 refine ⟨_,hd,by lia,fun sd sec H2 s2 fl la T=>?_⟩
 exact zaX (H0:=H) (pre:=tab ++ zs) (s1.trans s2) fd B ⟨la,T,by have:=W8 T;lia,Xn T va⟩ (s2 _ _ hd) va ll q
theorem Va {us:List Str} (h1:qE yO H v r) (h2:RwA r 14) (h3:NamesAt H b us) (h4:us.length=2) (h5:LsAt H tl tab) (h6:∀ r∈tab,xV r) (h7:tab.length≤6) (q:∀ H',Same H H'→Q (.bl true) H') :
  qj K t { nx:=fun _ H'=>Q .non H',rt:=Q } (L2.start ["rows","cell","shelves","table","code","paper","worths","second","at","place","worth","third","kept","turned"] [v,.int c,.ref b,.ref tl]) H:=by
 simp only [qj,qZ,ke,y7,yg,ZK,vT,xA,L2.start,Xt,qT,zv,zn,zH,zl,jJ,xu,jI,zt,zD,tOp,zc,tC,yM,z0,zb,zj,zF,tOr,xx,zp,tB,kx,tCB,tSl,xh,yr,zo,vS,xA,xz,zv,rI,rI0,Zi,xP,List.map,List.replicate,List.length,List.append,jqa,jqb,jqc,jqd,jqe,jqf,jqg,jqh,jqi,jqj,jqk,jql,jqm,jqn,and_true,true_and,and_assoc,jqo,jqp,jqq,jqr,jqs,jqt,if_true,ite_true,jqu,ite_false,if_false]
 have z:=jT r 0
 have z2:=h2.sz
 have ok:Y9 6 r:=⟨by have:=h2.dp;lia,by lia,h2.pl⟩
 have O:=zdD ok h2.ok (by lia)
 refine ⟨r,h1,ok,by lia,fun l xs H1 s1 fl hl hc=>?_⟩
 refine ⟨xs,hl,zm r 0,hc,O,tab,jn h5 s1,by lia,fun q hq=>(h6 q hq).1,fun rp s H2 s2 F P=>?_⟩
 obtain ⟨o,nl,gl,out,a1,a2,a3,a4,a5,a6,a7⟩:=id P
 refine ⟨nl,gl,o,a1,s.no,a3,out,a4,fun H3 s3=>?_⟩
 rw [if_neg (by decide)]
 have U:=s1.trans (s2.trans s3)
 exact zaY (h3.same U) h4 (jn h5 U) h6 h7 ⟨W9 U h1,h2,(s2.trans s3) _ _ hl,wr (s2.trans s3) hc,O,F,P.same s3,by lia⟩ fun H' s'=>q H' (U.trans s')
end
theorem zdc {i:Nat} {j c:Int} (hj:0≤j) (hc:0 < c) (h:i < WP 0 j c):(i:Int) * c < j:=by
 unfold WP at h
 split at h
 ·have h2:(i:Int)≤(j - 0 - 1) / c:=by lia
  have h3:=(Int.le_ediv_iff_mul_le hc).mp h2
  lia
 ·lia
theorem zb5 (ns:List Int) (k m:Nat) (hk:k < ns.length) (hm:1≤m):∃ ys:List Int,Z7 (ns.map V.int) (some (k:Int)) (some ((k + m:Nat):Int))=ys.map V.int∧ys.length≤m:=by
 refine ⟨(ns.drop k).take m,?_,?_⟩
 ·unfold Z7
  rw [List.length_map,HT.sIx_nat,HT.sIx_nat,List.map_take,List.map_drop,Nat.min_eq_left (by lia:k≤ns.length)]
  by_cases c:k + m≤ns.length
  ·rw [Nat.min_eq_left c,Nat.add_sub_cancel_left]
  ·rw [Nat.min_eq_right (by lia)]
   rw [List.take_of_length_le (by simp),List.take_of_length_le (by simp;lia)]
 ·rw [List.length_take];lia
def lwI (a sa sb cl:Addr) (mn:Int) (H:Hp) (i:Nat) (σ:St) (H':Hp):Prop:=(∃ o5 o6,σ=[some (.ref a),some (.ref sa),some (.ref sb),some (.int mn),some (.ref cl),o5,o6])∧Same H H'
theorem zaZ {a sa sb cl:Addr} {mn:Int} {cs:List Int} {ws us:List Str} (n1:NamesAt H sa ws) (n2:ws.length=2) (n3:NamesAt H sb us) (n4:us.length=2) (hc:H cl=some (.lst (cs.map V.int))) (lc:cs.length≤63) (m1:1≤mn) (m2:mn≤14) (q:∀ H',Q (.bl true) H') :
  Xc K t { nx:=fun _ H'=>Q .non H',rt:=Q } [some (.ref a),some (.ref sa),some (.ref sb),some (.int mn),some (.ref cl),none,none] H:=by
 simp only [Xc,kc,kZ,jt,VR,L2.start,zn,zH,zl,zt,zD,tOp,zc,tC,zb,zj,yH,zF,xx,tB,tCB,tSl,xh,zo,vS,xz,rI0,Zi,xP,List.map,List.replicate,List.length,List.append,jqa,jqb,jqc,jqd,jqe,jqf,jqg,jqh,jqi,jqj,jqk,jql,jqm,jqn,and_true,true_and,and_assoc,jqo,jqp,jqq,jqr,jqs,jqt,if_true,ite_true,jqu,ite_false,if_false]
 have lm:(cs.map V.int).length=cs.length:=List.length_map ..
 refine ⟨cs.length,.inl ⟨_,SqL.of hc,by rw [lm]⟩,by lia,by lia,by lia,by lia,by lia,by lia,Jc (lwI a sa sb cl mn H) ⟨⟨_,_,rfl⟩,Same.refl H⟩ ?_ ?_⟩
 ·rintro i σ H1 hi ⟨⟨o5,o6,rfl⟩,s1⟩
  simp only [VR,L2.start,zn,zH,zl,zt,zD,tOp,zc,tC,zb,zj,yH,zF,xx,tB,tCB,tSl,xh,zo,vS,xz,rI0,Zi,xP,List.map,List.replicate,List.length,List.append,jqa,jqb,jqc,jqd,jqe,jqf,jqg,jqh,jqi,jqj,jqk,jql,jqm,jqn,and_true,true_and,and_assoc,jqo,jqp,jqq,jqr,jqs,jqt,if_true,ite_true,jqu,ite_false,if_false,Int.zero_add]
  refine ⟨_,SqL.of (s1 _ _ hc),fun p hp=>?_⟩
  have lt:=zdc (by lia) (by lia) hi
  have im:0≤(i:Int) * mn:=Int.mul_nonneg (by lia) (by lia)
  obtain ⟨k,ek⟩:∃ k:Nat,(i:Int) * mn=k:=⟨((i:Int) * mn).toNat,(Int.toNat_of_nonneg im).symm⟩
  obtain ⟨m,em⟩:∃ m:Nat,mn=m:=⟨mn.toNat,by lia⟩
  obtain ⟨es,ee,le⟩:=zb5 cs k m (by lia) (by lia)
  have e2:(i:Int) * mn + mn=((k + m:Nat):Int):=by rw [ek,em];lia
  rw [e2,ek,ee]
  have s2:=isV (o:=HO.lst (es.map V.int)) p hp
  have S2:=s1.trans s2
  have hp2:upd H1 p (HO.lst (es.map V.int)) p=some (.lst (es.map V.int)):=zd
  generalize upd H1 p (HO.lst (es.map V.int))=H2 at *
  refine ⟨es,hp2,by lia,ws,n1.same S2,n2,us,n3.same S2,n4,fun v r H3 s3 hv ra=>?_⟩
  have S3:=S2.trans s3
  have hk:(cs.map V.int)[k]?=some (.int cs[k]):=by rw [List.getElem?_map,List.getElem?_eq_getElem (by lia)];rfl
  refine ⟨_,SqL.of (S3 _ _ hc),_,qp hk,_,SqL.of (S3 _ _ hc),_,qp hk,_,rfl,us,n3.same S3,n4,fun tl tab H4 s4 la lt hv4=>?_⟩
  have S4:=S3.trans s4
  refine ⟨_,rfl,us,tab,r,W9 s4 hv,ra,n3.same S4,n4,la,hv4,lt,fun H5 s5=>?_⟩
  rw [if_neg (by decide)]
  exact ⟨⟨_,_,rfl⟩,S4.trans s5⟩
 ·rintro σ H1 ⟨⟨o5,o6,rfl⟩,s1⟩
  exact q _
theorem zb6 {a:Addr} {ns:List Int} (hS:SqL K H a (ns.map V.int)) (hn:ns.length≤63) (q:∀ H',Q (.bl true) H') :
  J2 K t { nx:=fun _ H'=>Q .non H',rt:=Q } (L2.start ["script","slots","shelves","many","cells","at","rows"] [.ref a]) H:=by
 simp only [J2,xl,zr,wQ,VR,L2.start,zn,zH,zl,zt,zD,tOp,zc,tC,zb,zj,yH,zF,xx,tB,tCB,tSl,xh,yr,zo,vS,xz,rI,rI0,Zi,xP,List.map,List.replicate,List.length,List.append,jqa,jqb,jqc,jqd,jqe,jqf,jqg,jqh,jqi,jqj,jqk,jql,jqm,jqn,and_true,true_and,and_assoc,jqo,jqp,jqq,jqr,jqs,jqt,if_true,ite_true,jqu,ite_false,if_false]
 refine ⟨ns,0,rfl,hS,hn,fun c1 H1 s1=>⟨by decide,by decide,fun sa ws H2 s2 n1 n2=>⟨ns,1,rfl,hS.mono (s1.trans s2),hn,fun c2 H3 s3=>⟨by decide,by decide,fun sb us H4 s4 n3 n4=>?_⟩⟩⟩⟩
 have S4:=s1.trans (s2.trans (s3.trans s4))
 refine ⟨ns,0,rfl,hS.mono S4,hn,fun c3 H5 s5=>⟨by decide,by decide,fun r H6 a6 b6 s6=>⟨by decide,_,hS.mono (S4.trans (s5.trans s6)),fun p hp=>?_⟩⟩⟩
 obtain ⟨cs,ec,lc⟩:=zbQ ns none (some 240)
 rw [ec]
 have s7:=isV (o:=HO.lst (cs.map V.int)) p hp
 have g1:=Int.emod_nonneg r (b:=14) (by decide)
 have g2:=Int.emod_lt_of_pos r (b:=14) (by decide)
 exact zaZ (n1.same (s3.trans (s4.trans (s5.trans (s6.trans s7))))) (by lia) (n3.same (s5.trans (s6.trans s7))) (by lia) zd (by lia) (by lia) (by lia) q
end
section
variable {P:Program} {w:World} {K:W.Frag} {mg:Str→Option Value} {base:Heap} {t:Adr}
theorem zQ (T:Txt K mg t):FnOk P w K mg base (CX1 P w) 1 t.a__law_draw t.d__law_draw ["cell","j"] (zr):=by
 refine T.f__law_draw.ok0 sc__law_draw (fun vs H Q E h=>?_) (fun cdv A outer s H vs Q E hr h=>?_)
 ·obtain ⟨c,j,rfl,_⟩:=h;rfl
 obtain ⟨c,j,rfl,h1,h2,q⟩:=h
 exact ⟨kh K t,(zg (zK (i:=2) sc__law_draw.nd rfl (Or.inl rfl) (zx yo (zx z7 (zx wk (zx yo (pv 0) (zf (i:=1000000007))) (zf (i:=6700417))) (zx wk (zx wk (zx z7 (pv 1) (zf (i:=1))) (zf (i:=104729))) (zf (i:=65537)))) (zf (i:=1000000009))))
  (zi (zA (zx Vv (zx yo (zx wk (zx yo (zx wk (pv 2) (pv 2)) (zf (i:=1000000009))) (pv 2)) (zf (i:=1000000009))) (zf (i:=32)))))),Xy h1 h2 q⟩
theorem qP (T:Txt K mg t):FnOk P w K mg base (CX1 P w) 2 t.a__law_names t.d__law_names ["cell","many"] (wQ):=by
 refine T.f__law_names.ok0 sc__law_names (fun vs H Q E h=>?_) (fun cdv A outer s H vs Q E hr h=>?_)
 ·obtain ⟨c,m,rfl,_⟩:=h;rfl
 obtain ⟨c,m,rfl,h1,h2,q⟩:=h
 exact ⟨jv K t,(zg (zK (i:=2) sc__law_names.nd rfl (Or.inl rfl) (zx z7 (zf (i:=1)) (zx yo (zq (FnOk.mono (zQ T) (by decide)) hr rfl T.m__law_draw T.f__law_draw.kp T.b__law_draw .nil zw (za (pv 0) (za (zf (i:=1)) ze))) (zf (i:=6)))))
  (zg (zK (i:=3) sc__law_names.nd rfl (Or.inr rfl) (zR (x:="zyxwvtsrqpnmlkjhgfdcb")))
  (zg (zY (zy yW (pv 2) (zf (i:=6)) (zL _)) (zi (zK (i:=3) sc__law_names.nd rfl (Or.inr rfl) (zR (x:="zyxwvutsrqponmlkjihgfedcba"))))
    zS)
  (zg (zK (i:=4) sc__law_names.nd rfl (Or.inr rfl) (zR (x:="")))
  (zg (vR PassesOwn.never rfl (qo rfl T.b_range (za (pv 2) ze)) (yz (i:=5) sc__law_names.nd rfl (Or.inl rfl)) (zi (zK (i:=4) sc__law_names.nd rfl (Or.inr rfl) (zx j0 (pv 4) (zO QO (pv 3) (zx yo (zq (FnOk.mono (zQ T) (by decide)) hr rfl T.m__law_draw T.f__law_draw.kp T.b__law_draw .nil zw (za (pv 0) (za (zx z7 (zf (i:=2)) (pv 5)) ze))) (ya xy rfl T.b_len vU (za (pv 3) ze))) (fun _ _=>rfl))))))
  (zg (zK (i:=6) sc__law_names.nd rfl (Or.inr rfl) (zx yo (zq (FnOk.mono (zQ T) (by decide)) hr rfl T.m__law_draw T.f__law_draw.kp T.b__law_draw .nil zw (za (pv 0) (za (zf (i:=8)) ze))) (pv 2)))
  (zg (zK (i:=7) sc__law_names.nd rfl (Or.inl rfl) (zx yo (zq (FnOk.mono (zQ T) (by decide)) hr rfl T.m__law_draw T.f__law_draw.kp T.b__law_draw .nil zw (za (pv 0) (za (zf (i:=9)) ze))) (ya xy rfl T.b_len vU (za (pv 3) ze))))
  (zg (zK (i:=3) sc__law_names.nd rfl (Or.inr rfl) (zx j0 (wS WD (pv 3) (vF (pv 7)) j2) (wS WD (pv 3) j2 (vF (pv 7)))))
  (zi (zA (WB rfl (osc:=zh xc) (N:=["cell","many","size","signs","stem","k","at","turn"]) (xs:=["k"]) (ix:=[4,6,3]) (by decide +kernel) (qo rfl T.b_range (za (pv 1) ze)) (fun _ _ _ _=>(yz (i:=0) (show List.Nodup (["k","stem","at","signs"]:List Str) from (by decide +kernel)) rfl (Or.inl rfl) (.inr rfl))) (fun _ _ _ _=>zbf) (fun _ _ _ _=>(zx j0 (zx j0 (wS WD (pv 1) j2 (vF (pv 2))) (zO QO (pv 3) (pv 0) (fun _ _=>rfl))) (wS WD (pv 1) (vF (zx z7 (pv 2) (zf (i:=1)))) j2)))))))))))))),Xe h1 h2 q⟩
theorem vt (T:Txt K mg t):FnOk P w K mg base (CX1 P w) 1 t.a__law_cell_at t.d__law_cell_at ["script","k"] (xl K):=by
 refine T.f__law_cell_at.ok0 Ya (fun vs H Q E h=>?_) (fun cdv A outer s H vs Q E hr h=>?_)
 ·obtain ⟨a,ns,k,rfl,_⟩:=h;rfl
 obtain ⟨a,ns,k,rfl,hS,hl,q⟩:=h
 exact ⟨vh K t,(zg (zY (zy ZW (pv 1) (ya xy rfl T.b_len vU (za (pv 0) ze)) (zL _)) (zi (zA (zO xC (pv 0) (pv 1) (fun _ _=>rfl))))
   zS)
  (zi (zA (zf (i:=0))))),ZR hS hl q⟩
theorem Vb (T:Txt K mg t):∀ n,FnOk P w K mg base (CX1 P w) (1 + n) t.a__law_deep t.d__law_deep ["rows"] (xg n):=by
 intro n
 induction n with
 | zero=>exact ⟨fun vs H Q E h=>(qO h).elim,fun A outer s H args us vs Q E hr he hb hv h=>(qO h).elim⟩
 | succ n IH =>
 refine T.f__law_deep.ok0 sc__law_deep (k:=1 + n) (fun vs H Q E h=>?_) (fun cdv A outer s H vs Q E hr h=>?_)
 ·obtain ⟨v,r,rfl,_⟩:=h;rfl
 obtain ⟨v,r,rfl,h1,h2,q⟩:=h
 exact ⟨ki K t n,(zg (zK (i:=1) sc__law_deep.nd rfl (Or.inl rfl) (zf (i:=0)))
  (zg (vR PassesOwn.never rfl (jY (pv 0)) (yz (i:=2) sc__law_deep.nd rfl (Or.inl rfl)) (zi (zY (zy yW (zO zM (pv 2) (zf (i:=0)) (fun _ _=>rfl)) (zR (x:="if")) (zL _)) (zi (zK (i:=1) sc__law_deep.nd rfl (Or.inl rfl) (ya (XQ rfl) rfl T.b_max QX (za (pv 1) (za (zx z7 (zf (i:=1)) (ya (XQ rfl) rfl T.b_max QX (za (zq (FnOk.mono IH (by lia)) hr rfl T.m__law_deep T.f__law_deep.kp T.b__law_deep .nil zw (za (zO zM (pv 2) (zf (i:=2)) (fun _ _=>rfl)) ze)) (za (zq (FnOk.mono IH (by lia)) hr rfl T.m__law_deep T.f__law_deep.kp T.b__law_deep .nil zw (za (zO zM (pv 2) (zf (i:=3)) (fun _ _=>rfl)) ze)) ze)))) ze)))))
    zS)))
  (zi (zA (pv 1))))),XE h1 h2 q⟩
theorem yK (T:Txt K mg t):FnOk P w K mg base (CX1 P w) 2 t.a__law_number t.d__law_number ["cell","j"] (zU):=by
 refine T.f__law_number.ok0 Y6 (fun vs H Q E h=>?_) (fun cdv A outer s H vs Q E hr h=>?_)
 ·obtain ⟨c,j,rfl,_⟩:=h;rfl
 obtain ⟨c,j,rfl,h1,h2,q⟩:=h
 exact ⟨v4 K t,(zg (zY (zy yW (zx yo (zq (FnOk.mono (zQ T) (by decide)) hr rfl T.m__law_draw T.f__law_draw.kp T.b__law_draw .nil zw (za (pv 0) (za (pv 1) ze))) (zf (i:=6))) (zf (i:=3)) (zL _)) (zi (zA (zx Yw (zx yo (zx z7 (zx wk (zx wk (zx yo (pv 0) (zx Yx (zf (i:=10)) (zf (i:=40)))) (zx z7 (pv 1) (zf (i:=2)))) (zf (i:=1000003))) (pv 1)) (zx z7 (zx wk (zf (i:=2)) (zx Yx (zf (i:=10)) (zf (i:=30)))) (zf (i:=1)))) (zx Yx (zf (i:=10)) (zf (i:=30))))))
   zS)
  (zi (zA (zx Yw (zx yo (zq (FnOk.mono (zQ T) (by decide)) hr rfl T.m__law_draw T.f__law_draw.kp T.b__law_draw .nil zw (za (pv 0) (za (zx z7 (pv 1) (zf (i:=1))) ze))) (zf (i:=5))) (zf (i:=1)))))),Yf h1 h2 q⟩
theorem wu (T:Txt K mg t):FnOk P w K mg base (CX1 P w) 3 t.a__law_term t.d__law_term ["cell","j","slots"] (yt):=by
 refine T.f__law_term.ok0 sc__law_term (fun vs H Q E h=>?_) (fun cdv A outer s H vs Q E hr h=>?_)
 ·obtain ⟨c,j,a,ws,rfl,_⟩:=h;rfl
 obtain ⟨c,j,a,ws,rfl,h1,h2,h3,h4,q⟩:=h
 exact ⟨kj K t,(zg (zK (i:=3) sc__law_term.nd rfl (Or.inl rfl) (zO xC (pv 2) (zx yo (zq (FnOk.mono (zQ T) (by decide)) hr rfl T.m__law_draw T.f__law_draw.kp T.b__law_draw .nil zw (za (pv 0) (za (pv 1) ze))) (zf (i:=2))) (fun _ _=>rfl)))
  (zg (zK (i:=4) sc__law_term.nd rfl (Or.inl rfl) (zx yo (zq (FnOk.mono (zQ T) (by decide)) hr rfl T.m__law_draw T.f__law_draw.kp T.b__law_draw .nil zw (za (pv 0) (za (zx z7 (pv 1) (zf (i:=1))) ze))) (zf (i:=6))))
  (zg (zY (zy ZW (pv 4) (zf (i:=2)) (zL _)) (zi (zA (yh (za (pv 3) ze))))
    zS)
  (zg (zY (zy ZW (pv 4) (zf (i:=4)) (zL _)) (zi (zA (yh (za (zq (FnOk.mono (yK T) (by decide)) hr rfl T.m__law_number T.f__law_number.kp T.b__law_number .nil zw (za (pv 0) (za (zx z7 (pv 1) (zf (i:=2))) ze))) ze))))
    zS)
  (zg (zK (i:=5) sc__law_term.nd rfl (Or.inl rfl) (xa (za (zR (x:="plus")) (za (zR (x:="minus")) (za (zR (x:="rest")) (za (zR (x:="under")) (za (zR (x:="times")) (za (zR (x:="same")) ze))))))))
  (zi (zA (yh (za (pv 3) (za (zq (FnOk.mono (yK T) (by decide)) hr rfl T.m__law_number T.f__law_number.kp T.b__law_number .nil zw (za (pv 0) (za (zx z7 (pv 1) (zf (i:=2))) ze))) (za (zO xC (pv 5) (zx yo (zq (FnOk.mono (zQ T) (by decide)) hr rfl T.m__law_draw T.f__law_draw.kp T.b__law_draw .nil zw (za (pv 0) (za (zx z7 (pv 1) (zf (i:=6))) ze))) (zf (i:=6))) (fun _ _=>rfl)) ze))))))))))),XD h1 h2 h3 h4 q⟩
theorem Z5 (T:Txt K mg t):FnOk P w K mg base (CX1 P w) 4 t.a__law_row t.d__law_row ["cell","slots","shelves"] (w6):=by
 refine T.f__law_row.ok0 sc__law_row (fun vs H Q E h=>?_) (fun cdv A outer s H vs Q E hr h=>?_)
 ·obtain ⟨c,a,b,ws,us,rfl,_⟩:=h;rfl
 obtain ⟨c,a,b,ws,us,rfl,h1,h2,h3,h4,q⟩:=h
 exact ⟨k4 K t,(zg (zK (i:=3) sc__law_row.nd rfl (Or.inl rfl) (zx yo (zq (FnOk.mono (zQ T) (by decide)) hr rfl T.m__law_draw T.f__law_draw.kp T.b__law_draw .nil zw (za (pv 0) (za (zf (i:=0)) ze))) (zf (i:=16))))
  (zg (zK (i:=4) sc__law_row.nd rfl (Or.inl rfl) (zO xC (pv 2) (zx yo (zq (FnOk.mono (zQ T) (by decide)) hr rfl T.m__law_draw T.f__law_draw.kp T.b__law_draw .nil zw (za (pv 0) (za (zf (i:=60)) ze))) (zf (i:=2))) (fun _ _=>rfl)))
  (zg (zK (i:=5) sc__law_row.nd rfl (Or.inl rfl) (zO xC (pv 1) (zx yo (zq (FnOk.mono (zQ T) (by decide)) hr rfl T.m__law_draw T.f__law_draw.kp T.b__law_draw .nil zw (za (pv 0) (za (zf (i:=61)) ze))) (zf (i:=2))) (fun _ _=>rfl)))
  (zg (zK (i:=6) sc__law_row.nd rfl (Or.inl rfl) (yh (za (zx yo (zq (FnOk.mono (zQ T) (by decide)) hr rfl T.m__law_draw T.f__law_draw.kp T.b__law_draw .nil zw (za (pv 0) (za (zf (i:=62)) ze))) (zf (i:=3))) ze)))
  (zg (zY (zy yW (zx yo (zq (FnOk.mono (zQ T) (by decide)) hr rfl T.m__law_draw T.f__law_draw.kp T.b__law_draw .nil zw (za (pv 0) (za (zf (i:=63)) ze))) (zf (i:=3))) (zf (i:=0)) (zL _)) (zi (zK (i:=6) sc__law_row.nd rfl (Or.inl rfl) (zq (FnOk.mono (wu T) (by decide)) hr rfl T.m__law_term T.f__law_term.kp T.b__law_term .nil zw (za (pv 0) (za (zf (i:=70)) (za (pv 1) ze))))))
    zS)
  (zg (zY (zy ZW (pv 3) (zf (i:=7)) (zL _)) (zi (zA (yh (za (zR (x:="take")) (za (pv 4) (za (pv 6) (za (pv 5) ze)))))))
    zS)
  (zg (zY (zy ZW (pv 3) (zf (i:=11)) (zL _)) (zi (zA (yh (za (zR (x:="give")) (za (pv 4) (za (pv 6) (za (zq (FnOk.mono (wu T) (by decide)) hr rfl T.m__law_term T.f__law_term.kp T.b__law_term .nil zw (za (pv 0) (za (zf (i:=80)) (za (pv 1) ze)))) ze)))))))
    zS)
  (zg (zY (zy yW (pv 3) (zf (i:=11)) (zL _)) (zi (zA (yh (za (zR (x:="off")) (za (yh (za (pv 5) (za (zq (FnOk.mono (yK T) (by decide)) hr rfl T.m__law_number T.f__law_number.kp T.b__law_number .nil zw (za (pv 0) (za (zf (i:=90)) ze))) (za (zR (x:="same")) ze)))) ze)))))
    zS)
  (zi (zA (yh (za (zR (x:="let")) (za (pv 5) (za (zq (FnOk.mono (wu T) (by decide)) hr rfl T.m__law_term T.f__law_term.kp T.b__law_term .nil zw (za (pv 0) (za (zf (i:=80)) (za (pv 1) ze)))) ze)))))))))))))),W6 h1 h2 h3 h4 q⟩
theorem Vc (T:Txt K mg t):FnOk P w K mg base (CX1 P w) 8 t.a__law_rows t.d__law_rows ["cells","slots","shelves"] (kc):=by
 refine T.f__law_rows.ok0 sc__law_rows (fun vs H Q E h=>?_) (fun cdv A outer s H vs Q E hr h=>?_)
 ·obtain ⟨p,ns,a,b,ws,us,rfl,_⟩:=h;rfl
 obtain ⟨p,ns,a,b,ws,us,rfl,h1,h2,h3,h4,h5,h6,q⟩:=h
 exact ⟨km K t,(zg (zK (i:=3) sc__law_rows.nd rfl (Or.inl rfl) (xa ze))
  (zg (zK (i:=4) sc__law_rows.nd rfl (Or.inl rfl) (xa ze))
  (zg (vR PassesOwn.never rfl (jY (pv 0)) (yz (i:=5) sc__law_rows.nd rfl (Or.inl rfl)) (zg (zK (i:=6) sc__law_rows.nd rfl (Or.inl rfl) (zx yo (zq (FnOk.mono (zQ T) (by decide)) hr rfl T.m__law_draw T.f__law_draw.kp T.b__law_draw .nil zw (za (pv 5) (za (zf (i:=0)) ze))) (zf (i:=16))))
  (zi (zY (PW.pt (Jq (zy XX (pv 6) (yh (za (zf (i:=13)) (za (zf (i:=14)) ze))) (by with_unfolding_all rfl)) (Jq (zy (zau (WF hr)) (pv 3) (xa ze) (zL _)) (Kf (zy ZW (zq (FnOk.mono (Vb T 6) (by decide)) hr rfl T.m__law_deep T.f__law_deep.kp T.b__law_deep .nil zw (za (pv 3) ze)) (zf (i:=5)) (zL _)))))) (zg (zK (i:=3) sc__law_rows.nd rfl (Or.inl rfl) (xa (za (yh (za (zR (x:="if")) (za (zq (FnOk.mono (wu T) (by decide)) hr rfl T.m__law_term T.f__law_term.kp T.b__law_term .nil zw (za (pv 5) (za (zf (i:=100)) (za (pv 1) ze)))) (za (pv 3) (za (pv 4) ze))))) ze)))
  (zi (zK (i:=4) sc__law_rows.nd rfl (Or.inl rfl) (xa ze))))
   (zi (zY (PW.pt (Jq (zy yW (pv 6) (zf (i:=15)) (zL _)) (Kf (zy ZW (ya xy rfl T.b_len vU (za (pv 4) ze)) (zf (i:=3)) (zL _))))) (zi (zK (i:=4) sc__law_rows.nd rfl (Or.inl rfl) (zx kN (pv 4) (xa (za (yh (za (zR (x:="say")) (za (zq (FnOk.mono (wu T) (by decide)) hr rfl T.m__law_term T.f__law_term.kp T.b__law_term .nil zw (za (pv 5) (za (zf (i:=80)) (za (pv 1) ze)))) ze))) (za (zq (FnOk.mono (Z5 T) (by decide)) hr rfl T.m__law_row T.f__law_row.kp T.b__law_row .nil zw (za (zx z7 (pv 5) (zf (i:=1))) (za (pv 1) (za (pv 2) ze)))) ze))))))
   (zi (zK (i:=3) sc__law_rows.nd rfl (Or.inl rfl) (zx kN (pv 3) (xa (za (zq (FnOk.mono (Z5 T) (by decide)) hr rfl T.m__law_row T.f__law_row.kp T.b__law_row .nil zw (za (pv 5) (za (pv 1) (za (pv 2) ze)))) ze)))))))))))
  (zi (zA (zx kN (pv 3) (pv 4))))))),XG h1 h2 h3 h4 h5 h6 q⟩
theorem Xq (T:Txt K mg t) (n:Nat) (IH:FnOk P w K mg base (CX1 P w) (2 + 2 * n) t.a_steps_of t.d_steps_of ["rows","first"] (y8 n)):FnOk P w K mg base (CX1 P w) (2 + 2 * n + 1) t.a_block_steps t.d_block_steps ["row","at"] (vZ n):=by
 refine T.f_block_steps.ok0 sc_block_steps (k:=2 + 2 * n) (fun vs H Q E h=>?_) (fun cdv A outer s H vs Q E hr h=>?_)
 ·obtain ⟨v,e,a,b,k,rfl,_⟩:=h;rfl
 obtain ⟨v,e,a,b,k,rfl,h1,h2,h3,h4,q⟩:=h
 exact ⟨v9 K t n,(zg (zK (i:=2) sc_block_steps.nd rfl (Or.inl rfl) (zq (FnOk.mono IH (by lia)) hr rfl T.m_steps_of T.f_steps_of.kp T.b_steps_of .nil zw (za (zO zM (pv 0) (zf (i:=2)) (fun _ _=>rfl)) (za (zx z7 (pv 1) (zf (i:=1))) ze))))
  (zg (zK (i:=3) sc_block_steps.nd rfl (Or.inl rfl) (zx z7 (zx z7 (pv 1) (zf (i:=1))) (ya xy rfl T.b_len vU (za (pv 2) ze))))
  (zg (zY (zy (VA (WF hr)) (zO zM (pv 0) (zf (i:=3)) (fun _ _=>rfl)) (xa ze) (zL _)) (zi (zA (zx kN (xa (za (yh (za (zR (x:="skip")) (za (zO zM (pv 0) (zf (i:=1)) (fun _ _=>rfl)) (za (pv 3) ze)))) ze)) (pv 2))))
    zS)
  (zg (zK (i:=4) sc_block_steps.nd rfl (Or.inl rfl) (zq (FnOk.mono IH (by lia)) hr rfl T.m_steps_of T.f_steps_of.kp T.b_steps_of .nil zw (za (zO zM (pv 0) (zf (i:=3)) (fun _ _=>rfl)) (za (zx z7 (pv 3) (zf (i:=1))) ze))))
  (zi (zA (zx kN (zx kN (zx kN (xa (za (yh (za (zR (x:="skip")) (za (zO zM (pv 0) (zf (i:=1)) (fun _ _=>rfl)) (za (zx z7 (pv 3) (zf (i:=1))) ze)))) ze)) (pv 2)) (xa (za (yh (za (zR (x:="go")) (za (zx z7 (zx z7 (pv 3) (zf (i:=1))) (ya xy rfl T.b_len vU (za (pv 4) ze))) ze))) ze))) (pv 4)))))))),Ye h1 h2 h3 h4 q⟩
theorem Ji (T:Txt K mg t):∀ n,FnOk P w K mg base (CX1 P w) (2 + 2 * n) t.a_steps_of t.d_steps_of ["rows","first"] (y8 n):=by
 intro n
 induction n with
 | zero=>exact ⟨fun vs H Q E h=>(Zu h).elim,fun A outer s H args us vs Q E hr he hb hv h=>(Zu h).elim⟩
 | succ n IH =>
 refine T.f_steps_of.ok0 sc_steps_of (k:=2 + 2 * n + 1) (fun vs H Q E h=>?_) (fun cdv A outer s H vs Q E hr h=>?_)
 ·obtain ⟨v,r,k,rfl,_⟩:=h;rfl
 obtain ⟨v,r,k,rfl,h1,h2,h3,q⟩:=h
 exact ⟨qa K t n,(zg (zK (i:=2) sc_steps_of.nd rfl (Or.inl rfl) (xa ze))
  (zg (vR PassesOwn.never rfl (jY (pv 0)) (yz (i:=3) sc_steps_of.nd rfl (Or.inl rfl)) (zi (zY (zy yW (zO zM (pv 3) (zf (i:=0)) (fun _ _=>rfl)) (zR (x:="if")) (zL _)) (zi (vE (XY PySem.F.plainAttrs_list PySem.F.slot_list_extend PySem.F.type_list_extend Qg (pv 2) (za (zq (FnOk.mono (Xq T n IH) (by lia)) hr rfl T.m_block_steps T.f_block_steps.kp T.b_block_steps .nil zw (za (pv 3) (za (zx z7 (pv 1) (ya xy rfl T.b_len vU (za (pv 2) ze))) ze))) ze))))
    (zi (vE (XY PySem.F.plainAttrs_list PySem.F.slot_list_append PySem.F.type_list_append vK (pv 2) (za (pv 3) ze)))))))
  (zi (zA (pv 2))))),WV h1 h2 h3 q⟩
theorem Kc (T:Txt K mg t):FnOk P w K mg base (CX1 P w) 15 t.a_code_of t.d_code_of ["rows"] (qZ):=by
 refine T.f_code_of.ok0 JW (fun vs H Q E h=>?_) (fun cdv A outer s H vs Q E hr h=>?_)
 ·obtain ⟨v,r,rfl,_⟩:=h;rfl
 obtain ⟨v,r,rfl,h1,h2,h3,q⟩:=h
 exact ⟨q9 K t,(zi (zA (zq (FnOk.mono (Ji T 6) (by decide)) hr rfl T.m_steps_of T.f_steps_of.kp T.b_steps_of .nil zw (za (pv 0) (za (zf (i:=0)) ze))))),V4 h1 h2 h3 q⟩
theorem Jj (T:Txt K mg t):FnOk P w K mg base (CX1 P w) 1 t.a_Run_init t.d_Run_init ["self","code"] (kX t):=by
 refine T.f_Run_init.ok0 VW (fun vs H Q E h=>?_) (fun cdv A outer s H vs Q E hr h=>?_)
 ·obtain ⟨x,l,dx,xs,C,rfl,_⟩:=h;rfl
 obtain ⟨x,l,dx,xs,C,rfl,h1,h2,h3,q⟩:=h
 exact ⟨qb K t,(zg (wA (f:="code") (pv 0) (yY j3 rfl T.b_list j5 (za (pv 1) ze)) rfl)
  (zg (wA (f:="at") (pv 0) (zf (i:=0)) rfl)
  (zg (wA (f:="why") (pv 0) kK rfl)
  (zg (wA (f:="slots") (pv 0) Vq rfl)
  (zg (wA (f:="gifts") (pv 0) YH rfl)
  (zg (wA (f:="notes") (pv 0) YH rfl)
  (zi (wA (f:="sayings") (pv 0) (xa ze) rfl)))))))),WX (rnF T) h1 h2 h3 q⟩
theorem jo (T:Txt K mg t):FnOk P w K mg base (CX1 P w) 1 t.a_Run_over t.d_Run_over ["self"] (yC t):=by
 refine T.f_Run_over.ok0 VX (fun vs H Q E h=>?_) (fun cdv A outer s H vs Q E hr h=>?_)
 ·obtain ⟨x,a,C,s,rfl,_⟩:=h;rfl
 obtain ⟨x,a,C,s,rfl,h1,q⟩:=h
 exact ⟨qc K t,(zi (zA (zdg (Zg Kk (z5 (f:="why") (pv 0) rfl) kK (zL _)) (Jr (Zg zdk (z5 (f:="at") (pv 0) rfl) (ya xy rfl T.b_len vU (za (z5 (f:="code") (pv 0) rfl) ze)) (zL _)))))),WW (rnF T) h1 q⟩
theorem Vd (T:Txt K mg t):FnOk P w K mg base (CX1 P w) 2 t.a_Run_paper t.d_Run_paper ["self"] (vH t):=by
 refine T.f_Run_paper.ok0 sc_Run_paper (fun vs H Q E h=>?_) (fun cdv A outer s H vs Q E hr h=>?_)
 ·obtain ⟨x,a,C,s,rfl,_⟩:=h;rfl
 obtain ⟨x,a,C,s,rfl,h1,h2,h3,h4,q1,q2⟩:=h
 exact ⟨ko K t,(zg (zY (jX (wz (jK (pv 0) T.cl_Run T.me_Run_over (FnOk.mono (jo T) (by decide)) hr T.b_Run_over .nil zw))) (zi (zA kK))
   zS)
  (zg (zK (i:=1) sc_Run_paper.nd rfl (Or.inl rfl) (yY (kA rfl) rfl T.b_list j5 (za (YY (z5 (f:="notes") (pv 0) rfl)) ze)))
  (zg (zY (zy Kk (z5 (f:="why") (pv 0) rfl) kK (zL _)) (zi (zA (yh (za (yh (za (zR (x:="off")) (za (z5 (f:="why") (pv 0) rfl) ze))) (za (pv 1) (za (xa ze) ze))))))
    zS)
  (zi (zA (yh (za (yh (za (zR (x:="done")) (za (yY qH rfl T.b_tuple YK (za (z5 (f:="sayings") (pv 0) rfl) ze)) ze))) (za (pv 1) (za (ya (Zq rfl (hu3 hr)) rfl T.b_sorted ZH (za (YY (z5 (f:="gifts") (pv 0) rfl)) ze)) ze))))))))),XA (rnF T) h1 h2 h3 h4 q1 q2⟩
theorem Kd (T:Txt K mg t):FnOk P w K mg base (CX1 P w) 1 t.a_divided t.d_divided ["word","first","second"] (qX t):=by
 refine T.f_divided.ok1 JX (fun vs H Q E h=>?_) (fun cdv A outer s H vs Q E hr h=>?_)
 ·obtain ⟨w,a,b,rfl,_⟩:=h;rfl
 obtain ⟨w,a,b,rfl,hw,ha,hb,q⟩:=h
 exact ⟨Za K t E,(zg (zY (zy yW (pv 2) (zf (i:=0)) (zL _)) (zi (Vx rfl T.x_Nought Ks rfl T.g_Nought (za (Kt (pv 0)) ze)))
   zS)
  (zi (zA (vQ (zy yW (pv 0) (zR (x:="over")) (zL _)) (zx Q4 (pv 1) (pv 2)) (zx za6 (pv 1) (pv 2)))))),V1 hw ha hb q⟩
theorem Ke (T:Txt K mg t):FnOk P w K mg base (CX1 P w) 2 t.a_come_to t.d_come_to ["word","first","second"] (qY t):=by
 refine T.f_come_to.ok1 JY (fun vs H Q E h=>?_) (fun cdv A outer s H vs Q E hr h=>?_)
 ·obtain ⟨w,a,b,rfl,_⟩:=h;rfl
 obtain ⟨w,a,b,rfl,hw,ha,hb,q⟩:=h
 exact ⟨Zb K t E,(zg (zY (zy yW (pv 0) (zR (x:="plus")) (zL _)) (zi (zA (zx z7 (pv 1) (pv 2))))
   zS)
  (zg (zY (zy yW (pv 0) (zR (x:="minus")) (zL _)) (zi (zA (zx Yw (pv 1) (pv 2))))
    zS)
  (zg (zY (zy yW (pv 0) (zR (x:="times")) (zL _)) (zi (zA (zx wk (pv 1) (pv 2))))
    zS)
  (zg (zY (zy yW (pv 0) (zR (x:="under")) (zL _)) (zi (zA (vQ (zy ZW (pv 1) (pv 2) (zL _)) (zf (i:=1)) (zf (i:=0)))))
    zS)
  (zg (zY (zy yW (pv 0) (zR (x:="same")) (zL _)) (zi (zA (vQ (zy yW (pv 1) (pv 2) (zL _)) (zf (i:=1)) (zf (i:=0)))))
    zS)
  (zi (zA (zq (FnOk.mono (Kd T) (by decide)) hr rfl T.m_divided T.f_divided.kp T.b_divided .nil xk (za (pv 0) (za (pv 1) (za (pv 2) ze))))))))))),V2 hw ha hb q⟩
theorem Jk (T:Txt K mg t):FnOk P w K mg base (CX1 P w) 1 t.a_is_worth t.d_is_worth ["thing"] (kW):=by
 refine T.f_is_worth.ok0 VY (fun vs H Q E h=>?_) (fun cdv A outer s H vs Q E hr h=>?_)
 ·obtain ⟨i,rfl,_⟩:=h;rfl
 obtain ⟨i,rfl,q⟩:=h
 exact ⟨qf K t,(zg (zY (PW.pt (Vk (jX (wz (ya jL rfl T.b_isinstance xm (za (pv 0) (za (qm rfl T.b_int zcG rfl) ze))))) (Yu (wz (ya jL rfl T.b_isinstance xm (za (pv 0) (za (qm rfl T.b_bool zbh rfl) ze))))))) (zi (zA (qG (b:=false))))
   zS)
  (zi (zA (QK zb7 zb7 (zdh zcw (zx Yx (zf (i:=10)) (zf (i:=30)))) (pv 0) (zx Yx (zf (i:=10)) (zf (i:=30))))))),WT (kf K).i_b q⟩
theorem QC (T:Txt K mg t):FnOk P w K mg base (CX1 P w) 3 t.a_joined t.d_joined ["word","first","second"] (wL t):=by
 refine T.f_joined.ok1 sc_joined (fun vs H Q E h=>?_) (fun cdv A outer s H vs Q E hr h=>?_)
 ·obtain ⟨w,a,b,rfl,_⟩:=h;rfl
 obtain ⟨w,a,b,rfl,hw,ha,hb,q⟩:=h
 exact ⟨ZO K t E,(zg (zK (i:=3) sc_joined.nd rfl (Or.inl rfl) (zq (FnOk.mono (Ke T) (by decide)) hr rfl T.m_come_to T.f_come_to.kp T.b_come_to .nil xk (za (pv 0) (za (pv 1) (za (pv 2) ze)))))
  (zg (zY (jX (wz (zq (FnOk.mono (Jk T) (by decide)) hr rfl T.m_is_worth T.f_is_worth.kp T.b_is_worth .nil xk (za (pv 3) ze)))) (zi (Vx rfl T.x_Great Ks rfl T.g_Great (za (Kt (pv 0)) ze)))
    zS)
  (zi (zA (pv 3))))),J3 hw ha hb q⟩
theorem Z6 (T:Txt K mg t):FnOk P w K mg base (CX1 P w) 4 t.a_reckoned t.d_reckoned ["term","slots"] (w4 t):=by
 refine T.f_reckoned.ok1 sc_reckoned (fun vs H Q E h=>?_) (fun cdv A outer s H vs Q E hr h=>?_)
 ·obtain ⟨kvs,tm,sl,ps,r,rfl,_⟩:=h;rfl
 obtain ⟨kvs,tm,sl,ps,r,rfl,h1,h2,h3,h4,h5,h6,q⟩:=h
 exact ⟨qg K t E,(zg (zK (i:=2) sc_reckoned.nd rfl (Or.inl rfl) (xa ze))
  (zg (vR zdp rfl (zcu (pv 0)) (yz (i:=3) sc_reckoned.nd rfl (Or.inl rfl)) (zi (zY (zy XX (pv 3) (za3 rfl T.g_JOINING rfl) (by with_unfolding_all rfl)) (zg (zK (i:=4) sc_reckoned.nd rfl (Or.inl rfl) (JC PySem.F.plainAttrs_list PySem.F.slot_list_pop PySem.F.type_list_pop JF (pv 2)))
  (zg (zK (i:=5) sc_reckoned.nd rfl (Or.inl rfl) (JC PySem.F.plainAttrs_list PySem.F.slot_list_pop PySem.F.type_list_pop JF (pv 2)))
  (zi (vE (XY PySem.F.plainAttrs_list PySem.F.slot_list_append PySem.F.type_list_append vK (pv 2) (za (zq (FnOk.mono (QC T) (by decide)) hr rfl T.m_joined T.f_joined.kp T.b_joined .nil xk (za (pv 3) (za (pv 5) (za (pv 4) ze)))) ze))))))
   (zi (vE (XY PySem.F.plainAttrs_list PySem.F.slot_list_append PySem.F.type_list_append vK (pv 2) (za (vQ (wz (ya jL rfl T.b_isinstance xm (za (pv 3) (za (qm rfl T.b_str zcF rfl) ze)))) (YI (xw hr) (pv 1) (pv 3) (zf (i:=0)) ⟨rfl,rfl,rfl,rfl⟩) (pv 3)) ze)))))))
  (zi (zA (JC PySem.F.plainAttrs_list PySem.F.slot_list_pop PySem.F.type_list_pop JF (pv 2)))))),WU (kf K).i_s T.v_JOINING h1 h2 h3 h4 h5 h6 q⟩
theorem yR (T:Txt K mg t):FnOk P w K mg base (CX1 P w) 5 t.a_Run_worth_of t.d_Run_worth_of ["self","term"] (zN t):=by
 refine T.f_Run_worth_of.ok1 Yb (fun vs H Q E h=>?_) (fun cdv A outer s H vs Q E hr h=>?_)
 ·obtain ⟨x,tm,e,a,C,s,rfl,_⟩:=h;rfl
 obtain ⟨x,tm,e,a,C,s,rfl,h1,h2,h3,h4,q⟩:=h
 exact ⟨vi K t E,(zi (zA (zq (FnOk.mono (Z6 T) (by decide)) hr rfl T.m_reckoned T.f_reckoned.kp T.b_reckoned .nil xk (za (pv 1) (za (z5 (f:="slots") (pv 0) rfl) ze))))),ZS (rnF T) h1 h2 h3 h4 q⟩
theorem vy (T:Txt K mg t):FnOk P w K mg base (CX1 P w) 6 t.a_Run_place_in t.d_Run_place_in ["self","due"] (z6 t):=by
 refine T.f_Run_place_in.ok1 Yc (fun vs H Q E h=>?_) (fun cdv A outer s H vs Q E hr h=>?_)
 ·obtain ⟨x,p,xs,sh,te,e,a,C,s,rfl,_⟩:=h;rfl
 obtain ⟨x,p,xs,sh,te,e,a,C,s,rfl,h1,h2,h3,h4,h5,h6,h7,q1,q2⟩:=h
 exact ⟨vj K t E,(zi (zA (yh (za (zO zM (pv 1) (zf (i:=1)) (fun _ _=>rfl)) (za (yv (pv 0) T.cl_Run T.me_Run_worth_of (FnOk.mono (yR T) (by decide)) hr T.b_Run_worth_of .nil xk (za (zO zM (pv 1) (zf (i:=2)) (fun _ _=>rfl)) ze)) ze))))),ZT (rnF T) h1 h2 h3 h4 h5 h6 h7 q1 q2⟩
theorem Jl (T:Txt K mg t):FnOk P w K mg base (CX1 P w) 7 t.a_Run_asks t.d_Run_asks ["self"] (jl t):=by
 refine T.f_Run_asks.ok0 sc_Run_asks (fun vs H Q E h=>?_) (fun cdv A outer s H vs Q E hr h=>?_)
 ·obtain ⟨x,a,C,s,rfl,_⟩:=h;rfl
 obtain ⟨x,a,C,s,rfl,h1,h2,h3,q1,q2⟩:=h
 exact ⟨qh K t,(zg (zY (PW.pt (Vk (wz (jK (pv 0) T.cl_Run T.me_Run_over (FnOk.mono (jo T) (by decide)) hr T.b_Run_over .nil zw)) (Yu (zy Yy (zO zM (zO xC (z5 (f:="code") (pv 0) rfl) (z5 (f:="at") (pv 0) rfl) (fun _ _=>rfl)) (zf (i:=0)) (fun _ _=>rfl)) (zR (x:="take")) (zL _))))) (zi (zA kK))
   zS)
  (zg (zbE (And.intro rfl rfl) rfl (Ku (i:=1) sc_Run_asks.nd rfl (Or.inl rfl) (YX (pv 0) T.cl_Run T.me_Run_place_in (FnOk.mono (vy T) (by decide)) hr T.b_Run_place_in (za (zO xC (z5 (f:="code") (pv 0) rfl) (z5 (f:="at") (pv 0) rfl) (fun _ _=>rfl)) ze))) rfl T.g_Great rfl T.g_Nought (fun _=>(zi (zA kK))))
  (zg (zY (PW.pt (Vk (zy (WK (xw hr)) (pv 1) (z5 (f:="gifts") (pv 0) rfl) (by with_unfolding_all rfl)) (Yu (zy (WK (xw hr)) (pv 1) (z5 (f:="notes") (pv 0) rfl) (by with_unfolding_all rfl))))) (zi (zA kK))
    zS)
  (zi (zA (pv 1)))))),WZ T h1 h2 h3 q1 q2⟩
theorem Ve (T:Txt K mg t):FnOk P w K mg base (CX1 P w) 1 t.a_Run_taken t.d_Run_taken ["self","place","worth"] (xK t):=by
 refine T.f_Run_taken.ok0 WR (fun vs H Q E h=>?_) (fun cdv A outer s H vs Q E hr h=>?_)
 ·obtain ⟨x,q,p,w,a,C,s,rfl,_⟩:=h;rfl
 obtain ⟨x,q,p,w,a,C,s,rfl,h1,h2,h3,q⟩:=h
 exact ⟨kq K t,(zg (zY (zy (WK (xw hr)) (pv 1) (z5 (f:="gifts") (pv 0) rfl) (by with_unfolding_all rfl)) (zi (zA (Zk (xw hr) (z5 (f:="gifts") (pv 0) rfl) (pv 1) (fun _ _=>rfl))))
   zS)
  (zg (zY (zy (JP (xw hr)) (pv 1) (z5 (f:="notes") (pv 0) rfl) (by with_unfolding_all rfl)) (zi (xR (xw hr) (z5 (f:="notes") (pv 0) rfl) (pv 1) (pv 2) rfl))
    zS)
  (zi (zA (Zk (xw hr) (z5 (f:="notes") (pv 0) rfl) (pv 1) (fun _ _=>rfl)))))),Xz (rnF T) h1 h2 h3 q⟩
theorem Jm (T:Txt K mg t):FnOk P w K mg base (CX1 P w) 7 t.a_Run_does t.d_Run_does ["self","due","worth"] (x9 t):=by
 refine T.f_Run_does.ok1 sc_Run_does (fun vs H Q E h=>?_) (fun cdv A outer s H vs Q E hr h=>?_)
 ·obtain ⟨x,v,r,w,m,a,C,s,rfl,_⟩:=h;rfl
 obtain ⟨x,v,r,w,m,a,C,s,rfl,h1,h2,h3,h4,h5,h6,q1,q2⟩:=h
 exact ⟨wc K t E,(zi (zY (zy yW (zO zM (pv 1) (zf (i:=0)) (fun _ _=>rfl)) (zR (x:="take")) (zL _)) (zi (xR (xw hr) (z5 (f:="slots") (pv 0) rfl) (zO zM (pv 1) (zf (i:=3)) (fun _ _=>rfl)) (yv (pv 0) T.cl_Run T.me_Run_taken (FnOk.mono (Ve T) (by decide)) hr T.b_Run_taken .nil xk (za (yv (pv 0) T.cl_Run T.me_Run_place_in (FnOk.mono (vy T) (by decide)) hr T.b_Run_place_in .nil xk (za (pv 1) ze)) (za (pv 2) ze))) rfl))
   (zi (zY (zy yW (zO zM (pv 1) (zf (i:=0)) (fun _ _=>rfl)) (zR (x:="give")) (zL _)) (zg (zK (i:=3) sc_Run_does.nd rfl (Or.inl rfl) (yv (pv 0) T.cl_Run T.me_Run_place_in (FnOk.mono (vy T) (by decide)) hr T.b_Run_place_in .nil xk (za (pv 1) ze)))
  (zi (xR (xw hr) (z5 (f:="gifts") (pv 0) rfl) (pv 3) (yv (pv 0) T.cl_Run T.me_Run_worth_of (FnOk.mono (yR T) (by decide)) hr T.b_Run_worth_of .nil xk (za (zO zM (pv 1) (zf (i:=3)) (fun _ _=>rfl)) ze)) rfl)))
   (zi (zY (zy yW (zO zM (pv 1) (zf (i:=0)) (fun _ _=>rfl)) (zR (x:="let")) (zL _)) (zi (xR (xw hr) (z5 (f:="slots") (pv 0) rfl) (zO zM (pv 1) (zf (i:=1)) (fun _ _=>rfl)) (yv (pv 0) T.cl_Run T.me_Run_worth_of (FnOk.mono (yR T) (by decide)) hr T.b_Run_worth_of .nil xk (za (zO zM (pv 1) (zf (i:=2)) (fun _ _=>rfl)) ze)) rfl))
   (zi (vE (XY PySem.F.plainAttrs_list PySem.F.slot_list_append PySem.F.type_list_append vK (z5 (f:="sayings") (pv 0) rfl) (za (yv (pv 0) T.cl_Run T.me_Run_worth_of (FnOk.mono (yR T) (by decide)) hr T.b_Run_worth_of .nil xk (za (zO zM (pv 1) (zf (i:=1)) (fun _ _=>rfl)) ze)) ze)))))))))),W0 (rnF T) h1 h2 h3 h4 h5 h6 q1 q2⟩
theorem XH (T:Txt K mg t):FnOk P w K mg base (CX1 P w) 8 t.a_Run_led_by t.d_Run_led_by ["self","due","worth"] (jp t):=by
 refine T.f_Run_led_by.ok1 Xv (fun vs H Q E h=>?_) (fun cdv A outer s H vs Q E hr h=>?_)
 ·obtain ⟨x,v,c,w,m,a,C,s,rfl,_⟩:=h;rfl
 obtain ⟨x,v,c,w,m,a,C,s,rfl,h1,h2,h3,h4,h5,q1,q2⟩:=h
 exact ⟨xq K t E,(zg (zY (zy yW (zO zM (pv 1) (zf (i:=0)) (fun _ _=>rfl)) (zR (x:="go")) (zL _)) (zi (zA (zO zM (pv 1) (zf (i:=1)) (fun _ _=>rfl))))
   zS)
  (zg (zY (zy yW (zO zM (pv 1) (zf (i:=0)) (fun _ _=>rfl)) (zR (x:="skip")) (zL _)) (zi (zA (vQ (zy yW (yv (pv 0) T.cl_Run T.me_Run_worth_of (FnOk.mono (yR T) (by decide)) hr T.b_Run_worth_of .nil xk (za (zO zM (pv 1) (zf (i:=1)) (fun _ _=>rfl)) ze)) (zf (i:=0)) (zL _)) (zO zM (pv 1) (zf (i:=2)) (fun _ _=>rfl)) (zx z7 (z5 (f:="at") (pv 0) rfl) (zf (i:=1))))))
    zS)
  (zg (zY (zy yW (zO zM (pv 1) (zf (i:=0)) (fun _ _=>rfl)) (zR (x:="off")) (zL _)) (zi (zY (zy Yy (yv (pv 0) T.cl_Run T.me_Run_worth_of (FnOk.mono (yR T) (by decide)) hr T.b_Run_worth_of .nil xk (za (zO zM (pv 1) (zf (i:=1)) (fun _ _=>rfl)) ze)) (zf (i:=0)) (zL _)) (zi (wA (f:="why") (pv 0) (zR (x:="told")) rfl))
    zS))
    (zi (vE (yv (pv 0) T.cl_Run T.me_Run_does (FnOk.mono (Jm T) (by decide)) hr T.b_Run_does .nil xk (za (pv 1) (za (pv 2) ze))))))
  (zi (zA (zx z7 (z5 (f:="at") (pv 0) rfl) (zf (i:=1)))))))),Xd (rnF T) h1 h2 h3 h4 h5 q1 q2⟩
theorem Jn (T:Txt K mg t):FnOk P w K mg base (CX1 P w) 9 t.a_Run_step t.d_Run_step ["self","worth"] (jk t):=by
 refine T.f_Run_step.ok0 VZ (fun vs H Q E h=>?_) (fun cdv A outer s H vs Q E hr h=>?_)
 ·obtain ⟨x,w,m,a,C,s,rfl,_⟩:=h;rfl
 obtain ⟨x,w,m,a,C,s,rfl,h1,h2,h3,h4,q⟩:=h
 exact ⟨qi K t,(zg (zY (wz (jK (pv 0) T.cl_Run T.me_Run_over (FnOk.mono (jo T) (by decide)) hr T.b_Run_over .nil zw)) (zi za4)
   zS)
  (zi (VJ (And.intro rfl rfl) rfl (zbD (f:="at") (pv 0) (YX (pv 0) T.cl_Run T.me_Run_led_by (FnOk.mono (XH T) (by decide)) hr T.b_Run_led_by (za (zO xC (z5 (f:="code") (pv 0) rfl) (z5 (f:="at") (pv 0) rfl) (fun _ _=>rfl)) (za (pv 1) ze))) rfl) rfl T.g_Great rfl T.g_Nought (fun _=>(zi (wA (f:="why") (pv 0) (zR (x:="great")) rfl))) (fun _=>(zi (wA (f:="why") (pv 0) (zR (x:="nought")) rfl)))))),WY T h1 h2 h3 h4 q⟩
theorem QD (T:Txt K mg t):FnOk P w K mg base (CX1 P w) 1 t.a_stands t.d_stands ["table","place"] (qA):=by
 refine T.f_stands.ok0 Qu (fun vs H Q E h=>?_) (fun cdv A outer s H vs Q E hr h=>?_)
 ·obtain ⟨l,q0,rows,p,rfl,_⟩:=h;rfl
 obtain ⟨l,q0,rows,p,rfl,h1,h2,h3,q⟩:=h
 exact ⟨ZP K t,(zi (zA (YI (xw hr) (yY (xT rfl (hu3 hr)) rfl T.b_dict Yn (za (pv 0) ze)) (pv 1) (zf (i:=0)) ⟨rfl,rfl,rfl,rfl⟩))),J8 h1 h2 h3 q⟩
theorem Vf (T:Txt K mg t):FnOk P w K mg base (CX1 P w) 10 t.a_fed t.d_fed ["code","table"] (ke t):=by
 refine T.f_fed.ok0 sc_fed (fun vs H Q E h=>?_) (fun cdv A outer s H vs Q E hr h=>?_)
 ·obtain ⟨l,tl,xs,C,rows,rfl,_⟩:=h;rfl
 obtain ⟨l,tl,xs,C,rows,rfl,h1,h2,h3,h4,h5,h6,q⟩:=h
 exact ⟨J1 K t,(zg (zK (i:=2) sc_fed.nd rfl (Or.inl rfl) (Kl T.mk_Run (FnOk.mono (Jj T) (by decide)) hr rfl T.g_Run T.b_Run_init .nil zw (za (pv 0) ze)))
  (zg (QH PassesOwn.never (jX (wz (jK (pv 2) T.cl_Run T.me_Run_over (FnOk.mono (jo T) (by decide)) hr T.b_Run_over .nil zw))) (zg (zK (i:=3) sc_fed.nd rfl (Or.inl rfl) (jK (pv 2) T.cl_Run T.me_Run_asks (FnOk.mono (Jl T) (by decide)) hr T.b_Run_asks .nil zw))
  (zi (vE (yv (pv 2) T.cl_Run T.me_Run_step (FnOk.mono (Jn T) (by decide)) hr T.b_Run_step .nil zw (za (vQ (zy zcx (pv 3) kK (zL _)) (zf (i:=0)) (zq (FnOk.mono (QD T) (by decide)) hr rfl T.m_stands T.f_stands.kp T.b_stands .nil zw (za (pv 1) (za (pv 3) ze)))) ze))))))
  (zi (zA (jK (pv 2) T.cl_Run T.me_Run_paper (FnOk.mono (Vd T) (by decide)) hr T.b_Run_paper .nil zw))))),zbV h1 h2 h3 h4 h5 h6 q⟩
theorem XI (T:Txt K mg t):FnOk P w K mg base (CX1 P w) 3 t.a__law_other t.d__law_other ["cell","shelves","table","paper"] (ju):=by
 refine T.f__law_other.ok0 sc__law_other (fun vs H Q E h=>?_) (fun cdv A outer s H vs Q E hr h=>?_)
 ·obtain ⟨c,b,us,tl,tab,r,o,nl,gl,no,gi,rfl,_⟩:=h;rfl
 obtain ⟨c,b,us,tl,tab,r,o,nl,gl,no,gi,rfl,h1,h2,h3,h4,h5,h6,h7,h8,h9,h10,h11,q⟩:=h
 exact ⟨jA K t,(zg (zK (i:=4) sc__law_other.nd rfl (Or.inl rfl) (yY (xT rfl (hu3 hr)) rfl T.b_dict Yn (za (pv 2) ze)))
  (zg (vR PassesOwn.never rfl (jY (zO zM (pv 3) (zf (i:=2)) (fun _ _=>rfl))) (Wq rfl (wR (yz (i:=5) sc__law_other.nd rfl (Or.inl rfl)) (wR (yz (i:=6) sc__law_other.nd rfl (Or.inl rfl)) Yj))) (zi (xR (xw hr) (pv 4) (pv 5) (zq (FnOk.mono (yK T) (by decide)) hr rfl T.m__law_number T.f__law_number.kp T.b__law_number .nil zw (za (pv 0) (za (zf (i:=110)) ze))) rfl)))
  (zg (vR PassesOwn.never rfl (qo rfl T.b_range (za (zf (i:=12)) ze)) (yz (i:=7) sc__law_other.nd rfl (Or.inl rfl)) (zi (xR (xw hr) (pv 4) (yh (za (zO xC (pv 1) (zx yo (pv 7) (zf (i:=2))) (fun _ _=>rfl)) (za (zx Yw (zx Vv (pv 7) (zf (i:=2))) (zf (i:=1))) ze))) (zq (FnOk.mono (yK T) (by decide)) hr rfl T.m__law_number T.f__law_number.kp T.b__law_number .nil zw (za (pv 0) (za (zx z7 (zf (i:=120)) (zx wk (zf (i:=3)) (pv 7))) ze))) rfl)))
  (zg (vR PassesOwn.never rfl (jY (zO zM (pv 3) (zf (i:=1)) (fun _ _=>rfl))) (Wq rfl (wR (yz (i:=5) sc__law_other.nd rfl (Or.inl rfl)) (wR (yz (i:=6) sc__law_other.nd rfl (Or.inl rfl)) Yj))) (zi (xR (xw hr) (pv 4) (pv 5) (pv 6) rfl)))
  (zi (zA (pv 4))))))),Xp h1 h2 h3 h4 h5 h6 h7 h8 h9 h10 h11 q⟩
theorem jg (T:Txt K mg t):FnOk P w K mg base (CX1 P w) 1 t.a__law_listed t.d__law_listed ["worths"] (yJ):=by
 refine T.f__law_listed.ok0 Y7 (fun vs H Q E h=>?_) (fun cdv A outer s H vs Q E hr h=>?_)
 ·obtain ⟨d,rows,rfl,_⟩:=h;rfl
 obtain ⟨d,rows,rfl,h1,h2,q⟩:=h
 exact ⟨ja K t,(zi (zcL (zA (ya (WQ rfl (hu3 hr)) rfl T.b_sorted ZH (za (WB rfl (osc:=zh yU) (N:=["worths"]) (xs:=["place","worth"]) (ix:=[]) (by decide +kernel) (zaA (pv 0)) (fun _ _ _ _=>(Wq rfl (wR (yz (i:=0) (show List.Nodup (["place","worth"]:List Str) from (by decide +kernel)) rfl (Or.inl rfl)) (wR (yz (i:=1) (show List.Nodup (["place","worth"]:List Str) from (by decide +kernel)) rfl (Or.inl rfl)) Yj)))) (fun _ _ _ _=>(Kq (zy Yy (pv 1) (zf (i:=0)) (zL _)))) (fun _ _ _ _=>(yh (za (pv 0) (za (pv 1) ze))))) ze))))),Yg h1 h2 q⟩
theorem Xr (T:Txt K mg t):FnOk P w K mg base (CX1 P w) 3 t.a__law_turned t.d__law_turned ["worth","cell"] (v3):=by
 refine T.f__law_turned.ok0 sc__law_turned (fun vs H Q E h=>?_) (fun cdv A outer s H vs Q E hr h=>?_)
 ·obtain ⟨w,c,rfl,_⟩:=h;rfl
 obtain ⟨w,c,rfl,h1,q⟩:=h
 exact ⟨jb K t,(zg (zK (i:=2) sc__law_turned.nd rfl (Or.inl rfl) (zq (FnOk.mono (yK T) (by decide)) hr rfl T.m__law_number T.f__law_number.kp T.b__law_number .nil zw (za (pv 1) (za (zf (i:=160)) ze))))
  (zg (zY (zy Yy (pv 2) (pv 0) (zL _)) (zi (zA (pv 2)))
    zS)
  (zg (zY (zy zdj (pv 0) (zf (i:=0)) (zL _)) (zi (zA (zx Yw (pv 0) (zf (i:=1)))))
    zS)
  (zi (zA (zx z7 (pv 0) (zf (i:=1)))))))),Yh h1 q⟩
theorem jW (T:Txt K mg t):FnOk P w K mg base (CX1 P w) 1 t.a__law_is_paper t.d__law_is_paper ["paper"] (y7):=by
 refine T.f__law_is_paper.ok0 ZM (fun vs H Q E h=>?_) (fun cdv A outer s H vs Q E hr h=>?_)
 ·obtain ⟨r,nl,gl,o,no,gi,rfl,_⟩:=h;rfl
 obtain ⟨r,nl,gl,o,no,gi,rfl,h1,h2,h3,q⟩:=h
 exact ⟨wN K t,(zi (zA (Wp (ya jL rfl T.b_isinstance xm (za (pv 0) (za (qm rfl T.b_tuple YK rfl) ze))) (Wp (Zg yW (ya xy rfl T.b_len vU (za (pv 0) ze)) (zf (i:=3)) (zL _)) (Wp (ya jL rfl T.b_isinstance xm (za (zO zM (pv 0) (zf (i:=1)) (fun _ _=>rfl)) (za (qm rfl T.b_list j5 rfl) ze))) (Jr (ya jL rfl T.b_isinstance xm (za (zO zM (pv 0) (zf (i:=2)) (fun _ _=>rfl)) (za (qm rfl T.b_list j5 rfl) ze))))))))),ZC h1 h2 h3 q⟩
theorem XJ (T:Txt K mg t):FnOk P w K mg base (CX1 P w) 1 t.a_Doing_init t.d_Doing_init ["self","table"] (jr t):=by
 refine T.f_Doing_init.ok0 Xw (fun vs H Q E h=>?_) (fun cdv A outer s H vs Q E hr h=>?_)
 ·obtain ⟨x,a,tab,H0,dx,rfl,_⟩:=h;rfl
 obtain ⟨x,a,tab,H0,dx,rfl,h1,h2,h3,h4,h5,q⟩:=h
 exact ⟨jB K t,(zg (wA (f:="slots") (pv 0) Vq rfl)
  (zg (wA (f:="worths") (pv 0) (yY (xT rfl (hu3 hr)) rfl T.b_dict Yn (za (pv 1) ze)) rfl)
  (zi (wA (f:="sayings") (pv 0) (xa ze) rfl)))),Xg (doF T) h1 h2 h3 h4 h5 q⟩
theorem yk (T:Txt K mg t):FnOk P w K mg base (CX1 P w) 5 t.a_Doing_worth_of t.d_Doing_worth_of ["self","term"] (zG t):=by
 refine T.f_Doing_worth_of.ok1 Zr (fun vs H Q E h=>?_) (fun cdv A outer s H vs Q E hr h=>?_)
 ·obtain ⟨x,tm,e,H0,dx,sl,wo,sa,s0,rfl,_⟩:=h;rfl
 obtain ⟨x,tm,e,H0,dx,sl,wo,sa,s0,rfl,h1,h2,h3,h4,q⟩:=h
 exact ⟨wq K t E,(zi (zA (zq (FnOk.mono (Z6 T) (by decide)) hr rfl T.m_reckoned T.f_reckoned.kp T.b_reckoned .nil xk (za (pv 1) (za (z5 (f:="slots") (pv 0) rfl) ze))))),Ze (doF T) h1 h2 h3 h4 q⟩
theorem XL (T:Txt K mg t):FnOk P w K mg base (CX1 P w) 6 t.a_Doing_does t.d_Doing_does ["self","row"] (js t):=by
 refine T.f_Doing_does.ok1 sc_Doing_does (fun vs H Q E h=>?_) (fun cdv A outer s H vs Q E hr h=>?_)
 ·obtain ⟨x,v,r,m,H0,dx,sl,wo,sa,s0,rfl,_⟩:=h;rfl
 obtain ⟨x,v,r,m,H0,dx,sl,wo,sa,s0,rfl,h1,h2,h3,h4,h5,h6,q1,q2⟩:=h
 exact ⟨xr K t E,(zi (zY (zy yW (zO zM (pv 1) (zf (i:=0)) (fun _ _=>rfl)) (zR (x:="take")) (zL _)) (zi (xR (xw hr) (z5 (f:="slots") (pv 0) rfl) (zO zM (pv 1) (zf (i:=3)) (fun _ _=>rfl)) (YI (xw hr) (z5 (f:="worths") (pv 0) rfl) (yh (za (zO zM (pv 1) (zf (i:=1)) (fun _ _=>rfl)) (za (yv (pv 0) T.cl_Doing T.me_Doing_worth_of (FnOk.mono (yk T) (by decide)) hr T.b_Doing_worth_of .nil xk (za (zO zM (pv 1) (zf (i:=2)) (fun _ _=>rfl)) ze)) ze))) (zf (i:=0)) ⟨rfl,rfl,rfl,rfl⟩) rfl))
   (zi (zY (zy yW (zO zM (pv 1) (zf (i:=0)) (fun _ _=>rfl)) (zR (x:="give")) (zL _)) (zg (zK (i:=2) sc_Doing_does.nd rfl (Or.inl rfl) (yh (za (zO zM (pv 1) (zf (i:=1)) (fun _ _=>rfl)) (za (yv (pv 0) T.cl_Doing T.me_Doing_worth_of (FnOk.mono (yk T) (by decide)) hr T.b_Doing_worth_of .nil xk (za (zO zM (pv 1) (zf (i:=2)) (fun _ _=>rfl)) ze)) ze))))
  (zi (xR (xw hr) (z5 (f:="worths") (pv 0) rfl) (pv 2) (yv (pv 0) T.cl_Doing T.me_Doing_worth_of (FnOk.mono (yk T) (by decide)) hr T.b_Doing_worth_of .nil xk (za (zO zM (pv 1) (zf (i:=3)) (fun _ _=>rfl)) ze)) rfl)))
   (zi (zY (zy yW (zO zM (pv 1) (zf (i:=0)) (fun _ _=>rfl)) (zR (x:="let")) (zL _)) (zi (xR (xw hr) (z5 (f:="slots") (pv 0) rfl) (zO zM (pv 1) (zf (i:=1)) (fun _ _=>rfl)) (yv (pv 0) T.cl_Doing T.me_Doing_worth_of (FnOk.mono (yk T) (by decide)) hr T.b_Doing_worth_of .nil xk (za (zO zM (pv 1) (zf (i:=2)) (fun _ _=>rfl)) ze)) rfl))
   (zi (vE (XY PySem.F.plainAttrs_list PySem.F.slot_list_append PySem.F.type_list_append vK (z5 (f:="sayings") (pv 0) rfl) (za (yv (pv 0) T.cl_Doing T.me_Doing_worth_of (FnOk.mono (yk T) (by decide)) hr T.b_Doing_worth_of .nil xk (za (zO zM (pv 1) (zf (i:=1)) (fun _ _=>rfl)) ze)) ze)))))))))),Xh (doF T) h1 h2 h3 h4 h5 h6 q1 q2⟩
theorem kJ (T:Txt K mg t):∀ n,FnOk P w K mg base (CX1 P w) (7 + n) t.a_Doing_goes_through t.d_Doing_goes_through ["self","rows"] (yc t n):=by
 intro n
 induction n with
 | zero=>exact ⟨fun vs H Q E h=>(wt h).elim,fun A outer s H args us vs Q E hr he hb hv h=>(wt h).elim⟩
 | succ n IH =>
 refine T.f_Doing_goes_through.ok1 sc_Doing_goes_through (k:=7 + n) (fun vs H Q E h=>?_) (fun cdv A outer s H vs Q E hr h=>?_)
 ·obtain ⟨x,l,xs,rws,m,H0,dx,sl,wo,sa,s0,rfl,_⟩:=h;rfl
 obtain ⟨x,l,xs,rws,m,H0,dx,sl,wo,sa,s0,rfl,h1,h2,h3,h4,h5,h6,h7,q1,q2,q3⟩:=h
 exact ⟨xt K t n E,(zg (vR zdp rfl (jY (pv 1)) (yz (i:=2) sc_Doing_goes_through.nd rfl (Or.inl rfl)) (zi (zY (zy yW (zO zM (pv 2) (zf (i:=0)) (fun _ _=>rfl)) (zR (x:="off")) (zL _)) (zi (zY (zy Yy (yv (pv 0) T.cl_Doing T.me_Doing_worth_of (FnOk.mono (yk T) (by lia)) hr T.b_Doing_worth_of .nil xk (za (zO zM (pv 2) (zf (i:=1)) (fun _ _=>rfl)) ze)) (zf (i:=0)) (zL _)) (zi (zA (qG (b:=false))))
   zS))
   (zi (zY (zy yW (zO zM (pv 2) (zf (i:=0)) (fun _ _=>rfl)) (zR (x:="if")) (zL _)) (zi (zY (jX (wz (yv (pv 0) T.cl_Doing T.me_Doing_goes_through (FnOk.mono IH (by lia)) hr T.b_Doing_goes_through .nil xk (za (vQ (zy Yy (yv (pv 0) T.cl_Doing T.me_Doing_worth_of (FnOk.mono (yk T) (by lia)) hr T.b_Doing_worth_of .nil xk (za (zO zM (pv 2) (zf (i:=1)) (fun _ _=>rfl)) ze)) (zf (i:=0)) (zL _)) (zO zM (pv 2) (zf (i:=2)) (fun _ _=>rfl)) (zO zM (pv 2) (zf (i:=3)) (fun _ _=>rfl))) ze)))) (zi (zA (qG (b:=false))))
   zS))
   (zi (vE (yv (pv 0) T.cl_Doing T.me_Doing_does (FnOk.mono (XL T) (by lia)) hr T.b_Doing_does .nil xk (za (pv 2) ze)))))))))
  (zi (zA (qG (b:=true))))),ku (doF T) h1 h2 h3 h4 h5 h6 h7 q1 q2 q3⟩
theorem jh (T:Txt K mg t):FnOkH P w K mg base 1 t.a_broken_off t.d_broken_off ["why","table"] (yV):=by
 refine T.f_broken_off.okH Xx (fun vs H Q E h=>?_) (fun cdv A outer s H vs Q E hr h=>?_)
 ·obtain ⟨w,a,tab,rfl,_⟩:=h;rfl
 obtain ⟨w,a,tab,rfl,h1,q⟩:=h
 exact ⟨jC K t,(zi (zA (yh (za (yh (za (zR (x:="off")) (za (pv 0) ze))) (za (yY j3 rfl T.b_list j5 (za (pv 1) ze)) ze))))),Xi h1 q⟩
theorem XM (T:Txt K mg t):FnOk P w K mg base (CX1 P w) 1 t.a_broken_off t.d_broken_off ["why","table"] (yV):=(jh T).toFn
theorem Jo (T:Txt K mg t):FnOk P w K mg base (CX1 P w) 1 t.a_table_of t.d_table_of ["rows"] (kY):=by
 refine T.f_table_of.ok0 sc_table_of (fun vs H Q E h=>?_) (fun cdv A outer s H vs Q E hr h=>?_)
 ·obtain ⟨a,rows,rfl,_⟩:=h;rfl
 obtain ⟨a,rows,rfl,h1,h2,h3,q⟩:=h
 exact ⟨jm K t,(zg (zK (i:=1) sc_table_of.nd rfl (Or.inr rfl) (yY (xT rfl (hu3 hr)) rfl T.b_dict Yn (za (pv 0) ze)))
  (zi (zA (WB rfl (osc:=zh xU) (N:=["rows","worths"]) (xs:=["place"]) (ix:=[1]) (by decide +kernel) (jY (ya (WI rfl) rfl T.b_sorted ZH (za (pv 1) ze))) (fun _ _ _ _=>(yz (i:=0) (show List.Nodup (["place","worths"]:List Str) from (by decide +kernel)) rfl (Or.inl rfl) (.inr rfl))) (fun _ _ _ _=>(Kq (zy Yy (Zk (xw hr) (pv 1) (pv 0) (fun _ _=>rfl)) (zf (i:=0)) (zL _)))) (fun _ _ _ _=>(yh (za (pv 0) (za (Zk (xw hr) (pv 1) (pv 0) (fun _ _=>rfl)) ze)))))))),W1 h1 h2 h3 q⟩
theorem za0 (T:Txt K mg t):FnOk P w K mg base (CX1 P w) 14 t.a_alone t.d_alone ["rows","table"] (Xa):=by
 refine T.f_alone.ok0 sc_alone (fun vs H Q E h=>?_) (fun cdv A outer s H vs Q E hr h=>?_)
 ·obtain ⟨v,a,rws,tab,rfl,_⟩:=h;rfl
 obtain ⟨v,a,rws,tab,rfl,h1,h2,h3,q⟩:=h
 exact ⟨Xb K t,(zg (zK (i:=2) sc_alone.nd rfl (Or.inl rfl) (Kl T.mk_Doing (FnOk.mono (XJ T) (by decide)) hr rfl T.g_Doing T.b_Doing_init .nil zw (za (pv 1) ze)))
  (zg (VJ (And.intro rfl rfl) rfl (Ku (i:=3) sc_alone.nd rfl (Or.inl rfl) (YX (pv 2) T.cl_Doing T.me_Doing_goes_through (FnOk.mono (kJ T 6) (by decide)) hr T.b_Doing_goes_through (za (pv 0) ze))) rfl T.g_Great rfl T.g_Nought (fun _=>(zi (zA (VL (FnOkH.mono (jh T) (by decide)) (zcf hr) rfl T.m_broken_off T.f_broken_off.kp T.b_broken_off (za (zR (x:="great")) (za (pv 1) ze)))))) (fun _=>(zi (zA (VL (FnOkH.mono (jh T) (by decide)) (zcf hr) rfl T.m_broken_off T.f_broken_off.kp T.b_broken_off (za (zR (x:="nought")) (za (pv 1) ze)))))))
  (zg (zY (jX (wz (pv 3))) (zi (zA (zq (FnOk.mono (XM T) (by decide)) hr rfl T.m_broken_off T.f_broken_off.kp T.b_broken_off .nil zw (za (zR (x:="told")) (za (pv 1) ze)))))
    zS)
  (zi (zA (yh (za (yh (za (zR (x:="done")) (za (yY qH rfl T.b_tuple YK (za (z5 (f:="sayings") (pv 2) rfl) ze)) ze))) (za (zq (FnOk.mono (Jo T) (by decide)) hr rfl T.m_table_of T.f_table_of.kp T.b_table_of .nil zw (za (yY (kA rfl) rfl T.b_list j5 (za (YY (z5 (f:="worths") (pv 2) rfl)) ze)) ze)) ze)))))))),Qx T h1 h2 h3 q⟩
theorem Jp (T:Txt K mg t):FnOk P w K mg base (CX1 P w) 16 t.a__law_led t.d__law_led ["rows","cell","shelves","table"] (kZ):=by
 refine T.f__law_led.ok0 sc__law_led (fun vs H Q E h=>?_) (fun cdv A outer s H vs Q E hr h=>?_)
 ·obtain ⟨v,c,b,us,tl,tab,r,rfl,_⟩:=h;rfl
 obtain ⟨v,c,b,us,tl,tab,r,rfl,h1,h2,h3,h4,h5,h6,h7,q⟩:=h
 exact ⟨qj K t,(zg (zK (i:=4) sc__law_led.nd rfl (Or.inl rfl) (zq (FnOk.mono (Kc T) (by decide)) hr rfl T.m_code_of T.f_code_of.kp T.b_code_of .nil zw (za (pv 0) ze)))
  (zg (zK (i:=5) sc__law_led.nd rfl (Or.inl rfl) (zq (FnOk.mono (Vf T) (by decide)) hr rfl T.m_fed T.f_fed.kp T.b_fed .nil zw (za (pv 4) (za (pv 3) ze))))
  (zg (zY (jX (wz (zq (FnOk.mono (jW T) (by decide)) hr rfl T.m__law_is_paper T.f__law_is_paper.kp T.b__law_is_paper .nil zw (za (pv 5) ze)))) (zi (zA (qG (b:=false))))
    zS)
  (zg (zK (i:=6) sc__law_led.nd rfl (Or.inl rfl) (zq (FnOk.mono (XI T) (by decide)) hr rfl T.m__law_other T.f__law_other.kp T.b__law_other .nil zw (za (pv 1) (za (pv 2) (za (pv 3) (za (pv 5) ze))))))
  (zg (zK (i:=7) sc__law_led.nd rfl (Or.inl rfl) (zq (FnOk.mono (jg T) (by decide)) hr rfl T.m__law_listed T.f__law_listed.kp T.b__law_listed .nil zw (za (pv 6) ze)))
  (zg (zY (PW.pt (Vk (zy (YU (WF hr)) (zq (FnOk.mono (Vf T) (by decide)) hr rfl T.m_fed T.f_fed.kp T.b_fed .nil zw (za (pv 4) (za (pv 7) ze))) (pv 5) (zL _)) (Yu (zy (YU (WF hr)) (zO zM (zq (FnOk.mono (za0 T) (by decide)) hr rfl T.m_alone T.f_alone.kp T.b_alone .nil zw (za (pv 0) (za (pv 7) ze))) (zf (i:=0)) (fun _ _=>rfl)) (zO zM (pv 5) (zf (i:=0)) (fun _ _=>rfl)) (zL _))))) (zi (zA (qG (b:=false))))
    zS)
  (zg (zY (zy (VA (WF hr)) (zO zM (pv 5) (zf (i:=1)) (fun _ _=>rfl)) (xa ze) (zL _)) (zi (zA (qG (b:=true))))
    zS)
  (zg (zK (i:=8) sc__law_led.nd rfl (Or.inl rfl) (zx yo (zq (FnOk.mono (zQ T) (by decide)) hr rfl T.m__law_draw T.f__law_draw.kp T.b__law_draw .nil zw (za (pv 1) (za (zf (i:=170)) ze))) (ya xy rfl T.b_len vU (za (zO zM (pv 5) (zf (i:=1)) (fun _ _=>rfl)) ze))))
  (zg (zct (zO xC (zO zM (pv 5) (zf (i:=1)) (fun _ _=>rfl)) (pv 8) (fun _ _=>rfl)) (Wq rfl (wR (yz (i:=9) sc__law_led.nd rfl (Or.inl rfl)) (wR (yz (i:=10) sc__law_led.nd rfl (Or.inl rfl)) Yj))))
  (zg (xR (xw hr) (pv 6) (pv 9) (zq (FnOk.mono (Xr T) (by decide)) hr rfl T.m__law_turned T.f__law_turned.kp T.b__law_turned .nil zw (za (pv 10) (za (pv 1) ze))) rfl)
  (zg (zK (i:=11) sc__law_led.nd rfl (Or.inl rfl) (zq (FnOk.mono (jg T) (by decide)) hr rfl T.m__law_listed T.f__law_listed.kp T.b__law_listed .nil zw (za (pv 6) ze)))
  (zg (zK (i:=12) sc__law_led.nd rfl (Or.inl rfl) (yY j3 rfl T.b_list j5 (za (pv 11) ze)))
  (zg (zK (i:=13) sc__law_led.nd rfl (Or.inl rfl) (zq (FnOk.mono (Vf T) (by decide)) hr rfl T.m_fed T.f_fed.kp T.b_fed .nil zw (za (pv 4) (za (pv 11) ze))))
  (zg (zY (PW.pt (Vk (jX (wz (zq (FnOk.mono (jW T) (by decide)) hr rfl T.m__law_is_paper T.f__law_is_paper.kp T.b__law_is_paper .nil zw (za (pv 13) ze)))) (Yu (zy (YU (WF hr)) (wS Yl (zO zM (pv 13) (zf (i:=1)) (fun _ _=>rfl)) j2 (vF (zx z7 (pv 8) (zf (i:=1))))) (zx kN (wS Yl (zO zM (pv 5) (zf (i:=1)) (fun _ _=>rfl)) j2 (vF (pv 8))) (xa (za (yh (za (pv 9) (za (Zk (xw hr) (pv 6) (pv 9) (fun _ _=>rfl)) ze))) ze))) (zL _))))) (zi (zA (qG (b:=false))))
    zS)
  (zi (zA (Wp (Zg (VG (WF hr)) (pv 11) (pv 12) (zL _)) (Jr (Zg (VG (WF hr)) (zq (FnOk.mono (Vf T) (by decide)) hr rfl T.m_fed T.f_fed.kp T.b_fed .nil zw (za (pv 4) (za (pv 7) ze))) (pv 5) (zL _)))))))))))))))))))),Va h1 h2 h3 h4 h5 h6 h7 q⟩
theorem XN (T:Txt K mg t):FnOk P w K mg base (CX1 P w) 3 t.a__law_table t.d__law_table ["cell","shelves"] (jt):=by
 refine T.f__law_table.ok0 sc__law_table (fun vs H Q E h=>?_) (fun cdv A outer s H vs Q E hr h=>?_)
 ·obtain ⟨c,b,us,rfl,_⟩:=h;rfl
 obtain ⟨c,b,us,rfl,h1,h2,q⟩:=h
 exact ⟨jG K t,(zg (zK (i:=2) sc__law_table.nd rfl (Or.inl rfl) YH)
  (zg (vR PassesOwn.never rfl (qo rfl T.b_range (za (zx yo (zq (FnOk.mono (zQ T) (by decide)) hr rfl T.m__law_draw T.f__law_draw.kp T.b__law_draw .nil zw (za (pv 0) (za (zf (i:=20)) ze))) (zf (i:=7))) ze)) (yz (i:=3) sc__law_table.nd rfl (Or.inl rfl)) (zi (xR (xw hr) (pv 2) (yh (za (zO xC (pv 1) (zx yo (zq (FnOk.mono (zQ T) (by decide)) hr rfl T.m__law_draw T.f__law_draw.kp T.b__law_draw .nil zw (za (pv 0) (za (zx z7 (zf (i:=60)) (pv 3)) ze))) (zf (i:=2))) (fun _ _=>rfl)) (za (zx yo (zq (FnOk.mono (zQ T) (by decide)) hr rfl T.m__law_draw T.f__law_draw.kp T.b__law_draw .nil zw (za (pv 0) (za (zx z7 (zf (i:=70)) (pv 3)) ze))) (zf (i:=3))) ze))) (zq (FnOk.mono (yK T) (by decide)) hr rfl T.m__law_number T.f__law_number.kp T.b__law_number .nil zw (za (pv 0) (za (zx z7 (zf (i:=30)) (zx wk (zf (i:=4)) (pv 3))) ze))) rfl)))
  (zi (zA (zq (FnOk.mono (jg T) (by decide)) hr rfl T.m__law_listed T.f__law_listed.kp T.b__law_listed .nil zw (za (pv 2) ze)))))),Xo h1 h2 q⟩
theorem ok_law (T:Txt K mg t):FnOk P w K mg base (CX1 P w) 17 t.a_law t.d_law ["script"] (sp_law K):=by
 refine T.f_law.ok0 sc_law (fun vs H Q E h=>?_) (fun cdv A outer s H vs Q E hr h=>?_)
 ·obtain ⟨a,ns,rfl,_⟩:=h;rfl
 obtain ⟨a,ns,rfl,hS,hn,q⟩:=h
 exact ⟨J2 K t,(zg (zK (i:=1) sc_law.nd rfl (Or.inl rfl) (zq (FnOk.mono (qP T) (by decide)) hr rfl T.m__law_names T.f__law_names.kp T.b__law_names .nil zw (za (zq (FnOk.mono (vt T) (by decide)) hr rfl T.m__law_cell_at T.f__law_cell_at.kp T.b__law_cell_at .nil zw (za (pv 0) (za (zf (i:=0)) ze))) (za (zf (i:=2)) ze))))
  (zg (zK (i:=2) sc_law.nd rfl (Or.inl rfl) (zq (FnOk.mono (qP T) (by decide)) hr rfl T.m__law_names T.f__law_names.kp T.b__law_names .nil zw (za (zq (FnOk.mono (vt T) (by decide)) hr rfl T.m__law_cell_at T.f__law_cell_at.kp T.b__law_cell_at .nil zw (za (pv 0) (za (zf (i:=1)) ze))) (za (zf (i:=2)) ze))))
  (zg (zK (i:=3) sc_law.nd rfl (Or.inl rfl) (zx z7 (zf (i:=1)) (zx yo (zq (FnOk.mono (zQ T) (by decide)) hr rfl T.m__law_draw T.f__law_draw.kp T.b__law_draw .nil zw (za (zq (FnOk.mono (vt T) (by decide)) hr rfl T.m__law_cell_at T.f__law_cell_at.kp T.b__law_cell_at .nil zw (za (pv 0) (za (zf (i:=0)) ze))) (za (zf (i:=200)) ze))) (zf (i:=14)))))
  (zg (zK (i:=4) sc_law.nd rfl (Or.inl rfl) (wS Yl (pv 0) j2 (vF (zf (i:=240)))))
  (zg (vR PassesOwn.never rfl (Qr rfl T.b_range (za (zf (i:=0)) (za (ya xy rfl T.b_len vU (za (pv 4) ze)) (za (pv 3) ze)))) (yz (i:=5) sc_law.nd rfl (Or.inl rfl)) (zg (zK (i:=6) sc_law.nd rfl (Or.inl rfl) (zq (FnOk.mono (Vc T) (by decide)) hr rfl T.m__law_rows T.f__law_rows.kp T.b__law_rows .nil zw (za (wS Yl (pv 4) (vF (pv 5)) (vF (zx z7 (pv 5) (pv 3)))) (za (pv 1) (za (pv 2) ze)))))
  (zi (zY (jX (wz (zq (FnOk.mono (Jp T) (by decide)) hr rfl T.m__law_led T.f__law_led.kp T.b__law_led .nil zw (za (pv 6) (za (zO xC (pv 4) (pv 5) (fun _ _=>rfl)) (za (pv 2) (za (zq (FnOk.mono (XN T) (by decide)) hr rfl T.m__law_table T.f__law_table.kp T.b__law_table .nil zw (za (zO xC (pv 4) (pv 5) (fun _ _=>rfl)) (za (pv 2) ze))) ze))))))) (zi (zA (qG (b:=false))))
    zS))))
  (zi (zA (qG (b:=true))))))))),zb6 hS hn q⟩
end
end K29
open PySem PySem.W PyProof.Rows
namespace PySem.W.Fast
def tw1167148213930993703:Unit:=()
def tw94374547949408497:Unit:=()
def tw12054536870413545701:Unit:=()
def tw18092152451408395380:Unit:=()
def tw12642072940452632149:Unit:=()
def tw5354877121985981708:Unit:=()
def tw8144725610629393768:Unit:=()
def tw12987480848507641882:Unit:=()
def tw16546440366244331970:Unit:=()
def tw2256193864070149032:Unit:=()
def tw12454921251928985259:Unit:=()
def tw14102257776972205607:Unit:=()
def tw668490207736580705:Unit:=()
def tw1701196354246845067:Unit:=()
def tw11361750753036744195:Unit:=()
def tw15629880835081247900:Unit:=()
def tw2144516401652962725:Unit:=()
def tw2335399977194185476:Unit:=()
def tw7642023454688774979:Unit:=()
def tw2028143482857999400:Unit:=()
def tw13126307850934704577:Unit:=()
def tw239915904732096458:Unit:=()
def tw16634152830733752945:Unit:=()
def tw16965240530083812077:Unit:=()
def tw17093776774648133356:Unit:=()
def tw2434538369759428624:Unit:=()
def tw2699256449696250940:Unit:=()
def tw11373780523586888252:Unit:=()
def tw16107890745643590676:Unit:=()
def tw4064710067565045519:Unit:=()
def tw932562007374079527:Unit:=()
def tw14574038686462709930:Unit:=()
def tw15980771388746013404:Unit:=()
def tw17780718860455746279:Unit:=()
def tw4071040257568247478:Unit:=()
def tw6204744469165160027:Unit:=()
def tw10642865265962327139:Unit:=()
def tw15977901920711439954:Unit:=()
def tw10030896405925038018:Unit:=()
def tw15948340510271737094:Unit:=()
def tw5509886640099912054:Unit:=()
def tw6658187662812267275:Unit:=()
def tw8403308093644795214:Unit:=()
def tw17604311362979930838:Unit:=()
def tw15043393020325308423:Unit:=()
def tw765428565031783765:Unit:=()
def tw9091314654453309293:Unit:=()
def tw12634838196455787196:Unit:=()
def tw12884065969648250233:Unit:=()
def tw16233727202327262757:Unit:=()
def tw8396357454725450970:Unit:=()
def tw5937282390435812775:Unit:=()
def tw4906827307664255323:Unit:=()
def tw17871841159411974470:Unit:=()
def tw3241290308667225522:Unit:=()
def tw1163699509128934919:Unit:=()
def tw16358302549698545887:Unit:=()
def tw16528043415587655927:Unit:=()
def tw18285488481132131906:Unit:=()
def tw15456498099065689797:Unit:=()
def tw7261754535544350324:Unit:=()
def tw11217198095564341096:Unit:=()
def tw6224358716168965269:Unit:=()
def tw10666171401237991069:Unit:=()
def tw1226688628252366716:Unit:=()
def tw6741852413998813947:Unit:=()
def tw17615255675529667965:Unit:=()
def tw17007439336667116632:Unit:=()
def tw2598360731364442788:Unit:=()
def tw4417403543758660220:Unit:=()
def tw2628707416687799752:Unit:=()
def tw6340782911849311557:Unit:=()
def tw2110027427903136797:Unit:=()
def tw18421129331685940216:Unit:=()
def tw7303665706120868192:Unit:=()
def tw12108312783427658173:Unit:=()
def tw6899322259789540013:Unit:=()
def tw11559489635070899508:Unit:=()
def tw6032476843095529323:Unit:=()
def tw5247981343903457845:Unit:=()
def tw13319540812292313244:Unit:=()
def tw16061838787185310402:Unit:=()
def tw31454096004888032:Unit:=()
def tw1147849514295599545:Unit:=()
def tw9595586619223318821:Unit:=()
def tw8949717048671959561:Unit:=()
def tw10813511912557248331:Unit:=()
def tw10763463448686129773:Unit:=()
def tw4180326629220318974:Unit:=()
def tw5998756107240280497:Unit:=()
def tw7010508318043724418:Unit:=()
def tw5061027385356024522:Unit:=()
def tw11709041102511423286:Unit:=()
def tw3864310595451359687:Unit:=()
def tw17278006597832834253:Unit:=()
def tw5393412644025048337:Unit:=()
def tw9014728068972176972:Unit:=()
def tw10182999002720673390:Unit:=()
def tw4385262872338834652:Unit:=()
def tw17773840014427105120:Unit:=()
def tw9432292636789328002:Unit:=()
def tw15166075549929214243:Unit:=()
def tw5510831843732062469:Unit:=()
def tw8363408623219739574:Unit:=()
def tw5537823192051963286:Unit:=()
def tw11193135131907848360:Unit:=()
def tw10070686768402720416:Unit:=()
def tw4741136168759495170:Unit:=()
def tw17855624212098816734:Unit:=()
def tw8168339926547122886:Unit:=()
def tw14412537545122911169:Unit:=()
def tw15848988540969528394:Unit:=()
def tw6502521167777217448:Unit:=()
def tw12544811818048677468:Unit:=()
def tw1493096545252558554:Unit:=()
def tw2430715653667091558:Unit:=()
def tw11802861463974453748:Unit:=()
def tw7141591788138768157:Unit:=()
def tw12844075116778151559:Unit:=()
def tw9869077757690887727:Unit:=()
def tw10944487532269261895:Unit:=()
def tw9159806147645809033:Unit:=()
def tw11730450363317711829:Unit:=()
def tw3442470741432360253:Unit:=()
def tw13385607469023403788:Unit:=()
def tw15728184997378524733:Unit:=()
def tw3158481647547833717:Unit:=()
def tw11010551442619531586:Unit:=()
def tw4155722836054289565:Unit:=()
def tw3178573196120085360:Unit:=()
def tw12271170462040543404:Unit:=()
def tw16833319804183244274:Unit:=()
def tw10155217415454394712:Unit:=()
def tw8954425119832890421:Unit:=()
def tw16428078154808803219:Unit:=()
def tw5519501692970227036:Unit:=()
def tw14377118107509513261:Unit:=()
def tw12473069694818249361:Unit:=()
def tw14032405921602496584:Unit:=()
def tw15273693992764260872:Unit:=()
def tw17774965491455091025:Unit:=()
def tw17017733982055410133:Unit:=()
def tw11125704928321902778:Unit:=()
def tw17391161746731347972:Unit:=()
def tw16739369756215450827:Unit:=()
def tw6106991572232081450:Unit:=()
def tw10894545347513671368:Unit:=()
def tw2356651215431674179:Unit:=()
def tw6500017274904639383:Unit:=()
def tw12111231383302512739:Unit:=()
def tw11554585394753950239:Unit:=()
def tw16996910682835985236:Unit:=()
def tw9589865644539177739:Unit:=()
def tw9827761101692894588:Unit:=()
def tw15478961442814626140:Unit:=()
def tw5283917981506349301:Unit:=()
def tw932261354548760461:Unit:=()
def tw2207243721025203396:Unit:=()
def tw15486890456423076463:Unit:=()
def tw8308618999348631872:Unit:=()
def tw13552012323248348839:Unit:=()
def tw16824084904633691977:Unit:=()
def tw8018757328248300805:Unit:=()
def tw9048224705762223504:Unit:=()
def tw2496394123740173069:Unit:=()
def tw16282012951549789140:Unit:=()
def tw7745461531788216125:Unit:=()
def tw12572367283119246867:Unit:=()
def tw2302353999638895354:Unit:=()
def tw18295519658817206322:Unit:=()
def tw11317121767160889356:Unit:=()
def tw13603354838498602673:Unit:=()
def tw14104175811984753663:Unit:=()
def tw5646017661636230305:Unit:=()
def tw16886324776562974767:Unit:=()
def tw12836713510318789828:Unit:=()
def tw16551919435212340515:Unit:=()
def tw6036383857112457521:Unit:=()
def tw756739556561996052:Unit:=()
def tw1882944438010087571:Unit:=()
def tw16457072890777562928:Unit:=()
def tw2400026865976195292:Unit:=()
def tw10207370074455702849:Unit:=()
def tw1720095338254813710:Unit:=()
def tw7603554309100421636:Unit:=()
def tw8183169092095467982:Unit:=()
def tw15203438719234653302:Unit:=()
def tw8051144015996581390:Unit:=()
def tw693739887670655854:Unit:=()
def tw11878707105203070334:Unit:=()
def tw13128408598021097707:Unit:=()
def tw10303123692595436004:Unit:=()
def tw2049264372374710540:Unit:=()
def tw9124373049926730763:Unit:=()
def tw7393007984235680456:Unit:=()
def tw5289085187720671451:Unit:=()
def tw4590853128437132466:Unit:=()
def tw14253000058472641913:Unit:=()
def tw2002151175151279054:Unit:=()
def tw5232111496393299175:Unit:=()
def tw9334722245956173813:Unit:=()
def tw12624380168906384746:Unit:=()
def tw18412103293808844510:Unit:=()
def tw15246019916300236730:Unit:=()
def tw4149215589537053185:Unit:=()
def tw13156889210862954721:Unit:=()
def tw13142466302466718297:Unit:=()
def tw9303734976420648726:Unit:=()
def tw11208186656771393526:Unit:=()
def tw9775859010903415585:Unit:=()
def tw1575602820042677381:Unit:=()
def tw3560731718661609509:Unit:=()
def tw15534185062724475867:Unit:=()
def tw14863288589628880008:Unit:=()
def tw12029945743678091743:Unit:=()
def tw16241298509748913838:Unit:=()
def tw14273512387220765422:Unit:=()
def tw1500282149075353825:Unit:=()
def tw9493304367877659185:Unit:=()
def tw7791369250206845319:Unit:=()
def tw15182591944863256647:Unit:=()
def tw14407660768638413986:Unit:=()
def tw17788410493808637645:Unit:=()
def tw7290517463069752604:Unit:=()
def tw15971816448947121220:Unit:=()
def tw14418272974610120499:Unit:=()
def tw773699397161942234:Unit:=()
def tw14164068596516809945:Unit:=()
def tw6814989398119075278:Unit:=()
def tw15664441521265734385:Unit:=()
def tw3505947779485027206:Unit:=()
def tw10917904201067742651:Unit:=()
def tw16296601848093646908:Unit:=()
def tw6352725258800832498:Unit:=()
def tw229121106046995746:Unit:=()
def tw4142926824824338578:Unit:=()
def tw16156458660392408620:Unit:=()
def tw13396522527074673311:Unit:=()
def tw9584675788039956089:Unit:=()
def tw16387228375986417591:Unit:=()
def tw18351923868966593067:Unit:=()
def tw10882737108641401215:Unit:=()
def tw11242333131744593835:Unit:=()
def tw17704804534555211041:Unit:=()
def tw4769914278733818993:Unit:=()
def tw2477446399951700157:Unit:=()
def tw15969016795387445247:Unit:=()
def tw15045236034996303785:Unit:=()
def tw6218153823539291414:Unit:=()
def tw8576684146704190781:Unit:=()
def tw13622661809197208722:Unit:=()
def tw10519589714752854711:Unit:=()
def tw13195569431435770824:Unit:=()
def tw12150008417399498343:Unit:=()
def tw4481427072060843777:Unit:=()
def tw5136721549829472147:Unit:=()
def tw8327693992978043557:Unit:=()
def tw2175108181173469680:Unit:=()
def tw306625299205680424:Unit:=()
def tw9521522373993355295:Unit:=()
def tw6719192328940703465:Unit:=()
def tw12122719687371448415:Unit:=()
def tw7011725656556085448:Unit:=()
def tw3126546731710163047:Unit:=()
def tw11268713180042327175:Unit:=()
def tw4604096753382525678:Unit:=()
def tw17771976967226712937:Unit:=()
def tw16966004515589110123:Unit:=()
def tw7147426776871079636:Unit:=()
def tw6848848408925158244:Unit:=()
def tw18011461764167870756:Unit:=()
def tw11986185708361855426:Unit:=()
def tw14504083218436622309:Unit:=()
def tw4416887998310912914:Unit:=()
def tw1710587234597245947:Unit:=()
def tw6158755158029277587:Unit:=()
def tw9930204954243134679:Unit:=()
def tw16241175302457175981:Unit:=()
def tw16497368455447612041:Unit:=()
def tw17756666273204352611:Unit:=()
def tw1144651748091456472:Unit:=()
def tw12131994617174401477:Unit:=()
def tw4012596855039274056:Unit:=()
def tw5957974428867522082:Unit:=()
def tw11297835273413435233:Unit:=()
def tw3087480329263672208:Unit:=()
def tw17262207397935102308:Unit:=()
def tw15088109866824716186:Unit:=()
def tw5617377775879295476:Unit:=()
def tw5038005658037932661:Unit:=()
def tw11576324286149956313:Unit:=()
def tw5509663570233574842:Unit:=()
def tw12381359132974097966:Unit:=()
def tw2574731582118492963:Unit:=()
def tw976482250108601410:Unit:=()
def tw16938230746798930143:Unit:=()
def tw13399605824981889810:Unit:=()
def tw18311355161102900117:Unit:=()
def tw13161937047564423548:Unit:=()
def tw16096272038964856893:Unit:=()
def tw13227153180221549143:Unit:=()
def tw18256891631141460400:Unit:=()
def tw14384363406452255080:Unit:=()
def tw1497929258042337717:Unit:=()
def tw14774305255058262045:Unit:=()
def tw2172044374215743582:Unit:=()
def tw14552917208433760514:Unit:=()
def tw7113065304651861634:Unit:=()
def tw14613465884921638731:Unit:=()
def tw12236486042555392845:Unit:=()
def tw17478363327906575747:Unit:=()
def tw15801270381006463550:Unit:=()
def tw8285384975618640392:Unit:=()
def tw11531242598209616831:Unit:=()
def tw2712929914960614253:Unit:=()
def tw13058014912368010066:Unit:=()
def tw7272287408747314045:Unit:=()
def tw4919881710031520570:Unit:=()
def tw2587327692199661278:Unit:=()
def tw8946531828587419561:Unit:=()
def tw7130146912323397204:Unit:=()
def tw2275057649267761159:Unit:=()
def tw8866832459317469219:Unit:=()
def tw10066377995953464299:Unit:=()
def tw12983508991687921972:Unit:=()
def tw17041931746563137393:Unit:=()
def tw2830510125643926858:Unit:=()
def tw3172382693039127746:Unit:=()
def tw8917502127237979224:Unit:=()
def tw556339628001004487:Unit:=()
def tw3701056644072263596:Unit:=()
def tw1121824242955646230:Unit:=()
def tw1659803168765907196:Unit:=()
def tw2303976178693810292:Unit:=()
def tw4782780461086472124:Unit:=()
def tw7805999102924374313:Unit:=()
def tw11532166904956100009:Unit:=()
def tw12008106949208544343:Unit:=()
def tw6986010974466501320:Unit:=()
def tw13800045256218354895:Unit:=()
def tw8509756618586392322:Unit:=()
def tw16576609899485962453:Unit:=()
def tw18143970935262257562:Unit:=()
def tw10465000559076146308:Unit:=()
def tw16216182598631682190:Unit:=()
def tw4162972812735785153:Unit:=()
def tw17518639856081593738:Unit:=()
def tw15630038401493169062:Unit:=()
end PySem.W.Fast
set_option maxRecDepth 100000 in
set_option maxHeartbeats 0 in
theorem PySem.Challenge.cw_forerun_k29_whole_led_by_its_notes_holds : PySem.Challenge.rw_forerun_k29_whole_led_by_its_notes.Holds := by
 w_on; o_law; k_head; (case hw => w_witness2)
 k_fill
 refine L2.walk_ofX (l := PySem.Challenge.rw_forerun_k29_whole_led_by_its_notes) (n := 63) (k := 17) (x := "script") (sp := K29.sp_law) rfl (by decide) rfl ⟨rfl, by decide, by decide⟩ (fun w h Y => PySem.W.kIn_of Y) ?F ?S
 case F =>
  intro w mg fa h KX G hmg
  have T : ∃ t, K29.Txt (L2.KOf KX) mg t := by
   dsimp only [L2.KOf]
   refine' K29.txt_mk KX G ?qa0 ?ql0 ?qc0 ?qk0 ?qa1 ?ql1 ?qc1 ?qk1 ?qa2 ?ql2 ?qc2 ?qk2 ?qa3 ?ql3 ?qc3 ?qk3 ?qa4 ?ql4 ?qc4 ?qk4 ?qa5 ?ql5 ?qc5 ?qk5 ?qa6 ?ql6 ?qc6 ?qk6 ?qa7 ?ql7 ?qc7 ?qk7 ?qa8 ?ql8 ?qc8 ?qk8 ?qa9 ?ql9 ?qc9 ?qk9 ?qa10 ?ql10 ?qc10 ?qk10 ?qa11 ?qi11 ?ql11 ?qc11 ?qk11 ?qa12 ?qi12 ?ql12 ?qc12 ?qk12 ?qa13 ?qi13 ?ql13 ?qc13 ?qk13 ?qa14 ?ql14 ?qc14 ?qk14 ?qa15 ?ql15 ?qc15 ?qk15 ?qa16 ?ql16 ?qc16 ?qk16 ?qa17 ?ql17 ?qc17 ?qk17 ?qa18 ?ql18 ?qc18 ?qk18 ?qa19 ?qi19 ?ql19 ?qc19 ?qk19 ?qa20 ?qi20 ?ql20 ?qc20 ?qk20 ?qa21 ?qi21 ?ql21 ?qc21 ?qk21 ?qa22 ?qi22 ?ql22 ?qc22 ?qk22 ?qa23 ?qi23 ?ql23 ?qc23 ?qk23 ?qa24 ?qi24 ?ql24 ?qc24 ?qk24 ?qa25 ?qi25 ?ql25 ?qc25 ?qk25 ?qd25 ?qa26 ?ql26 ?qc26 ?qk26 ?qa27 ?ql27 ?qc27 ?qk27 ?qa28 ?ql28 ?qc28 ?qk28 ?qa29 ?ql29 ?qc29 ?qk29 ?qa30 ?ql30 ?qc30 ?qk30 ?qa31 ?ql31 ?qc31 ?qk31 ?qa32 ?qi32 ?ql32 ?qc32 ?qk32 ?qa33 ?qi33 ?ql33 ?qc33 ?qk33 ?qa34 ?qi34 ?ql34 ?qc34 ?qk34 ?qa35 ?qi35 ?ql35 ?qc35 ?qk35 ?qa36 ?ql36 ?qc36 ?qk36 ?qa37 ?ql37 ?qc37 ?qk37 ?qa38 ?ql38 ?qc38 ?qk38 ?qa39 ?ql39 ?qc39 ?qk39 ?qa40 ?ql40 ?qc40 ?qk40 ?qa41 ?ql41 ?qc41 ?qk41 ?qz0 ?qz1 ?qz2 ?qz3 ?qz4 ?qz5 ?qz6 ?qz7 ?qz8 ?qz9 ?qz10 ?qg0 ?qh0 ?qv0 ?qv1 ?qv2 ?qv3 ?pg0 ?pd0 ?po0 ?pe0 ?pm0_ ?pk0 ?pn0_0 ?pn0_1 ?pn0_2 ?pg3 ?pd3 ?po3 ?pe3 ?pm3_ ?pk3 ?pn3_0 ?pn3_1 ?pn3_2 ?pn3_3 ?pn3_4 ?pn3_5 ?pn3_6 ?rx0 ?ry0_0 ?ry0_1 ?ry0_2 ?ry0_3 ?ry0_4 ?ry0_5 ?ry0_6 ?ry0_7 ?re0_0 ?re0_1 ?rm0_0 ?rx1 ?ry1_0 ?ry1_1 ?ry1_2 ?ry1_3 ?ry1_4 ?ry1_5 ?ry1_6 ?ry1_7 ?re1_0 ?re1_1 ?rm1_0
   (case qv0 => k_is)
   (case qv1 => k_is)
   (case qv2 => k_is)
   (case qv3 => k_is)
   (case qa0 => k_is)
   (case ql0 => k_is)
   (case qc0 => k_is)
   (case qk0 => k_is)
   (case qa1 => k_is)
   (case ql1 => k_is)
   (case qc1 => k_is)
   (case qk1 => k_is)
   (case qa2 => k_is)
   (case ql2 => k_is)
   (case qc2 => k_is)
   (case qk2 => k_is)
   (case qa3 => k_is)
   (case ql3 => k_is)
   (case qc3 => k_is)
   (case qk3 => k_is)
   (case qa4 => k_is)
   (case ql4 => k_is)
   (case qc4 => k_is)
   (case qk4 => k_is)
   (case qa5 => k_is)
   (case ql5 => k_is)
   (case qc5 => k_is)
   (case qk5 => k_is)
   (case qa6 => k_is)
   (case ql6 => k_is)
   (case qc6 => k_is)
   (case qk6 => k_is)
   (case qa7 => k_is)
   (case ql7 => k_is)
   (case qc7 => k_is)
   (case qk7 => k_is)
   (case qa8 => k_is)
   (case ql8 => k_is)
   (case qc8 => k_is)
   (case qk8 => k_is)
   (case qa9 => k_is)
   (case ql9 => k_is)
   (case qc9 => k_is)
   (case qk9 => k_is)
   (case qa10 => k_is)
   (case ql10 => k_is)
   (case qc10 => k_is)
   (case qk10 => k_is)
   (case qa11 => k_is)
   (case qi11 => k_is)
   (case ql11 => k_is)
   (case qc11 => k_is)
   (case qk11 => k_is)
   (case qa12 => k_is)
   (case qi12 => k_is)
   (case ql12 => k_is)
   (case qc12 => k_is)
   (case qk12 => k_is)
   (case qa13 => k_is)
   (case qi13 => k_is)
   (case ql13 => k_is)
   (case qc13 => k_is)
   (case qk13 => k_is)
   (case qa14 => k_is)
   (case ql14 => k_is)
   (case qc14 => k_is)
   (case qk14 => k_is)
   (case qa15 => k_is)
   (case ql15 => k_is)
   (case qc15 => k_is)
   (case qk15 => k_is)
   (case qa16 => k_is)
   (case ql16 => k_is)
   (case qc16 => k_is)
   (case qk16 => k_is)
   (case qa17 => k_is)
   (case ql17 => k_is)
   (case qc17 => k_is)
   (case qk17 => k_is)
   (case qa18 => k_is)
   (case ql18 => k_is)
   (case qc18 => k_is)
   (case qk18 => k_is)
   (case qa19 => k_is)
   (case qi19 => k_is)
   (case ql19 => k_is)
   (case qc19 => k_is)
   (case qk19 => k_is)
   (case qa20 => k_is)
   (case qi20 => k_is)
   (case ql20 => k_is)
   (case qc20 => k_is)
   (case qk20 => k_is)
   (case qa21 => k_is)
   (case qi21 => k_is)
   (case ql21 => k_is)
   (case qc21 => k_is)
   (case qk21 => k_is)
   (case qa22 => k_is)
   (case qi22 => k_is)
   (case ql22 => k_is)
   (case qc22 => k_is)
   (case qk22 => k_is)
   (case qa23 => k_is)
   (case qi23 => k_is)
   (case ql23 => k_is)
   (case qc23 => k_is)
   (case qk23 => k_is)
   (case qa24 => k_is)
   (case qi24 => k_is)
   (case ql24 => k_is)
   (case qc24 => k_is)
   (case qk24 => k_is)
   (case qa25 => k_is)
   (case qi25 => k_is)
   (case ql25 => k_is)
   (case qc25 => k_is)
   (case qk25 => k_is)
   (case qd25 => k_is)
   (case qa26 => k_is)
   (case ql26 => k_is)
   (case qc26 => k_is)
   (case qk26 => k_is)
   (case qa27 => k_is)
   (case ql27 => k_is)
   (case qc27 => k_is)
   (case qk27 => k_is)
   (case qa28 => k_is)
   (case ql28 => k_is)
   (case qc28 => k_is)
   (case qk28 => k_is)
   (case qa29 => k_is)
   (case ql29 => k_is)
   (case qc29 => k_is)
   (case qk29 => k_is)
   (case qa30 => k_is)
   (case ql30 => k_is)
   (case qc30 => k_is)
   (case qk30 => k_is)
   (case qa31 => k_is)
   (case ql31 => k_is)
   (case qc31 => k_is)
   (case qk31 => k_is)
   (case qa32 => k_is)
   (case qi32 => k_is)
   (case ql32 => k_is)
   (case qc32 => k_is)
   (case qk32 => k_is)
   (case qa33 => k_is)
   (case qi33 => k_is)
   (case ql33 => k_is)
   (case qc33 => k_is)
   (case qk33 => k_is)
   (case qa34 => k_is)
   (case qi34 => k_is)
   (case ql34 => k_is)
   (case qc34 => k_is)
   (case qk34 => k_is)
   (case qa35 => k_is)
   (case qi35 => k_is)
   (case ql35 => k_is)
   (case qc35 => k_is)
   (case qk35 => k_is)
   (case qa36 => k_is)
   (case ql36 => k_is)
   (case qc36 => k_is)
   (case qk36 => k_is)
   (case qa37 => k_is)
   (case ql37 => k_is)
   (case qc37 => k_is)
   (case qk37 => k_is)
   (case qa38 => k_is)
   (case ql38 => k_is)
   (case qc38 => k_is)
   (case qk38 => k_is)
   (case qa39 => k_is)
   (case ql39 => k_is)
   (case qc39 => k_is)
   (case qk39 => k_is)
   (case qa40 => k_is)
   (case ql40 => k_is)
   (case qc40 => k_is)
   (case qk40 => k_is)
   (case qa41 => k_is)
   (case ql41 => k_is)
   (case qc41 => k_is)
   (case qk41 => k_is)
   (case qz0 => k_is)
   (case qz1 => k_is)
   (case qz2 => k_is)
   (case qz3 => k_is)
   (case qz4 => k_is)
   (case qz5 => k_is)
   (case qz6 => k_is)
   (case qz7 => k_is)
   (case qz8 => k_is)
   (case qz9 => k_is)
   (case qz10 => k_is)
   (case qg0 => k_is)
   (case qh0 => k_is)
   (case pg0 => k_is)
   (case pd0 => k_is)
   (case po0 => k_is)
   (case pe0 => k_is)
   (case pm0_ => k_is)
   (case pk0 => k_is)
   (case pn0_0 => k_is)
   (case pn0_1 => k_is)
   (case pn0_2 => k_is)
   (case pg3 => k_is)
   (case pd3 => k_is)
   (case po3 => k_is)
   (case pe3 => k_is)
   (case pm3_ => k_is)
   (case pk3 => k_is)
   (case pn3_0 => k_is)
   (case pn3_1 => k_is)
   (case pn3_2 => k_is)
   (case pn3_3 => k_is)
   (case pn3_4 => k_is)
   (case pn3_5 => k_is)
   (case pn3_6 => k_is)
   (case rx0 => k_exc)
   (case ry0_0 => k_is)
   (case ry0_1 => k_is)
   (case ry0_2 => k_is)
   (case ry0_3 => k_is)
   (case ry0_4 => k_is)
   (case ry0_5 => k_is)
   (case ry0_6 => k_is)
   (case ry0_7 => k_is)
   (case re0_0 => kernel_rfl)
   (case re0_1 => kernel_rfl)
   (case rm0_0 => kernel_rfl)
   (case rx1 => k_exc)
   (case ry1_0 => k_is)
   (case ry1_1 => k_is)
   (case ry1_2 => k_is)
   (case ry1_3 => k_is)
   (case ry1_4 => k_is)
   (case ry1_5 => k_is)
   (case ry1_6 => k_is)
   (case ry1_7 => k_is)
   (case re1_0 => kernel_rfl)
   (case re1_1 => kernel_rfl)
   (case rm1_0 => kernel_rfl)
  obtain ⟨t, T⟩ := T
  have e0 := hmg.symm.trans T.m_law
  cases e0
  exact ⟨_, T.w_law, fun base _ _ => K29.ok_law T⟩
 case S => exact fun K H a ns hl _ hS => ⟨a, ns, rfl, hS, hl, fun _ => rfl⟩
