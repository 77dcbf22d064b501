import PyProof.Rows.All
import Wide.All
import OpenK.AllK
import Wide.FinOn
import Lean
import PyProof.EqAt
import PyProof.EqKinds
import PyProof.TupleCall
import PySem.Challenge.RW_forerun_k15_blocks_in_blocks
import KE.IntBitsLaws
import KE.KDictList
import KE.KDictOf
import KE.KEqDict
import KE.KIntText
import KE.KItemsList
import KE.KRevIter
import KE.KSortAsk
import KE.KSortTup
import KE.KSorted
import KE.KTryMore
import KE.LcSums
import PyProof.AttrMissHeap
import PyProof.Conv_int_bool
import PyProof.DictItems
import PyProof.DictKinds
import PyProof.DictWalks
import PyProof.EnumFor
import PyProof.EnumMake
import PyProof.EqKinds
import PyProof.ExcInit
import PyProof.InstStoreFacts
import PyProof.ListIndexNeg
import PyProof.MeetsStr
import PyProof.NeKinds
import PyProof.NsDelKeeps
import PyProof.P3Eq
import PyProof.Rows.EqDataRows
import PyProof.Rows.Range3
import PyProof.StrCalls2
import PyProof.StrLaws
import PyProof.StrLawsTight
import PyProof.StrOps
import PyProof.StrOps2
import PyProof.TupleIter
import PyProof.TupleKey
import PyProof.TupleOfSeq
import PyProof.ZipIter
import Wide.ObjOpen
import Wide.RegSB
set_option Elab.async false
set_option linter.all false
set_option maxRecDepth 100000
namespace L2
open PySem PySem.Spec PyProof.Rows
abbrev Key:=Sum Int Str
def Qp:Key→Value→Bool
 | .inl k,v=>Value.isInt k v
 | .inr x,v=>Value.isStrOf x v
def zaH (w:World):Key→Int
 | .inl k=>hashInt k
 | .inr x=>hashStr w x
theorem yA:∀ {k:Key} {v:Value},Qp k v=true→(∃ i t,k=Sum.inl i∧v=Value.int i t)∨(∃ x t,k=Sum.inr x∧v=Value.str x t)
 | .inl i,v,h=>by
  obtain ⟨t,e⟩:=Value.isInt_shape (k:=i) (v:=v) h
  exact .inl ⟨i,t,rfl,e⟩
 | .inr x,v,h=>by
  obtain ⟨t,e⟩:=Value.isStrOf_shape (x:=x) (v:=v) h
  exact .inr ⟨x,t,rfl,e⟩
theorem QB (a b:Int):decide ((Sum.inl a:Key)=Sum.inl b)=(a == b):=by
 by_cases e:a=b
 ·subst e;simp
 ·have h:¬ (Sum.inl a:Key)=Sum.inl b:=fun q=>e (Sum.inl.inj q)
  rw [decide_eq_false h]
  exact (beq_eq_false_iff_ne.mpr e).symm
theorem QC (a b:Str):decide ((Sum.inr a:Key)=Sum.inr b)=decide (a=b):=by
 by_cases e:a=b
 ·subst e;simp
 ·have h:¬ (Sum.inr a:Key)=Sum.inr b:=fun q=>e (Sum.inr.inj q)
  rw [decide_eq_false h,decide_eq_false e]
theorem QD (a:Int) (b:Str):decide ((Sum.inl a:Key)=Sum.inr b)=false:=decide_eq_false (fun q=>nomatch q)
theorem QE (a:Str) (b:Int):decide ((Sum.inr a:Key)=Sum.inl b)=false:=decide_eq_false (fun q=>nomatch q)
def WT (prog:Program) (w:World):PySem.KeyKind prog w Key where
 is:=Qp
 hash:=zaH w
 inj:=fun v a b ha hb=>by
  rcases yA ha with ⟨i,t,rfl,rfl⟩ | ⟨x,t,rfl,rfl⟩
  ·rcases yA hb with ⟨j,u,rfl,e⟩ | ⟨y,u,rfl,e⟩
   ·injection e with e1 _;rw [e1]
   ·exact nomatch e
  ·rcases yA hb with ⟨j,u,rfl,e⟩ | ⟨y,u,rfl,e⟩
   ·exact nomatch e
   ·injection e with e1 _;rw [e1]
 byValue:=fun k v h=>by
  rcases yA h with ⟨i,t,rfl,rfl⟩ | ⟨x,t,rfl,rfl⟩ <;> rfl
 pyHash:=fun hv h=>by
  rcases yA hv with ⟨i,t,rfl,rfl⟩ | ⟨x,t,rfl,rfl⟩
  ·exact wpAny_pyHash_int h
  ·exact wpAny_pyHash_str h
 eqBool:=fun hu hv h=>by
  rcases yA hu with ⟨i,t,rfl,rfl⟩ | ⟨x,t,rfl,rfl⟩
  ·rcases yA hv with ⟨j,u,rfl,rfl⟩ | ⟨y,u,rfl,rfl⟩
   ·rw [QB] at h;exact wpAny_eqBool_int h
   ·rw [QD] at h;exact SeqAt.EqAt.int_str i t y u _ _ _ _ h
  ·rcases yA hv with ⟨j,u,rfl,rfl⟩ | ⟨y,u,rfl,rfl⟩
   ·rw [QE] at h;exact SeqAt.EqAt.str_int x t j u _ _ _ _ h
   ·rw [QC] at h;exact wpAny_eqBool_str h
 «strs»:=fun k x t v h=>by
  rcases yA h with ⟨i,u,rfl,e⟩ | ⟨y,u,rfl,e⟩
  ·exact nomatch e
  ·injection e with e1 _
   subst e1
   cases v <;> rfl
end L2
namespace L2
open PySem PySem.Spec PyProof.Rows
inductive V where
 | non | bl (b:Bool) | int (i:Int) | str (x:Str) | byt (b:Array UInt8) | flt (b:UInt64) | ref (a:Addr) | ty (n:String)
 deriving DecidableEq
def RelV:V→Value→Prop
 | .non,u=>u=Value.none
 | .bl b,u=>u=Value.bool b
 | .int i,u=>∃ t,u=Value.int i t
 | .str x,u=>∃ t,u=Value.str x t
 | .byt b,u=>∃ t,u=Value.bytes b t
 | .flt b,u=>∃ t,u=Value.float b t
 | .ref a,u=>u=Value.ref a
 | .ty n,u=>u=Value.type n
abbrev Vals:List V→List Value→Prop:=Paired RelV
theorem Vals.length {xs:List V} {us:List Value} (r:Vals xs us):xs.length=us.length:=Paired.length r
theorem Vals.get:∀ {xs:List V} {us:List Value} {i:Nat} {x:V},Vals xs us→xs[i]?=some x→∃ u,us[i]?=some u∧RelV x u
 | _,_,_,_,.nil,e=>by simp at e
 | _,_,0,_,.cons r _,e=>by simp at e;subst e;exact ⟨_,rfl,r⟩
 | _,_,i + 1,x,.cons _ t,e=>by
  obtain ⟨u,h1,h2⟩:=Vals.get (i:=i) (x:=x) t (by simpa using e)
  exact ⟨u,by simpa using h1,h2⟩
theorem Vals.append:∀ {xs ys:List V} {us ws:List Value},Vals xs us→Vals ys ws→Vals (xs ++ ys) (us ++ ws)
 | _,_,_,_,.nil,s=>s
 | _,_,_,_,.cons r t,s=>.cons r (Vals.append t s)
theorem Vals.take:∀ {xs:List V} {us:List Value} (n:Nat),Vals xs us→Vals (xs.take n) (us.take n)
 | _,_,0,_=>.nil
 | _,_,_ + 1,.nil=>.nil
 | _,_,n + 1,.cons r t=>.cons r (Vals.take n t)
theorem Vals.drop:∀ {xs:List V} {us:List Value} (n:Nat),Vals xs us→Vals (xs.drop n) (us.drop n)
 | _,_,0,r=>r
 | _,_,_ + 1,.nil=>.nil
 | _,_,n + 1,.cons _ t=>Vals.drop n t
def RelO:Option V→Option Value→Prop
 | some v,some u=>RelV v u
 | none,none=>True
 | _,_=>False
def KV {κ:Type}:List (κ × V)→List (κ × Value)→Prop:=Paired fun (p:κ × V) (q:κ × Value)=>p.1=q.1∧RelV p.2 q.2
def kV:Key→V
 | .inl i=>.int i
 | .inr x=>.str x
inductive HO where
  | lst (xs:List V)
  | tup (xs:List V)
  | dK (kvs:List (Key × V)) | dT (kvs:List (List Key × V))
  | set (S:Int→Bool) (n:Nat)
  | ins (C dx:Addr) (fs:List (Str × V))
  | own (x:Addr)
  | xd (fs:List (Str × V))
  | met (f x:Addr)
  | rng (lo hi:Int)
  | frz (o:Obj) (u:HO)
  | tbl (ps:Array Value)
  | ext (φ:Heap→Prop)
abbrev Hp:=Addr→Option HO
def upd (H:Hp) (a:Addr) (o:HO):Hp:=fun b=>if b=a then some o else H b
theorem zc {H:Hp} {a:Addr} {o:HO}:upd H a o a=some o:=by unfold upd;rw [if_pos rfl]
theorem zk {H:Hp} {a b:Addr} {o:HO} (h:b≠a):upd H a o b=H b:=by unfold upd;rw [if_neg h]
theorem wN {H:Hp} {a b:Addr} {o u:HO} (h:H a=some o) (h':H b=some u) (d:o≠u):a≠b:=by
 intro e;subst e;rw [h] at h';exact d (Option.some.inj h')
theorem zx {H:Hp} {a b:Addr} {o:HO} (h:H a=some o) (h':H b=none):a≠b:=by
 intro e;subst e;rw [h] at h';cases h'
section
variable (P:Program) (w:World)
def ObjOk (H:Hp) (h:Heap) (a:Addr):HO→Prop
 | .lst xs=>xs.length≤sizeLine∧∃ (its:List Value) (n:Nat),Vals xs its∧h.get? a=some { cls:=.type "list",data:=.seq its.toArray n }
 | .tup xs=>xs.length≤sizeLine∧∃ its:List Value,Vals xs its∧IsTup h a its.toArray
 | .dK kvs=>kvs.length≤sizeLine∧(a == sysModules)=false∧∃ vs,KV kvs vs∧h.DictOf (WT P w) a vs
 | .dT kvs=>kvs.length≤sizeLine∧(a == sysModules)=false∧∃ xs:List (List Key × Addr × Value),
   Paired (fun (p:List Key × V) (q:List Key × Addr × Value)=>p.1=q.1∧H q.2.1=some (.tup (p.1.map kV))∧RelV p.2 q.2.2) kvs xs ∧
   ∃ o es ep,h.get? a=some o∧o.ExactDict∧o.data=.dict es ep∧es.toList=xs.map (entryOfKey (tupleKind (WT P w)))∧(xs.map (·.1)).Nodup
 | .set S n=>h.SetOf (intKind P w) a S n
 | .ins C dx fs=>H dx=some (.own a)∧fs.length≤1000∧dx≠a∧h.get? a=some (PySem.W.instObj C dx) ∧
   ∃ mA,h.Ns1 dx mA∧(∀ f,RelO (fs.lookup f) (mA f))∧PySem.Within mA (fs.map (·.1))
 | .own _=>∃ o,h.get? a=some o
 | .xd fs=>∃ mA,h.Ns1 a mA∧∀ f,RelO (fs.lookup f) (mA f)
 | .rng lo hi=>∃ t u v,h.get? a=some { cls:=.type "range",data:=.fields #[.int lo t,.int hi u,.int 1 v] }
 | .frz o u=>h.get? a=some o∧ObjOk H h a u
 | .tbl ps=>h.get? a=some { cls:=.none,data:=.fields ps }
 | .met f x=>h.get? a=some (PySem.W.methodObj (.ref f) (.ref x))
 | .ext φ=>φ h∧(∃ o,h.get? a=some o)∧∀ h1 h2:Heap,φ h1→(∀ o,h1.get? a=some o→h2.get? a=some o)→φ h2
def HOk (H:Hp) (h:Heap):Prop:=∀ a o,H a=some o→ObjOk P w H h a o
end
section
variable {P:Program} {w:World} {H H':Hp} {h h':Heap} {a:Addr} {o:HO}
theorem ObjOk.lt (x:ObjOk P w H h a o):a < h.objs.size:=by
 cases o with
 | lst xs=>obtain ⟨_,_,_,_,e⟩:=x;exact Heap.lt_size e
 | tup xs=>obtain ⟨_,_,_,p⟩:=x;exact p.lt
 | dK kvs=>obtain ⟨_,_,_,_,o,_,_,e,_⟩:=x;exact Heap.lt_size e
 | dT kvs=>obtain ⟨_,_,_,_,o,_,_,e,_⟩:=x;exact Heap.lt_size e
 | set S n=>obtain ⟨o,_,_,_,e,_⟩:=x;exact Heap.lt_size e
 | ins C dx fs=>obtain ⟨_,_,_,e,_⟩:=x;exact Heap.lt_size e
 | own y=>obtain ⟨_,e⟩:=x;exact Heap.lt_size e
 | xd fs=>obtain ⟨_,⟨_,_,_,e,_⟩,_⟩:=x;exact Heap.lt_size e
 | rng lo hi=>obtain ⟨_,_,_,e⟩:=x;exact Heap.lt_size e
 | frz ob u=>obtain ⟨e,_⟩:=x;exact Heap.lt_size e
 | tbl ps=>exact Heap.lt_size (show h.get? a=some _ from x)
 | met f y=>exact Heap.lt_size (show h.get? a=some _ from x)
 | ext φ=>obtain ⟨_,⟨_,e⟩,_⟩:=x;exact Heap.lt_size e
theorem Paired.mapP {α β:Type} {F G:α→β→Prop}:∀ {l₁:List α} {l₂:List β},Paired F l₁ l₂→(∀ a b,F a b→G a b)→Paired G l₁ l₂
 | _,_,.nil,_=>.nil
 | _,_,.cons r t,f=>.cons (f _ _ r) (Paired.mapP t f)
theorem ObjOk.stay (x:ObjOk P w H h a o) (k:∀ b u,(b=a∨H b=some (.own a))→h.get? b=some u→h'.get? b=some u)
  (ho:∀ b,H b=some (.own a)→H' b=some (.own a)) (ht:∀ b xs,H b=some (.tup xs)→H' b=some (.tup xs)):ObjOk P w H' h' a o:=by
 induction o with
 | lst xs=>obtain ⟨z,its,n,r,e⟩:=x;exact ⟨z,its,n,r,k _ _ (.inl rfl) e⟩
 | tup xs=>obtain ⟨z,its,r,ob,e,c⟩:=x;exact ⟨z,its,r,ob,k _ _ (.inl rfl) e,c⟩
 | dK kvs=>obtain ⟨z,y,vs,r,ob,es,ep,e,c⟩:=x;exact ⟨z,y,vs,r,ob,es,ep,k _ _ (.inl rfl) e,c⟩
 | dT kvs =>
  obtain ⟨z,y,xs,r,ob,es,ep,e,c⟩:=x
  exact ⟨z,y,xs,Paired.mapP r fun p q z=>⟨z.1,ht _ _ z.2.1,z.2.2⟩,ob,es,ep,k _ _ (.inl rfl) e,c⟩
 | set S n=>obtain ⟨ob,es,ep,t,e,c⟩:=x;exact ⟨ob,es,ep,t,k _ _ (.inl rfl) e,c⟩
 | ins C dx fs =>
  obtain ⟨d,z,ne,e,mA,⟨od,es,ep,e2,c⟩,r⟩:=x
  exact ⟨ho _ d,z,ne,k _ _ (.inl rfl) e,mA,⟨od,es,ep,k _ _ (.inr d) e2,c⟩,r⟩
 | own y=>obtain ⟨ob,e⟩:=x;exact ⟨ob,k _ _ (.inl rfl) e⟩
 | xd fs=>obtain ⟨mA,⟨od,es,ep,e,c⟩,r⟩:=x;exact ⟨mA,⟨od,es,ep,k _ _ (.inl rfl) e,c⟩,r⟩
 | rng lo hi=>obtain ⟨t,u,v,e⟩:=x;exact ⟨t,u,v,k _ _ (.inl rfl) e⟩
 | frz ob u ih=>obtain ⟨e,q⟩:=x;exact ⟨k _ _ (.inl rfl) e,ih q⟩
 | tbl ps =>
  have e:h.get? a=some { cls:=.none,data:=.fields ps }:=x
  show h'.get? a=some { cls:=.none,data:=.fields ps }
  exact k a _ (.inl rfl) e
 | met f y =>
  have e:h.get? a=some (PySem.W.methodObj (.ref f) (.ref y)):=x
  show h'.get? a=some (PySem.W.methodObj (.ref f) (.ref y))
  exact k a _ (.inl rfl) e
 | ext φ=>obtain ⟨p,⟨o,e⟩,st⟩:=x;exact ⟨st _ _ p fun o q=>k _ _ (.inl rfl) q,⟨o,k _ _ (.inl rfl) e⟩,st⟩
theorem HOk.lt (x:HOk P w H h) (e:H a=some o):a < h.objs.size:=(x a o e).lt
theorem HOk.fresh (x:HOk P w H h) (e:h.objs.size≤a):H a=none:=by
 cases q:H a with
 | none=>rfl
 | some u=>exact absurd (Nat.lt_of_lt_of_le (x.lt q) e) (Nat.lt_irrefl _)
theorem HOk.kept (x:HOk P w H h) (k:∀ b u,h.get? b=some u→h'.get? b=some u):HOk P w H h':=fun a o e =>
 (x a o e).stay (fun b u _ q=>k b u q) (fun _ q=>q) fun _ _ q=>q
theorem HOk.laid (x:HOk P w H h) (k:∀ b u,h.get? b=some u→h'.get? b=some u) (hp:h.objs.size≤a) (new:ObjOk P w (upd H a o) h' a o):HOk P w (upd H a o) h':=fun b u e=>by
 have hn:=x.fresh hp
 by_cases hb:b=a
 ·subst hb;rw [zc] at e;cases e;exact new
 ·rw [zk hb] at e
  exact (x b u e).stay (fun c v _ q=>k c v q) (fun c q=>by rw [zk (zx q hn)];exact q) fun c xs q=>by rw [zk (zx q hn)];exact q
end
def Rd (H:Hp) (a:Addr) (u:HO):Prop:=H a=some u∨∃ o,H a=some (.frz o u)
theorem Rd.ok {P:Program} {w:World} {H:Hp} {h:Heap} {a:Addr} {u:HO} (r:Rd H a u) (x:HOk P w H h):ObjOk P w H h a u:=by
 rcases r with r | ⟨o,r⟩
 ·exact x a u r
 ·obtain ⟨_,q⟩:=x a _ r
  exact q
def Mut:Option HO→Prop
 | some (.lst _)=>True
 | some (.dK _)=>True
 | some (.dT _)=>True
 | some (.set _ _)=>True
 | some (.ins _ _ _)=>True
 | some (.ext _)=>True
 | _=>False
section
variable {P:Program} {w:World} {H:Hp} {h h':Heap} {x e:Addr} {o':HO}
theorem HOk.write (ok:HOk P w H h) (mu:Mut (H x)) (he:e=x∨H e=some (.own x)) (k:∀ b u,b≠e→h.get? b=some u→h'.get? b=some u) (heo:∃ u,h'.get? e=some u)
  (new:ObjOk P w (upd H x o') h' x o'):HOk P w (upd H x o') h':=fun b u q=>by
 have nown:∀ c y,H c=some (.own y)→c≠x:=fun c y r z=>by subst z;rw [r] at mu;exact mu
 have ntup:∀ c xs,H c=some (.tup xs)→c≠x:=fun c xs r z=>by subst z;rw [r] at mu;exact mu
 by_cases hb:b=x
 ·subst hb;rw [zc] at q;cases q;exact new
 ·rw [zk hb] at q
  by_cases hbe:b=e
  ·have q':H b=some (.own x):=by
    rcases he with z | z
    ·exact absurd (hbe.trans z) hb
    ·rw [hbe];exact z
   rw [q] at q';cases q'
   obtain ⟨v,hv⟩:=heo
   exact ⟨v,by rw [hbe];exact hv⟩
  ·refine (ok b u q).stay (fun c v hc r=>k c v ?_ r) (fun c r=>by rw [zk (nown c b r)];exact r) fun c xs r=>by rw [zk (ntup c xs r)];exact r
   rcases hc with rfl | hc
   ·exact hbe
   ·rintro rfl
    rcases he with z | z
    ·exact nown c b hc z
    ·rw [hc] at z;cases z;exact hb rfl
end
structure Un (fs ex:List Addr) (H H':Hp) (h h':Heap):Prop where
 keep:∀ b o,h.get? b=some o→H b=none→b ∉ fs→b ∉ ex→h'.get? b=some o
 slot:∀ b o,h.get? b=some o→H b=none→b∈fs→b ∉ ex→∃ sl,h'.get? b=some { o with slots:=sl }
 free:∀ b o,h.get? b=some o→H b=none→b ∉ ex→H' b=none
 there:∀ b o,h.get? b=some o→b ∉ ex→∃ o',h'.get? b=some o'
 tups:∀ b xs,H b=some (.tup xs)→H' b=some (.tup xs)
 frzs:∀ b o u,H b=some (.frz o u)→H' b=some (.frz o u)
 tbls:∀ b ps,H b=some (.tbl ps)→∃ more,H' b=some (.tbl (ps ++ more))
section
variable {fs fs' ex ex':List Addr} {H H1 H2:Hp} {h h1 h2 h':Heap} {a x e:Addr} {o:HO}
theorem Un.any (u:Un fs ex H H1 h h1) {b:Addr} {ob:Obj} (q:h.get? b=some ob) (n:H b=none) (hx:b ∉ ex):∃ sl,h1.get? b=some { ob with slots:=sl }:=by
 by_cases hb:b∈fs
 ·exact u.slot b ob q n hb hx
 ·exact ⟨ob.slots,u.keep b ob q n hb hx⟩
theorem Un.kept (k:∀ b u,h.get? b=some u→h'.get? b=some u):Un fs ex H H h h' :=
 ⟨fun b ob q _ _ _=>k b ob q,fun b ob q _ _ _=>⟨ob.slots,k b ob q⟩,fun _ _ _ n _=>n,fun b ob q _=>⟨ob,k b ob q⟩,fun _ _ q=>q,fun _ _ _ q=>q,fun _ ps q=>⟨#[],by rw [q];simp⟩⟩
theorem Un.refl:Un fs ex H H h h:=Un.kept fun _ _ q=>q
theorem Un.laid (k:∀ b u,h.get? b=some u→h'.get? b=some u) (hp:h.objs.size≤a) (hn:H a=none):Un fs ex H (upd H a o) h h' where
 keep:=fun b u q _ _ _=>k b u q
 slot:=fun b u q _ _ _=>⟨u.slots,k b u q⟩
 free:=fun b u q n _=>by rw [zk (Nat.ne_of_lt (Nat.lt_of_lt_of_le (Heap.lt_size q) hp))];exact n
 there:=fun b u q _=>⟨u,k b u q⟩
 tups:=fun b xs q=>by rw [zk (zx q hn)];exact q
 frzs:=fun b u xs q=>by rw [zk (zx q hn)];exact q
 tbls:=fun b ps q=>⟨#[],by rw [zk (zx q hn),q];simp⟩
theorem Un.write (mu:Mut (H x)) (he:e=x∨H e=some (.own x)) (k:∀ b u,b≠e→h.get? b=some u→h'.get? b=some u) (heo:∃ u,h'.get? e=some u):Un fs ex H (upd H x o) h h':=by
 have hx:∀ b,H b=none→b≠x:=fun b n z=>by subst z;rw [n] at mu;exact mu
 have hb:∀ b,H b=none→b≠e:=fun b n z=>by
  subst z
  rcases he with r | r
  ·exact hx b n r
  ·rw [n] at r;cases r
 have hm:∀ b u,H b=some u→¬ Mut (some u)→b≠x:=fun b u q nm z=>by subst z;rw [q] at mu;exact nm mu
 refine ⟨fun b u q n _ _=>k b u (hb b n) q,fun b u q n _ _=>⟨u.slots,k b u (hb b n) q⟩,fun b u q n _=>by rw [zk (hx b n)];exact n,fun b u q _=>?_,
  fun b xs q=>by rw [zk (hm b _ q fun z=>z)];exact q,fun b u xs q=>by rw [zk (hm b _ q fun z=>z)];exact q,fun b ps q=>⟨#[],by rw [zk (hm b _ q fun z=>z),q];simp⟩⟩
 by_cases hbe:b=e
 ·subst hbe;exact heo
 ·exact ⟨u,k b u hbe q⟩
end
def trk (h:Heap) (H:Hp):List Addr:=(List.range h.objs.size).filter fun a=>(H a).isSome
def YM (h:Heap) (H:Hp):Heap:=PySem.W.hideAll h (trk h H)
theorem Vk (h:Heap) (H:Hp):(YM h H).objs.size=h.objs.size:=PySem.W.hideAll_size _ _
theorem VU {h:Heap} {H:Hp} {b:Addr} {o:Obj} (e:h.get? b=some o) (n:H b=none):(YM h H).get? b=some o :=
 PySem.W.hideAll_get _ e fun hm=>by
  have q:(H b).isSome=true:=(List.mem_filter.mp hm).2
  rw [n] at q;simp at q
theorem Kp {h:Heap} {H:Hp} {b:Addr} {o:Obj} (e:(YM h H).get? b=some o):h.get? b=some o∧H b=none:=by
 have e':h.get? b=some o:=PySem.W.of_hideAll (trk h H) e
 refine ⟨e',?_⟩
 cases q:H b with
 | none=>rfl
 | some x =>
  have hm:b∈trk h H:=List.mem_filter.mpr ⟨List.mem_range.mpr (Heap.lt_size e'),by simp [q]⟩
  have z:(YM h H).get? b=none:=PySem.W.hideAll_none (trk h H) hm
  rw [z] at e;cases e
def Kq (g h:Heap) (L:Addr):List (Addr × Obj):=(List.range h.objs.size).filterMap fun a=>if a=L∨(g.get? a).isSome=true then none else (h.get? a).map fun o=>(a,o)
def rest (g h:Heap) (L d:Addr):List (Addr × Obj):=(Kq g h L).filter fun p=>decide (p.1≠d)
end L2
namespace L2
open PySem PySem.Spec PyProof.Rows
structure Mod (K:PySem.W.Frag) (mg:Str→Option Value) (base:Heap):Prop where
 kin:K.In base
 glob:base.Ns mainGlobals mg
 blt:∃ mb,base.Ns builtinsNs mb∧∀ x:Str,x≠"__name__"→mb x=bootBuiltins x
 nolimit:base.NoLimit
set_option genSizeOf false in
set_option genInjectivity false in
structure Cx where
 prog:Program
 w:World
 K:PySem.W.Frag
 mg:Str→Option Value
 base:Heap
 A:Around
 N:List Str
 s₀:Shared
 H₀:Hp
 env:Env
 outer:List Env
 stack:List Env
 ex:List Addr
 fn:Str→Bool
 calm:Bool
 pn:List (Addr × Obj)
 xe:Value→Shared→Prop
def frs (l:List Env):List Addr:=l.filterMap (·.frame)
abbrev Cx.fs (X:Cx):List Addr:=frs X.outer
def Vis (sc:Scope) (x:Str):Prop:=sc.names.lookup x=some .local∨sc.names.lookup x=some .cell∨sc.names.lookup x=some .free
def Loc (sc:Scope) (x:Str):Prop:=sc.names.lookup x=some .local∨sc.names.lookup x=some .cell
def zah (env:Env) (h:Heap) (m:Str→Option Value) (x:Str) (u:Value):Prop :=
 (env.kindOf x=some .local∧m x=some u)∨((env.kindOf x=some .cell∨env.kindOf x=some .free)∧∃ c,env.cells.lookup x=some c∧h.IsCell c (some u))
structure Cx.Ok (X:Cx):Prop where
 mod:Mod X.K X.mg X.base
 kind:X.env.scope.kind=.function
 glob:X.env.globals=mainGlobals
 blt:X.env.builtins=builtinsNs
 above:X.s₀.heap.objs.size≤X.env.locals
 inj:∀ x y c,X.env.cells.lookup x=some c→X.env.cells.lookup y=some c→x=y
 has:∀ x,(X.env.kindOf x=some .cell∨X.env.kindOf x=some .free)→∃ c,X.env.cells.lookup x=some c
 cab:∀ x c,X.fn x=true→X.env.cells.lookup x=some c→X.s₀.heap.objs.size≤c
 hd:X.calm=true→X.A.handled=none
 frames:X.A.frames=some X.stack
 stk:X.stack=X.outer∨(X.stack=X.env :: X.outer∧X.env.frame=some X.env.locals)
 exf:∀ b∈X.ex,b≠X.env.locals∧∀ x c,X.env.cells.lookup x=some c→c≠b
 bs:∀ b o,X.base.get? b=some o→X.s₀.heap.get? b=some o∧X.H₀ b=none
 bsz:X.base.objs.size≤X.s₀.heap.objs.size
 noex:∀ b o,X.base.get? b=some o→b ∉ X.ex
 exfs:∀ b∈X.ex,b ∉ X.fs
 funs:X.s₀.heap.FunFrames X.base X.outer
 frf:∀ b∈X.fs,X.H₀ b=none
structure Inv (X:Cx) (pins:List (Addr × Obj)) (σ:List (Option V)) (H:Hp) (s:Shared):Prop where
 ok:X.Ok
 os:s.os=X.s₀.os
 bare:AllBare s.gens
 base:Un X.fs X.ex X.H₀ H X.s₀.heap s.heap
 loc:∃ m,s.heap.Ns X.env.locals m∧∀ (i:Nat) (x:Str) (v:V),X.N[i]?=some x→σ[i]?=some (some v)→Vis X.env.scope x→∃ u,RelV v u∧zah X.env s.heap m x u
 cell:∀ x c,X.env.cells.lookup x=some c→∃ v,s.heap.IsCell c v
 free:H X.env.locals=none
 freeC:∀ x c,X.env.cells.lookup x=some c→H c=none
 pin:∀ p∈X.pn ++ pins,s.heap.get? p.1=some p.2∧H p.1=none∧p.1≠X.env.locals∧p.1 ∉ X.fs∧∀ v,p.2.data≠.cell v
 hok:HOk X.prog X.w H s.heap
 len:σ.length=X.N.length
section
variable {X:Cx} {pins:List (Addr × Obj)} {σ:List (Option V)} {H H':Hp} {s:Shared} {h':Heap}
theorem Cx.Ok.nofr (ok:X.Ok) {b:Addr} {o:Obj} (e:X.base.get? b=some o):b ∉ X.fs:=fun hb=>by
 have:=(ok.funs.mem hb).1
 rw [e] at this;cases this
theorem Inv.bs (I:Inv X pins σ H s):∀ b o,X.base.get? b=some o→s.heap.get? b=some o∧H b=none:=fun b o e =>
 ⟨I.base.keep b o (I.ok.bs b o e).1 (I.ok.bs b o e).2 (I.ok.nofr e) (I.ok.noex b o e),I.base.free b o (I.ok.bs b o e).1 (I.ok.bs b o e).2 (I.ok.noex b o e)⟩
theorem Inv.bk (I:Inv X pins σ H s):∀ b o,X.base.get? b=some o→s.heap.get? b=some o:=fun b o e=>(I.bs b o e).1
theorem Inv.mod (I:Inv X pins σ H s):Mod X.K X.mg X.base:=I.ok.mod
theorem Inv.kIn (I:Inv X pins σ H s):X.K.In s.heap:=I.ok.mod.kin.keeps I.bk
theorem Inv.lt (I:Inv X pins σ H s):X.env.locals < s.heap.objs.size:=let ⟨_,hn,_⟩:=I.loc;hn.lt
theorem Inv.sz (I:Inv X pins σ H s):X.s₀.heap.objs.size≤s.heap.objs.size:=Nat.le_trans I.ok.above (Nat.le_of_lt I.lt)
theorem Inv.nofs (I:Inv X pins σ H s) {a:Addr} (h:s.heap.objs.size≤a):a ∉ X.fs:=fun hb=>by
 obtain ⟨_,o,ho,_⟩:=I.ok.funs.mem hb
 exact absurd (Nat.lt_of_lt_of_le (Heap.lt_size ho) (Nat.le_trans I.sz h)) (Nat.lt_irrefl _)
theorem Inv.cne (I:Inv X pins σ H s):∀ x c,X.env.cells.lookup x=some c→c≠X.env.locals:=fun x c e z=>by
 obtain ⟨v,o,ho,hd⟩:=I.cell x c e
 obtain ⟨m,⟨o',es,ep,ho',hd',_⟩,_⟩:=I.loc
 rw [z,ho'] at ho;cases ho;rw [hd'] at hd;cases hd
theorem Inv.funs (I:Inv X pins σ H s):s.heap.FunFrames X.base X.outer:=by
 have all:∀ (l:List Env),(∀ b∈frs l,b∈X.fs)→X.s₀.heap.FunFrames X.base l→s.heap.FunFrames X.base l:=by
  intro l
  induction l with
  | nil=>intro _ _;trivial
  | cons env r ih =>
   intro hs hl
   obtain ⟨hk,⟨L,o,hf,hn,ho,hd⟩,hr⟩:=hl
   have hL:L∈X.fs:=hs L (by unfold frs;rw [List.filterMap_cons,hf];exact List.mem_cons_self)
   obtain ⟨sl,e⟩:=I.base.slot L o ho (I.ok.frf L hL) hL fun z=>I.ok.exfs L z hL
   exact ⟨hk,⟨L,_,hf,hn,e,hd⟩,ih (fun b hb=>hs b (by unfold frs;rw [List.filterMap_cons,hf];exact List.mem_cons_of_mem _ hb)) hr⟩
 exact all X.outer (fun _ hb=>hb) I.ok.funs
theorem Inv.stack (I:Inv X pins σ H s):s.heap.FunFrames X.base X.stack:=by
 rcases I.ok.stk with e | ⟨e,hf⟩
 ·rw [e];exact I.funs
 ·rw [e]
  obtain ⟨m,hn,_⟩:=I.loc
  refine .cons (by rw [I.ok.kind];decide) hf hn ?_ I.funs
  exact Heap.get?_none_of_le (Nat.le_trans I.ok.bsz I.ok.above)
theorem Inv.stkSub (I:Inv X pins σ H s):∀ b∈frs X.stack,b∈X.env.locals :: X.fs:=fun b hb=>by
 rcases I.ok.stk with e | ⟨e,hf⟩
 ·rw [e] at hb;exact List.mem_cons_of_mem _ hb
 ·rw [e] at hb
  unfold frs at hb
  rw [List.filterMap_cons,hf] at hb
  exact hb
theorem Inv.stkFree (I:Inv X pins σ H s):∀ b∈frs X.stack,H b=none:=fun b hb=>by
 rcases List.mem_cons.mp (I.stkSub b hb) with e | hb
 ·rw [e];exact I.free
 ·obtain ⟨_,o,ho,_⟩:=I.ok.funs.mem hb
  exact I.base.free b o ho (I.ok.frf b hb) fun z=>I.ok.exfs b z hb
theorem Inv.step {g':Array GenState} {t':Nat} {d':Drawn} {ch:List Addr} (I:Inv X pins σ H s)
  (hch:∀ b∈ch,(b∈X.ex∨X.s₀.heap.objs.size≤b)∧b≠X.env.locals∧(∀ x c,X.env.cells.lookup x=some c→c≠b)∧∀ p∈X.pn ++ pins,p.1≠b)
  (keep:∀ b o,b≠X.env.locals→b ∉ X.fs→b ∉ ch→s.heap.get? b=some o→H b=none→h'.get? b=some o)
  (slot:∀ b o,b≠X.env.locals→b∈X.fs→b ∉ ch→s.heap.get? b=some o→H b=none→∃ sl,h'.get? b=some { o with slots:=sl }) (free:∀ b o,b ∉ ch→s.heap.get? b=some o→H b=none→H' b=none)
  (there:∀ b o,b ∉ ch→s.heap.get? b=some o→∃ o',h'.get? b=some o')
  (tups:∀ b xs,H b=some (.tup xs)→H' b=some (.tup xs)) (frzs:∀ b o u,H b=some (.frz o u)→H' b=some (.frz o u)) (tbls:∀ b ps,H b=some (.tbl ps)→∃ more,H' b=some (.tbl (ps ++ more)))
  (ns:∀ m,s.heap.Ns X.env.locals m→h'.Ns X.env.locals m) (hok:HOk X.prog X.w H' h') (hg:AllBare g') :
  Inv X pins σ H' { s with heap:=h',gens:=g',drawn:=d',toks:=t' }:=by
 have neL:∀ b o,X.s₀.heap.get? b=some o→b≠X.env.locals:=fun b o e=>Nat.ne_of_lt (Nat.lt_of_lt_of_le (Heap.lt_size e) I.ok.above)
 have neC:∀ b o,X.s₀.heap.get? b=some o→b ∉ X.ex→b ∉ ch:=fun b o e hx hb=>by
  rcases (hch b hb).1 with z | z
  ·exact hx z
  ·exact absurd (Nat.lt_of_lt_of_le (Heap.lt_size e) z) (Nat.lt_irrefl _)
 have cellK:∀ x c,X.env.cells.lookup x=some c→∀ v,s.heap.IsCell c v→h'.IsCell c v:=fun x c e v ⟨o,ho,hd⟩=>by
  have nch:c ∉ ch:=fun z=>(hch c z).2.2.1 x c e rfl
  by_cases hc:c∈X.fs
  ·obtain ⟨sl,q⟩:=slot c o (I.cne x c e) hc nch ho (I.freeC x c e)
   exact ⟨_,q,hd⟩
  ·exact ⟨o,keep c o (I.cne x c e) hc nch ho (I.freeC x c e),hd⟩
 refine ⟨I.ok,I.os,hg,⟨fun b o e n hb hx=>?_,fun b o e n hb hx=>?_,fun b o e n hx=>?_,fun b o e hx=>?_,fun b xs e=>tups b xs (I.base.tups b xs e),fun b o xs e=>frzs b o xs (I.base.frzs b o xs e),fun b ps e=>?_⟩,?_,fun x c e=>?_,?_,fun x c e=>?_,fun p hp=>?_,hok,I.len⟩
 ·exact keep b o (neL b o e) hb (neC b o e hx) (I.base.keep b o e n hb hx) (I.base.free b o e n hx)
 ·obtain ⟨sl,e1⟩:=I.base.slot b o e n hb hx
  obtain ⟨sl',e2⟩:=slot b _ (neL b o e) hb (neC b o e hx) e1 (I.base.free b o e n hx)
  exact ⟨sl',e2⟩
 ·obtain ⟨o',e1⟩:=I.base.there b o e hx
  exact free b o' (neC b o e hx) e1 (I.base.free b o e n hx)
 ·obtain ⟨o',e1⟩:=I.base.there b o e hx
  exact there b o' (neC b o e hx) e1
 ·obtain ⟨m1,e1⟩:=I.base.tbls b ps e
  obtain ⟨m2,e2⟩:=tbls b _ e1
  exact ⟨m1 ++ m2,by rw [e2,Array.append_assoc]⟩
 ·obtain ⟨m,hn,hl⟩:=I.loc
  refine ⟨m,ns m hn,fun i x v e1 e2 e3=>?_⟩
  obtain ⟨u,r,l⟩:=hl i x v e1 e2 e3
  refine ⟨u,r,?_⟩
  rcases l with l | ⟨k,c,e,z⟩
  ·exact .inl l
  ·exact .inr ⟨k,c,e,cellK x c e _ z⟩
 ·obtain ⟨v,z⟩:=I.cell x c e
  exact ⟨v,cellK x c e v z⟩
 ·obtain ⟨m,⟨o,_,_,ho,_⟩,_⟩:=I.loc
  exact free _ o (fun z=>(hch _ z).2.1 rfl) ho I.free
 ·obtain ⟨v,o,ho,hd⟩:=I.cell x c e
  exact free c o (fun z=>(hch c z).2.2.1 x c e rfl) ho (I.freeC x c e)
 ·obtain ⟨e,n,ne,nf,d⟩:=I.pin p hp
  have nch:p.1 ∉ ch:=fun z=>(hch p.1 z).2.2.2 p hp rfl
  exact ⟨keep p.1 p.2 ne nf nch e n,free p.1 p.2 nch e n,ne,nf,d⟩
theorem Inv.un {t':Nat} (I:Inv X pins σ H s) (u:Un X.fs [] H H' s.heap h') (hok:HOk X.prog X.w H' h'):Inv X pins σ H' { s with heap:=h',toks:=t' }:=by
 obtain ⟨m,⟨o,es,ep,ho,r⟩,_⟩:=id I.loc
 obtain ⟨sl,hL⟩:=u.any ho I.free (by simp)
 exact I.step (g':=s.gens) (d':=s.drawn) (ch:=[]) (fun _ z=>nomatch z) (fun b o _ hb _ e n=>u.keep b o e n hb (by simp)) (fun b o _ hb _ e n=>u.slot b o e n hb (by simp)) (fun b o _ e n=>u.free b o e n (by simp)) (fun b o _ e=>u.there b o e (by simp)) u.tups u.frzs u.tbls (fun m' hm=>by
  obtain ⟨o',es',ep',ho',r'⟩:=hm
  rw [ho] at ho';cases ho'
  exact ⟨_,es',ep',hL,r'⟩) hok I.bare
theorem Inv.call {g':Array GenState} {t':Nat} {d':Drawn} {ch:List Addr} (I:Inv X pins σ H s) (u:Un (frs X.stack) ch H H' s.heap h') (hok:HOk X.prog X.w H' h') (hg:AllBare g')
  (hch:∀ b∈ch,(b∈X.ex∨X.s₀.heap.objs.size≤b)∧b≠X.env.locals∧(∀ x c,X.env.cells.lookup x=some c→c≠b)∧∀ p∈X.pn ++ pins,p.1≠b) :
  Inv X pins σ H' { s with heap:=h',gens:=g',drawn:=d',toks:=t' }:=by
 obtain ⟨m,⟨o,es,ep,ho,r⟩,_⟩:=id I.loc
 obtain ⟨sl,hL⟩:=u.any ho I.free fun z=>(hch _ z).2.1 rfl
 exact I.step (ch:=ch) hch (fun b o hL hb hc e n=>u.keep b o e n (fun z=>(List.mem_cons.mp (I.stkSub b z)).elim hL hb) hc) (fun b o _ _ hc e n=>u.any e n hc) (fun b o hc e n=>u.free b o e n hc) (fun b o hc e=>u.there b o e hc) u.tups u.frzs u.tbls (fun m' hm=>by
  obtain ⟨o',es',ep',ho',r'⟩:=hm
  rw [ho] at ho';cases ho'
  exact ⟨_,es',ep',hL,r'⟩) hok hg
theorem Inv.turned {t':Nat} {it:Addr} (I:Inv X pins σ H s) (k:∀ b o,b≠it→s.heap.get? b=some o→h'.get? b=some o) (hn:H it=none) (hL:it≠X.env.locals)
  (h1:it∈X.ex∨X.s₀.heap.objs.size≤it) (h2:∀ x c,X.env.cells.lookup x=some c→c≠it) (h3:∀ p∈X.pn ++ pins,p.1≠it):Inv X pins σ H { s with heap:=h',toks:=t' }:=by
 have nit:∀ b u,H b=some u→b≠it:=fun b u e z=>by rw [z,hn] at e;cases e
 refine I.step (g':=s.gens) (d':=s.drawn) (ch:=[it]) (fun b hb=>?_) (fun b o _ _ hc e _=>k b o (fun z=>hc (by simp [z])) e) (fun b o _ _ hc e _=>⟨o.slots,k b o (fun z=>hc (by simp [z])) e⟩) (fun _ _ _ _ n=>n)
  (fun b o hc e=>⟨o,k b o (fun z=>hc (by simp [z])) e⟩) (fun _ _ e=>e) (fun _ _ _ e=>e) (fun b ps e=>⟨#[],by rw [e];simp⟩) (fun m hm=>?_) (fun b u e=>?_) I.bare
 ·have e:b=it:=by simpa using hb
  subst e
  exact ⟨h1,hL,h2,h3⟩
 ·obtain ⟨o,es,ep,ho,r⟩:=hm
  exact ⟨o,es,ep,k _ o (Ne.symm hL) ho,r⟩
 ·refine (I.hok b u e).stay (fun c v hc q=>k c v ?_ q) (fun _ q=>q) fun _ _ q=>q
  rcases hc with z | z
  ·rw [z];exact nit b u e
  ·exact nit c _ z
theorem Inv.tok (I:Inv X pins σ H s) (t:Nat):Inv X pins σ H { s with toks:=t }:=I.un (h':=s.heap) (t':=t) Un.refl I.hok
theorem Inv.kept {t':Nat} (I:Inv X pins σ H s) (k:∀ b u,s.heap.get? b=some u→h'.get? b=some u):Inv X pins σ H { s with heap:=h',toks:=t' }:=I.un (Un.kept k) (I.hok.kept k)
theorem Inv.laid {a:Addr} {o:HO} {t':Nat} (I:Inv X pins σ H s) (k:∀ b u,s.heap.get? b=some u→h'.get? b=some u) (hp:s.heap.objs.size≤a) (new:ObjOk X.prog X.w (upd H a o) h' a o) :
  Inv X pins σ (upd H a o) { s with heap:=h',toks:=t' }:=I.un (Un.laid k hp (I.hok.fresh hp)) (I.hok.laid k hp new)
theorem Inv.write {x e:Addr} {o:HO} {t':Nat} (I:Inv X pins σ H s) (mu:Mut (H x)) (he:e=x∨H e=some (.own x)) (k:∀ b u,b≠e→s.heap.get? b=some u→h'.get? b=some u) (heo:∃ u,h'.get? e=some u)
  (new:ObjOk X.prog X.w (upd H x o) h' x o):Inv X pins σ (upd H x o) { s with heap:=h',toks:=t' }:=I.un (Un.write mu he k heo) (I.hok.write mu he k heo new)
theorem Inv.pins_of {pins':List (Addr × Obj)} (I:Inv X pins σ H s) (h:∀ p∈pins',s.heap.get? p.1=some p.2∧H p.1=none∧p.1≠X.env.locals∧p.1 ∉ X.fs∧∀ v,p.2.data≠.cell v):Inv X pins' σ H s :=
 ⟨I.ok,I.os,I.bare,I.base,I.loc,I.cell,I.free,I.freeC,fun p hp=>(List.mem_append.mp hp).elim (fun z=>I.pin p (List.mem_append_left _ z)) (h p),I.hok,I.len⟩
theorem Zk {N:List Str} (hN:N.Nodup) {i j:Nat} {x:Str} (a:N[i]?=some x) (b:N[j]?=some x):i=j:=by
 obtain ⟨h1,e1⟩:=List.getElem?_eq_some_iff.mp a
 obtain ⟨h2,e2⟩:=List.getElem?_eq_some_iff.mp b
 exact (List.getElem_inj hN).mp (e1.trans e2.symm)
theorem Vl {M:Model} {A:Around} {E:Value→Shared→Prop} {i:Nat} {x:Str} {v:V} {u:Value} {Q:Unit→Shared→Prop} (I:Inv X pins σ H s) (hN:X.N.Nodup) (hi:X.N[i]?=some x) (hx:Loc X.env.scope x) (r:RelV v u)
  (h:∀ s',Inv X pins (σ.set i (some v)) H s'→(∃ a,Heap.SameBut a s.heap s'.heap∧(a=X.env.locals∨X.env.cells.lookup x=some a))→Q () s') (hf:X.fn x=true∨X.env.scope.names.lookup x=some .local:=by first | exact .inl rfl | exact .inr rfl | assumption):wpAny M A (storeName X.env x u) Q E s:=by
 obtain ⟨m,hn,hl⟩:=id I.loc
 have hcls:(X.env.scope.kind == .class || (X.env.scope.kind == .module && X.env.locals != X.env.globals))=false:=by rw [I.ok.kind];rfl
 have hiσ:i < σ.length:=by rw [I.len];exact (List.getElem?_eq_some_iff.mp hi).1
 have cne:=I.cne
 have tracked:∀ {a:Addr} {h':Heap},(∃ o,s.heap.get? a=some o∧H a=none)→Heap.SameBut a s.heap h'→HOk X.prog X.w H h':=fun {a h'} ha hs b ob e=>by
  obtain ⟨_,_,hfree⟩:=ha
  refine (I.hok b ob e).stay (fun c w' hc q=>(hs.2 c ?_).trans q) (fun _ q=>q) fun _ _ q=>q
  rintro rfl
  rcases hc with rfl | hc
  ·rw [hfree] at e;cases e
  ·rw [hfree] at hc;cases hc
 rcases hx with hk | hk
 ·refine wpAny_storeName_local hk hn (fun h' hn' hs=>?_) hcls
  obtain ⟨oL,_,_,hoL,_⟩:=id hn
  refine h _ ⟨I.ok,I.os,I.bare,⟨fun b o e n hb hx=>?_,fun b o e n hb hx=>?_,I.base.free,fun b o e hx=>?_,I.base.tups,I.base.frzs,I.base.tbls⟩,⟨_,hn',fun j y v' e1 e2 e3=>?_⟩,fun y c e=>?_,I.free,I.freeC,fun p hp=>?_,tracked ⟨oL,hoL,I.free⟩ hs,by simpa using I.len⟩ ⟨_,hs,.inl rfl⟩
  ·exact (hs.2 b (Nat.ne_of_lt (Nat.lt_of_lt_of_le (Heap.lt_size e) I.ok.above))).trans (I.base.keep b o e n hb hx)
  ·obtain ⟨sl,e1⟩:=I.base.slot b o e n hb hx
   exact ⟨sl,(hs.2 b (Nat.ne_of_lt (Nat.lt_of_lt_of_le (Heap.lt_size e) I.ok.above))).trans e1⟩
  ·obtain ⟨o',e1⟩:=I.base.there b o e hx
   exact ⟨o',(hs.2 b (Nat.ne_of_lt (Nat.lt_of_lt_of_le (Heap.lt_size e) I.ok.above))).trans e1⟩
  ·by_cases hj:j=i
   ·subst hj
    rw [hi] at e1;cases e1
    rw [List.getElem?_set_self hiσ] at e2
    cases e2
    exact ⟨u,r,.inl ⟨hk,by simp⟩⟩
   ·rw [List.getElem?_set_ne (Ne.symm hj)] at e2
    obtain ⟨u',r',q⟩:=hl j y v' e1 e2 e3
    refine ⟨u',r',?_⟩
    rcases q with ⟨k,e⟩ | ⟨k,c,e,z⟩
    ·refine .inl ⟨k,?_⟩
     have:y≠x:=fun e=>hj (Zk hN e1 (e ▸ hi))
     simp [this,e]
    ·exact .inr ⟨k,c,e,z.sameBut hs (cne y c e)⟩
  ·obtain ⟨w',z⟩:=I.cell y c e
   exact ⟨w',z.sameBut hs (cne y c e)⟩
  ·obtain ⟨e,n,ne,nf,d⟩:=I.pin p hp
   exact ⟨(hs.2 p.1 ne).trans e,n,ne,nf,d⟩
 ·have hfn:X.fn x=true:=by
   rcases hf with z | z
   ·exact z
   ·rw [z] at hk;cases hk
  obtain ⟨c,hc⟩:=I.ok.has x (.inl hk)
  obtain ⟨w',z⟩:=I.cell x c hc
  refine wpAny_storeName_cell I.ok.kind hk hc z (fun h' hc' hs=>?_)
  obtain ⟨oc,hoc,hocd⟩:=id z
  refine h { s with heap:=h' } ⟨I.ok,I.os,I.bare,⟨fun b o e n hb hx=>?_,fun b o e n hb hx=>?_,I.base.free,fun b o e hx=>?_,I.base.tups,I.base.frzs,I.base.tbls⟩,⟨m,hn.sameBut hs (Ne.symm (cne x c hc)),fun j y v' e1 e2 e3=>?_⟩,fun y c' e=>?_,I.free,I.freeC,fun p hp=>?_,tracked ⟨oc,hoc,I.freeC x c hc⟩ hs,by simpa using I.len⟩ ⟨c,hs,.inr hc⟩
  ·exact (hs.2 b (Nat.ne_of_lt (Nat.lt_of_lt_of_le (Heap.lt_size e) (I.ok.cab x c hfn hc)))).trans (I.base.keep b o e n hb hx)
  ·obtain ⟨sl,e1⟩:=I.base.slot b o e n hb hx
   exact ⟨sl,(hs.2 b (Nat.ne_of_lt (Nat.lt_of_lt_of_le (Heap.lt_size e) (I.ok.cab x c hfn hc)))).trans e1⟩
  ·obtain ⟨o',e1⟩:=I.base.there b o e hx
   exact ⟨o',(hs.2 b (Nat.ne_of_lt (Nat.lt_of_lt_of_le (Heap.lt_size e) (I.ok.cab x c hfn hc)))).trans e1⟩
  ·by_cases hj:j=i
   ·subst hj
    rw [hi] at e1;cases e1
    rw [List.getElem?_set_self hiσ] at e2
    cases e2
    exact ⟨u,r,.inr ⟨.inl hk,c,hc,hc'⟩⟩
   ·rw [List.getElem?_set_ne (Ne.symm hj)] at e2
    obtain ⟨u',r',q⟩:=hl j y v' e1 e2 e3
    refine ⟨u',r',?_⟩
    rcases q with q | ⟨k,c',e,z'⟩
    ·exact .inl q
    ·refine .inr ⟨k,c',e,z'.sameBut hs ?_⟩
     rintro rfl
     exact hj (Zk hN e1 (I.ok.inj _ _ _ e hc ▸ hi))
  ·by_cases hcc:c'=c
   ·subst hcc;exact ⟨_,hc'⟩
   ·obtain ⟨w2,z2⟩:=I.cell y c' e
    exact ⟨w2,z2.sameBut hs hcc⟩
  ·obtain ⟨e,n,ne,nf,d⟩:=I.pin p hp
   refine ⟨(hs.2 p.1 ?_).trans e,n,ne,nf,d⟩
   intro q
   rw [q,hoc] at e
   have q':oc=p.2:=Option.some.inj e
   exact d w' (by rw [← q'];exact hocd)
theorem kz {M:Model} {A:Around} {E:Value→Shared→Prop} {i:Nat} {x:Str} {v:V} {u:Value} {Q:Unit→Shared→Prop} (I:Inv X pins σ H s) (hN:X.N.Nodup) (hi:X.N[i]?=some x) (hx:Loc X.env.scope x) (r:RelV v u)
  (h:∀ s',Inv X pins (σ.set i (some v)) H s'→Q () s') (hf:X.fn x=true∨X.env.scope.names.lookup x=some .local:=by first | exact .inl rfl | exact .inr rfl | assumption):wpAny M A (storeName X.env x u) Q E s :=
 Vl I hN hi hx r (fun s' I' _=>h s' I') hf
theorem Inv.call' {s':Shared} {ch:List Addr} (I:Inv X pins σ H s) (ho:s'.os=s.os) (u:Un (frs X.stack) ch H H' s.heap s'.heap) (hok:HOk X.prog X.w H' s'.heap) (hg:AllBare s'.gens)
  (hch:∀ b∈ch,(b∈X.ex∨X.s₀.heap.objs.size≤b)∧b≠X.env.locals∧(∀ x c,X.env.cells.lookup x=some c→c≠b)∧∀ p∈X.pn ++ pins,p.1≠b):Inv X pins σ H' s':=by
 obtain ⟨h',g',d',t',o'⟩:=s'
 have e:o'=s.os:=ho
 subst e
 exact I.call (g':=g') (t':=t') (d':=d') u hok hg hch
end
abbrev XK:=Value→Option Addr→Hp→Prop
abbrev St:=List (Option V)
abbrev VK:=V→Hp→Prop
abbrev TE:=St→Hp→VK→Prop
abbrev TT:=St→Hp→(Bool→Hp→Prop)→Prop
abbrev TA:=St→Hp→(List V→Hp→Prop)→Prop
set_option genSizeOf false in
set_option genInjectivity false in
structure j4 where
 nx:St→Hp→Prop
 rt:VK
 bk:St→Hp→Prop:=fun _ _=>False
 ct:St→Hp→Prop:=fun _ _=>False
abbrev TS:=j4→St→Hp→Prop
def EP (X:Cx) (pins:List (Addr × Obj)) (σ:St) (Q:VK) (u:Value) (s':Shared):Prop:=∃ v H',Inv X pins σ H' s'∧RelV v u∧Q v H'
def TP (X:Cx) (pins:List (Addr × Obj)) (σ:St) (Q:Bool→Hp→Prop) (b:Bool) (s':Shared):Prop:=∃ H',Inv X pins σ H' s'∧Q b H'
def AP (X:Cx) (pins:List (Addr × Obj)) (σ:St) (Q:List V→Hp→Prop) (us:List Value) (s':Shared):Prop:=∃ vs H',Inv X pins σ H' s'∧Vals vs us∧Q vs H'
def SP (X:Cx) (pins:List (Addr × Obj)) (D:j4) (f:Flow) (s':Shared):Prop :=
 match f with
 | .next=>∃ σ' H',Inv X pins σ' H' s'∧D.nx σ' H'
 | .brk=>∃ σ' H',Inv X pins σ' H' s'∧D.bk σ' H'
 | .cont=>∃ σ' H',Inv X pins σ' H' s'∧D.ct σ' H'
 | .ret u=>∃ v σ' H',Inv X pins σ' H' s'∧RelV v u∧D.rt v H'
def PE (X:Cx) (e:Expr) (t:TE):Prop :=
 ∀ (pins:List (Addr × Obj)) (s:Shared) (σ:St) (H:Hp) (Q:VK),Inv X pins σ H s→t σ H Q→wpAny (model X.prog X.w) X.A (eval e X.env) (EP X pins σ Q) X.xe s
def PT (X:Cx) (e:Expr) (t:TT):Prop :=
 ∀ (pins:List (Addr × Obj)) (s:Shared) (σ:St) (H:Hp) (Q:Bool→Hp→Prop),Inv X pins σ H s→t σ H Q→wpAny (model X.prog X.w) X.A (isTrue e X.env (eval e X.env)) (TP X pins σ Q) X.xe s
def PW (X:Cx) (e:Expr) (t:TT):Prop :=
 ∀ (whole:Sem Value) (pins:List (Addr × Obj)) (s:Shared) (σ:St) (H:Hp) (Q:Bool→Hp→Prop),Inv X pins σ H s→t σ H Q→wpAny (model X.prog X.w) X.A (isTrue e X.env whole) (TP X pins σ Q) X.xe s
theorem PW.pt {X:Cx} {e:Expr} {t:TT} (h:PW X e t):PT X e t:=h _
def PA (X:Cx) (es:List Expr) (t:TA):Prop :=
 ∀ (pos:Pos) (pins:List (Addr × Obj)) (s:Shared) (σ:St) (H:Hp) (Q:List V→Hp→Prop),Inv X pins σ H s→t σ H Q→wpAny (model X.prog X.w) X.A (spliced (backTo pos (starEach es X.env))) (AP X pins σ Q) X.xe s
def PS (X:Cx) (st:Stmt) (t:TS):Prop :=
 ∀ (pins:List (Addr × Obj)) (s:Shared) (σ:St) (H:Hp) (D:j4),Inv X pins σ H s→t D σ H→wpAny (model X.prog X.w) X.A (exec st X.env) (SP X pins D) X.xe s
def PSs (X:Cx) (st:List Stmt) (t:TS):Prop :=
 ∀ (pins:List (Addr × Obj)) (s:Shared) (σ:St) (H:Hp) (D:j4),Inv X pins σ H s→t D σ H→wpAny (model X.prog X.w) X.A (execs st X.env) (SP X pins D) X.xe s
theorem thn {α:Type} {t:Sem α} {Q Q':α→Shared→Prop} {M:Model} {A:Around} {E:Value→Shared→Prop} {s:Shared} (h:wpAny M A t Q E s) (hQ:∀ a s,Q a s→Q' a s):wpAny M A t Q' E s:=wpAny_mono h hQ fun _ _ x=>x
end L2
namespace L2
open PySem PySem.Spec PyProof.Rows
section
variable {X:Cx}
def ze (i:Nat):TE:=fun σ H Q=>∃ v,σ[i]?=some (some v)∧Q v H
def tC (v:V):TE:=fun _ H Q=>Q v H
theorem QF {i:Nat} {x:Str} {pos:Pos} (hN:X.N[i]?=some x) (hv:Vis X.env.scope x) (hd:(x == ("__debug__":Str))=false:=by decide) (hcd:(x == ("__classdict__":Str))=false:=by decide):PE X (.Name x pos) (ze i):=by
 intro pins s σ H Q I h
 obtain ⟨v,e,h⟩:=h
 obtain ⟨m,hn,hl⟩:=I.loc
 obtain ⟨u,r,l⟩:=hl i x v hN e hv
 have fin:EP X pins σ Q u s:=⟨v,H,I,r,h⟩
 rcases l with ⟨hk,hm⟩ | ⟨hk,c,hc,hcell⟩
 ·exact wpAny_Name (wpAny_loadName_local I.ok.kind hk hn hm fin) hd
 ·rcases hk with hk | hk
  ·exact wpAny_Name (wpAny_loadName_cell I.ok.kind hk hc hcell fin) hd
  ·exact wpAny_Name (wpAny_loadName_free I.ok.kind hk hc hcell fin hcd) hd
theorem zl {i j pos}:PE X (.Constant (.int i) j pos) (tC (.int i)):=fun _ _ _ H _ I h=>wpAny_Constant_int ⟨.int i,H,I.tok _,⟨_,rfl⟩,h⟩
theorem kA {b j pos}:PE X (.Constant (.bool b) j pos) (tC (.bl b)):=fun _ _ _ H _ I h=>Constant_bool ⟨.bl b,H,I,rfl,h⟩
theorem je {j pos}:PE X (.Constant .none j pos) (tC .non):=fun _ _ _ H _ I h=>Constant_none ⟨.non,H,I,rfl,h⟩
theorem zE {x j pos}:PE X (.Constant (.str x) j pos) (tC (.str x)):=fun _ _ _ H _ I h=>Calls.Constant_str ⟨.str x,H,I.tok _,⟨_,rfl⟩,h⟩
def Gl (X:Cx) (x:Str):Prop:=X.env.kindOf x=some .globalImplicit
theorem vd {E:Value→Shared→Prop} {pins:List (Addr × Obj)} {s:Shared} {σ:St} {H:Hp} {x:Str} {u:Value} {pos:Pos} {Q:Value→Shared→Prop} (I:Inv X pins σ H s) (hg:Gl X x) (hm:X.mg x=some u) (h:Q u s)
  (hd:(x == ("__debug__":Str))=false:=by decide):wpAny (model X.prog X.w) X.A (eval (.Name x pos) X.env) Q E s :=
 Calls.Name_function_global I.ok.kind hg (Calls.loadGlobal_global (by rw [I.ok.glob];exact I.mod.glob.keeps I.bk) hm h) hd
theorem k9 {E:Value→Shared→Prop} {pins:List (Addr × Obj)} {s:Shared} {σ:St} {H:Hp} {x:Str} {u:Value} {pos:Pos} {Q:Value→Shared→Prop} (I:Inv X pins σ H s) (hg:Gl X x) (hm:X.mg x=none) (hv:bootBuiltins x=some u) (h:Q u s)
  (hn:x≠"__name__":=by decide) (hd:(x == ("__debug__":Str))=false:=by decide):wpAny (model X.prog X.w) X.A (eval (.Name x pos) X.env) Q E s:=by
 obtain ⟨mb,h1,h2⟩:=I.mod.blt
 exact Calls.Name_function_global I.ok.kind hg (Calls.loadGlobal_builtin (by rw [I.ok.glob];exact I.mod.glob.keeps I.bk) hm (by rw [I.ok.blt];exact h1.keeps I.bk) ((h2 x hn).trans hv) h) hd
theorem xy {x:Str} {v:V} {u:Value} {pos:Pos} (hg:Gl X x) (hm:X.mg x=some u) (r:RelV v u) (hd:(x == ("__debug__":Str))=false:=by decide):PE X (.Name x pos) (tC v) :=
 fun _ _ _ H _ I h=>vd I hg hm ⟨v,H,I,r,h⟩ hd
theorem wG {x:Str} {v:V} {u:Value} {pos:Pos} (hg:Gl X x) (hm:X.mg x=none) (hv:bootBuiltins x=some u) (r:RelV v u) (hn:x≠"__name__":=by decide) (hd:(x == ("__debug__":Str))=false:=by decide):PE X (.Name x pos) (tC v) :=
 fun _ _ _ H _ I h=>k9 I hg hm hv ⟨v,H,I,r,h⟩ hn hd
variable {a b:Expr} {ta tb:TE} {pos:Pos}
def tB (t:TE):TT:=fun σ H Q=>t σ H fun x H1=>∃ c,x=.bl c∧Q c H1
theorem yT {e:Expr} {t:TE} (h:PE X e t) (he:∀ whole,isTrue e X.env whole=(do let v ← whole;standAt e.pos;holding [v] (truthy v)):=by intro _;rfl):PT X e (tB t):=by
 intro pins s σ H Q I hw
 refine isTrue_plain (thn (h pins s σ H _ I hw) fun v s1 ⟨x,H1,I1,r1,q1⟩=>?_) (he _)
 obtain ⟨d,rfl,q⟩:=q1
 cases r1
 exact wpAny_truthy_bool ⟨H1,I1,q⟩
variable {tA tB':TT} {rest:List Expr}
def zbI (t u:TT):TT:=fun σ H Q=>t σ H fun c H1=>if c=true then u σ H1 Q else Q false H1
def tOr (t u:TT):TT:=fun σ H Q=>t σ H fun c H1=>if c=true then Q true H1 else u σ H1 Q
def vI (t:TT):TT:=fun σ H Q=>t σ H fun c H1=>Q (!c) H1
theorem wv (ha:PT X a tA):PW X (.BoolOp .Or [a] pos) tA:=by
 intro wh pins s σ H Q I h
 refine isTrue_or (thn (ha pins s σ H Q I h) fun c s1 e=>?_)
 cases c with
 | false=>exact isTrue_or_nil e
 | true=>exact e
theorem wO (ha:PT X a tA) (hb:PW X (.BoolOp .Or (b :: rest) pos) tB'):PW X (.BoolOp .Or (a :: b :: rest) pos) (tOr tA tB'):=by
 intro wh pins s σ H Q I h
 refine isTrue_or (thn (ha pins s σ H _ I h) fun c s1 ⟨H1,I1,q1⟩=>?_)
 cases c with
 | true=>exact ⟨H1,I1,q1⟩
 | false=>exact hb wh pins s1 σ H1 Q I1 q1
theorem vJ (ha:PT X a tA):PT X (.UnaryOp .Not a pos) (vI tA):=by
 intro pins s σ H Q I h
 exact isTrue_not (ha pins s σ H (fun c H1=>Q (!c) H1) I h)
def wP (ta tb:TE):TE:=fun σ H Q=>ta σ H fun x H1=>∃ c,x=.bl c∧if c=true then tb σ H1 Q else Q (.bl false) H1
def zbJ (ta tb:TE):TE:=fun σ H Q=>ta σ H fun x H1=>∃ c,x=.bl c∧if c=true then Q (.bl true) H1 else tb σ H1 Q
def jY (ta:TE):TE:=fun σ H Q=>ta σ H fun x H1=>∃ c,x=.bl c∧Q (.bl (!c)) H1
theorem YN {op} {t:TE} (h:PE X a t):PE X (.BoolOp op [a] pos) t:=fun pins s σ H Q I hw=>BoolOp_one (h pins s σ H Q I hw)
theorem Zl (ha:PE X a ta) (hb:PE X (.BoolOp .And (b :: rest) pos) tb):PE X (.BoolOp .And (a :: b :: rest) pos) (wP ta tb):=by
 intro pins s σ H Q I h
 refine BoolOp_and (thn (ha pins s σ H _ I h) fun v s1 ⟨x,H1,I1,r1,q1⟩=>?_)
 obtain ⟨c,rfl,q1⟩:=q1
 cases r1
 refine wpAny_truthy_bool ?_
 cases c with
 | true=>exact hb pins s1 σ H1 Q I1 q1
 | false=>exact ⟨.bl false,H1,I1,rfl,q1⟩
theorem VV (ha:PE X a ta):PE X (.UnaryOp .Not a pos) (jY ta):=by
 intro pins s σ H Q I h
 refine UnaryOp_ (thn (ha pins s σ H _ I h) fun v s1 ⟨x,H1,I1,r1,q1⟩=>?_)
 obtain ⟨c,rfl,q1⟩:=q1
 cases r1
 exact not_of (wpAny_truthy_bool ⟨.bl (!c),H1,I1,rfl,q1⟩)
def tIf (t:TT) (ta tb:TE):TE:=fun σ H Q=>t σ H fun c H1=>if c=true then ta σ H1 Q else tb σ H1 Q
theorem jf {c:Expr} (hc:PT X c tA) (ha:PE X a ta) (hb:PE X b tb):PE X (.IfExp c a b pos) (tIf tA ta tb):=by
 intro pins s σ H Q I h
 refine wpAny_IfExp (thn (hc pins s σ H _ I h) fun d s1 ⟨H1,I1,q1⟩=>?_)
 cases d with
 | true=>exact ha pins s1 σ H1 Q I1 q1
 | false=>exact hb pins s1 σ H1 Q I1 q1
end
end L2
namespace L2
open PySem PySem.Spec PyProof.Rows
def SqL (K:PySem.W.Frag) (H:Hp) (a:Addr) (xs:List V):Prop :=
 Rd H a (.lst xs) ∨
  ∃ (o:Obj) (its:Array Value) (n:Nat),K.lookup a=some o∧o.cls=.type "list"∧o.dict=none∧o.data=.seq its n∧its.size≤sizeLine∧Vals xs its.toList
def SqT (K:PySem.W.Frag) (H:Hp) (a:Addr) (xs:List V):Prop :=
 Rd H a (.tup xs) ∨
  ∃ (o:Obj) (its:Array Value) (n:Nat),K.lookup a=some o∧o.cls=.type "tuple"∧o.data=.seq its n∧its.size≤sizeLine∧Vals xs its.toList
def zaI:Value→Option V
 | .none=>some .non
 | .bool b=>some (.bl b)
 | .int i _=>some (.int i)
 | .str x _=>some (.str x)
 | .bytes b _=>some (.byt b)
 | .float b _=>some (.flt b)
 | .ref a=>some (.ref a)
 | .type n=>some (.ty n)
 | _=>none
theorem RelV.abs {x:V} {u:Value} (r:RelV x u):zaI u=some x:=by
 cases x with
 | non=>cases r;rfl
 | bl _=>cases r;rfl
 | int _=>obtain ⟨t,rfl⟩:=r;rfl
 | str _=>obtain ⟨t,rfl⟩:=r;rfl
 | byt _=>obtain ⟨t,rfl⟩:=r;rfl
 | flt _=>obtain ⟨t,rfl⟩:=r;rfl
 | ref _=>cases r;rfl
 | ty _=>cases r;rfl
theorem RelV.inj {x y:V} {u:Value} (r:RelV x u) (q:RelV y u):x=y:=Option.some.inj (r.abs.symm.trans q.abs)
theorem Vals.inj:∀ {xs ys:List V} {us:List Value},Vals xs us→Vals ys us→xs=ys
 | _,_,_,.nil,.nil=>rfl
 | _,_,_,.cons r t,.cons r' t'=>by rw [r.inj r',Vals.inj t t']
section
variable {X:Cx} {pins:List (Addr × Obj)} {σ:St} {H:Hp} {s:Shared} {a:Addr} {xs ys:List V}
theorem SqL.of {K:PySem.W.Frag} (h:H a=some (.lst xs)):SqL K H a xs:=.inl (.inl h)
theorem SqT.of {K:PySem.W.Frag} (h:H a=some (.tup xs)):SqT K H a xs:=.inl (.inl h)
theorem Inv.list (I:Inv X pins σ H s) (h:SqL X.K H a xs):∃ its:List Value,Vals xs its∧PlainL s.heap a its.toArray∧xs.length≤sizeLine:=by
 rcases h with h | ⟨o,its,n,hk,hc,hd,hs,hz,r⟩
 ·obtain ⟨z,its,n,r,e⟩:=h.ok I.hok
  exact ⟨its,r,⟨_,n,e,rfl,rfl,rfl⟩,z⟩
 ·refine ⟨its.toList,r,⟨o,n,I.kIn a o hk,hc,hd,by simpa using hs⟩,?_⟩
  have e:=r.length
  simp only [Array.length_toList] at e
  lia
theorem Inv.tuple (I:Inv X pins σ H s) (h:SqT X.K H a xs):∃ its:List Value,Vals xs its∧IsTup s.heap a its.toArray∧xs.length≤sizeLine:=by
 rcases h with h | ⟨o,its,n,hk,hc,hs,hz,r⟩
 ·obtain ⟨z,its,r,p⟩:=h.ok I.hok
  exact ⟨its,r,p,z⟩
 ·refine ⟨its.toList,r,⟨o,I.kIn a o hk,hc,n,by simpa using hs⟩,?_⟩
  have e:=r.length
  simp only [Array.length_toList] at e
  lia
theorem Inv.list_inj (I:Inv X pins σ H s) (h:SqL X.K H a xs) (h':SqL X.K H a ys):xs=ys:=by
 obtain ⟨its,r,⟨o,n,e,_,_,d⟩,_⟩:=I.list h
 obtain ⟨its',r',⟨o',n',e',_,_,d'⟩,_⟩:=I.list h'
 rw [e] at e';cases e'
 rw [d] at d'
 injection d' with d1 _
 have:its=its':=by simpa using congrArg Array.toList d1
 subst this
 exact r.inj r'
end
abbrev Cx.wish (X:Cx) (E:Value→Shared→Prop):Cx:={ X with xe:=E }
abbrev Cx.nox (X:Cx):Cx:=X.wish fun _ _=>False
theorem Cx.Ok.wish {X:Cx} (ok:X.Ok) (E:Value→Shared→Prop):(X.wish E).Ok :=
 ⟨ok.mod,ok.kind,ok.glob,ok.blt,ok.above,ok.inj,ok.has,ok.cab,ok.hd,ok.frames,ok.stk,ok.exf,ok.bs,ok.bsz,ok.noex,ok.exfs,ok.funs,ok.frf⟩
theorem Cx.Ok.unwish {X:Cx} {E:Value→Shared→Prop} (ok:(X.wish E).Ok):X.Ok :=
 ⟨ok.mod,ok.kind,ok.glob,ok.blt,ok.above,ok.inj,ok.has,ok.cab,ok.hd,ok.frames,ok.stk,ok.exf,ok.bs,ok.bsz,ok.noex,ok.exfs,ok.funs,ok.frf⟩
section
variable {X:Cx} {pins:List (Addr × Obj)} {σ:St} {H:Hp} {s:Shared} {E:Value→Shared→Prop}
theorem Inv.wish (I:Inv X pins σ H s) (E:Value→Shared→Prop):Inv (X.wish E) pins σ H s:=⟨I.ok.wish E,I.os,I.bare,I.base,I.loc,I.cell,I.free,I.freeC,I.pin,I.hok,I.len⟩
theorem Inv.unwish (I:Inv (X.wish E) pins σ H s):Inv X pins σ H s:=⟨I.ok.unwish,I.os,I.bare,I.base,I.loc,I.cell,I.free,I.freeC,I.pin,I.hok,I.len⟩
theorem SP.unwish {D:j4} {f:Flow} {s':Shared} (h:SP (X.wish E) pins D f s'):SP X pins D f s':=by
 cases f with
 | next=>obtain ⟨σ',H',I,q⟩:=h;exact ⟨σ',H',I.unwish,q⟩
 | brk=>obtain ⟨σ',H',I,q⟩:=h;exact ⟨σ',H',I.unwish,q⟩
 | cont=>obtain ⟨σ',H',I,q⟩:=h;exact ⟨σ',H',I.unwish,q⟩
 | ret u=>obtain ⟨v,σ',H',I,r,q⟩:=h;exact ⟨v,σ',H',I.unwish,r,q⟩
theorem PSs.nox {st:List Stmt} {t:TS} (h:PSs X.nox st t):PSs X st t:=fun pins s σ H D I hw =>
 wpAny_mono (h pins s σ H D (I.wish _) hw) (fun _ _ q=>q.unwish) fun _ _ z=>False.elim z
end
section
variable {X:Cx} {st:Stmt} {rest:List Stmt} {t u:TS} {e:Expr} {te:TE} {pos:Pos}
def zq:TS:=fun D σ H=>D.nx σ H
def zn (t u:TS):TS:=fun D σ H=>t { D with nx:=u D } σ H
theorem zt:PSs X [] zq:=fun _ _ σ H _ I h=>wpAny_execs_nil ⟨σ,H,I,h⟩
theorem zf (h1:PS X st t) (h2:PSs X rest u):PSs X (st :: rest) (zn t u):=by
 intro pins s σ H D I h
 refine wpAny_execs_cons (thn (h1 pins s σ H { D with nx:=u D } I h) fun f s1 q=>?_)
 cases f with
 | next =>
  obtain ⟨σ',H',I',q⟩:=q
  exact h2 pins s1 σ' H' D I' q
 | ret v=>exact q
 | brk=>exact q
 | cont=>exact q
theorem zh (h1:PS X st t):PSs X [st] t:=by
 intro pins s σ H D I h
 refine wpAny_execs_cons (thn (h1 pins s σ H D I h) fun f s1 q=>?_)
 cases f with
 | next=>exact wpAny_execs_nil q
 | ret v=>exact q
 | brk=>exact q
 | cont=>exact q
theorem Inv.quiet {pins:List (Addr × Obj)} {σ:St} {H:Hp} {s:Shared} (I:Inv X pins σ H s):interactive X.env=false:=by simp [interactive,I.ok.kind]
def zU (te:TE):TS:=fun D σ H=>te σ H fun _ H1=>D.nx σ H1
theorem yt (he:PE X e te) (hs:swapsWith e none pos.line X.env=pure false:=by rfl):PS X (.Expr e pos) (zU te):=by
 intro pins s σ H D I h
 exact wpAny_Expr_any (thn (he pins s σ H _ I h) fun v s1 ⟨x,H1,I1,r1,q1⟩=>⟨σ,H1,I1,q1⟩) I.quiet hs
def zA (te:TE):TS:=fun D σ H=>te σ H D.rt
theorem zy (he:PE X e te):PS X (.Return (some e) pos) (zA te):=by
 intro pins s σ H D I h
 exact wpAny_Return_some (thn (he pins s σ H _ I h) fun v s1 ⟨x,H1,I1,r1,q1⟩=>⟨x,σ,H1,I1,r1,q1⟩)
def zbc:TS:=fun D _ H=>D.rt .non H
def zw (c:TT) (t u:TS):TS:=fun D σ H=>c σ H fun b H1=>if b=true then t D σ H1 else u D σ H1
theorem zK {c:Expr} {a b:List Stmt} {tc:TT} (hc:PT X c tc) (ha:PSs X a t) (hb:PSs X b u):PS X (.If c a b pos) (zw tc t u):=by
 intro pins s σ H D I h
 refine wpAny_If (thn (hc pins s σ H _ I h) fun d s1 ⟨H1,I1,q1⟩=>?_)
 cases d with
 | true=>exact ha pins s1 σ H1 D I1 q1
 | false=>exact hb pins s1 σ H1 D I1 q1
def wQ:TS:=fun _ _ _=>False
theorem jg:PS X st wQ:=fun _ _ _ _ _ _ h=>h.elim
end
abbrev TG:=V→St→Hp→(St→Hp→Prop)→Prop
abbrev TGs:=List V→St→Hp→(St→Hp→Prop)→Prop
def PG (X:Cx) (target:Expr) (t:TG):Prop :=
 ∀ (pins:List (Addr × Obj)) (s:Shared) (σ:St) (H:Hp) (v:V) (u:Value) (Q:St→Hp→Prop),Inv X pins σ H s→RelV v u→t v σ H Q →
  wpAny (model X.prog X.w) X.A (assign target X.env u) (fun _ s'=>∃ σ' H',Inv X pins σ' H' s'∧Q σ' H') X.xe s
def PGs (X:Cx) (ts:List Expr) (t:TGs):Prop :=
 ∀ (pins:List (Addr × Obj)) (s:Shared) (σ:St) (H:Hp) (vs:List V) (us:List Value) (Q:St→Hp→Prop),Inv X pins σ H s→Vals vs us→t vs σ H Q →
  wpAny (model X.prog X.w) X.A (assignInOrder ((assignEach ts X.env).map (·.2)) us) (fun _ s'=>∃ σ' H',Inv X pins σ' H' s'∧Q σ' H') X.xe s
abbrev TIp:=V→V→Hp→VK→Prop
def PIp (X:Cx) (op:Operator) (t:TIp):Prop :=
 ∀ (pins:List (Addr × Obj)) (s:Shared) (σ:St) (H:Hp) (x y:V) (v u:Value) (Q:VK),Inv X pins σ H s→RelV x v→RelV y u→t x y H Q →
  wpAny (model X.prog X.w) X.A (inplaceOp op v u) (EP X pins σ Q) X.xe s
section
variable {X:Cx} {pos:Pos}
def zm (i:Nat):TG:=fun v σ H Q=>Q (σ.set i (some v)) H
theorem xc {i:Nat} {x:Str} (hN:X.N.Nodup) (hi:X.N[i]?=some x) (hx:Loc X.env.scope x) (hf:X.fn x=true∨X.env.scope.names.lookup x=some .local:=by first | exact .inl rfl | exact .inr rfl | assumption):PG X (.Name x pos) (zm i):=by
 intro pins s σ H v u Q I r h
 exact wpAny_assign_Name (kz I hN hi hx r (fun s' I'=>⟨_,H,I',h⟩) hf)
def qQ:TGs:=fun vs σ H Q=>vs=[]∧Q σ H
def wR (t:TG) (u:TGs):TGs:=fun vs σ H Q=>∃ v r,vs=v :: r∧t v σ H fun σ' H'=>u r σ' H' Q
theorem YO:PGs X [] qQ:=by
 intro pins s σ H vs us Q I r h
 obtain ⟨e,h⟩:=h
 subst e
 cases r
 exact assignInOrder_nil ⟨σ,H,I,h⟩
theorem vw {e:Expr} {es:List Expr} {t:TG} {u:TGs} (h1:PG X e t) (h2:PGs X es u)
  (hs:(assignEach (e :: es) X.env).map (·.2)=assign e X.env :: (assignEach es X.env).map (·.2):=by rfl):PGs X (e :: es) (wR t u):=by
 intro pins s σ H vs us Q I r h
 obtain ⟨v,vr,e1,h⟩:=h
 subst e1
 cases r with
 | cons r rr =>
  rw [hs]
  refine assignInOrder_cons (thn (h1 pins s σ H _ _ _ I r h) fun _ s1 ⟨σ1,H1,I1,q1⟩=>?_)
  exact h2 pins s1 σ1 H1 _ _ Q I1 rr q1
def qR (K:PySem.W.Frag) (n:Nat) (t:TGs):TG:=fun v σ H Q=>∃ a xs,v=.ref a∧SqT K H a xs∧xs.length=n∧t xs σ H Q
theorem Wh {es:List Expr} {k:Nat} {t:TGs} {n:Nat} (hc:X.calm=true) (h:PGs X es t)
  (hn:(assignEach es X.env).length=n:=by rfl) (hst:(assignEach es X.env).findIdx? (·.1)=none:=by rfl):PG X (.Tuple es k pos) (qR X.K n t):=by
 intro pins s σ H v u Q I r hw
 obtain ⟨a,xs,e1,hq,hl,hw⟩:=hw
 subst e1
 cases r
 obtain ⟨its,rv,ht,hz⟩:=I.tuple hq
 refine assign_Tuple_tuple (I.ok.hd hc) ht (by simp [hn,← hl,rv.length]) hst fun h' hx=>?_
 have I1:Inv X pins σ H { s with heap:=h' }:=I.kept (t':=s.toks) fun b o e=>hx b o (Nat.ne_of_lt (Heap.lt_size e)) e
 exact h pins _ σ H xs _ Q I1 (by simpa using rv) hw
def zJ (te:TE) (g:TG):TS:=fun D σ H=>te σ H fun x H1=>g x σ H1 D.nx
theorem QG {tg e:Expr} {te:TE} {g:TG} (he:PE X e te) (hg:PG X tg g) (hs:swapsWithSole [tg] e pos.line X.env=pure false:=by rfl) (hw:swappedStores [tg] e X.env=pure none:=by rfl)
  (h1:(assignEach [tg] X.env).map (·.2)=[assign tg X.env]:=by rfl):PS X (.Assign [tg] e pos) (zJ te g):=by
 intro pins s σ H D I h
 refine wpAny_Assign_stores (thn (he pins s σ H _ I h) fun v s1 ⟨x,H1,I1,r1,q1⟩=>?_) hs hw
 rw [h1]
 exact thn (hg pins s1 σ H1 x v _ I1 r1 q1) fun _ s2 q=>q
theorem zB {i:Nat} {x:Str} {e:Expr} {te:TE} {pos':Pos} (hN:X.N.Nodup) (hi:X.N[i]?=some x) (hx:Loc X.env.scope x) (he:PE X e te) (hs:swapsWith e (some (.Name x pos')) pos.line X.env=pure false:=by rfl) (hf:X.fn x=true∨X.env.scope.names.lookup x=some .local:=by first | exact .inl rfl | exact .inr rfl | assumption) :
  PS X (.Assign [.Name x pos'] e pos) (zJ te (zm i)):=by
 intro pins s σ H D I h
 refine wpAny_Assign_Name (thn (he pins s σ H _ I h) fun v s1 ⟨y,H1,I1,r1,q1⟩=>?_) hs
 exact kz I1 hN hi hx r1 (fun s2 I2=>⟨_,H1,I2,q1⟩) hf
def Kr (i:Nat) (te:TE) (ti:TIp):TS:=fun D σ H=>∃ x,σ[i]?=some (some x)∧te σ H fun y H1=>ti x y H1 fun z H2=>D.nx (σ.set i (some z)) H2
theorem QH {i:Nat} {x:Str} {e:Expr} {te:TE} {op:Operator} {ti:TIp} {pos':Pos} (hN:X.N.Nodup) (hi:X.N[i]?=some x) (hx:Loc X.env.scope x) (he:PE X e te) (ho:PIp X op ti) (hf:X.fn x=true∨X.env.scope.names.lookup x=some .local:=by first | exact .inl rfl | exact .inr rfl | assumption) :
  PS X (.AugAssign (.Name x pos') op e pos) (Kr i te ti):=by
 intro pins s σ H D I h
 obtain ⟨v,e1,h⟩:=h
 obtain ⟨m,hn,hl⟩:=I.loc
 have vis:Vis X.env.scope x:=by rcases hx with k | k;exact .inl k;exact .inr (.inl k)
 obtain ⟨u,r,l⟩:=hl i x v hi e1 vis
 refine wpAny_AugAssign_Name ?_
 have go:wpAny (model X.prog X.w) X.A (eval e X.env) (fun w s₂=>wpAny (model X.prog X.w) X.A (inplaceOp op u w) (fun r s₃=>wpAny (model X.prog X.w) X.A (storeName X.env x r) (fun _=>SP X pins D .next) X.xe s₃) X.xe s₂) X.xe s:=by
  refine thn (he pins s σ H _ I h) fun w s1 ⟨y,H1,I1,r1,q1⟩=>?_
  refine thn (ho pins s1 σ H1 v y u w _ I1 r r1 q1) fun z s2 ⟨zv,H2,I2,r2,q2⟩=>?_
  exact kz I2 hN hi hx r2 (fun s3 I3=>⟨_,H2,I3,q2⟩) hf
 rcases l with ⟨hk,hm⟩ | ⟨hk,c,hc,hcell⟩
 ·exact wpAny_loadName_local I.ok.kind hk hn hm go
 ·rcases hk with hk | hk
  ·exact wpAny_loadName_cell I.ok.kind hk hc hcell go
  ·rcases hx with k | k
   ·have:X.env.scope.names.lookup x=some .free:=hk
    rw [k] at this;cases this
   ·have:X.env.scope.names.lookup x=some .free:=hk
    rw [k] at this;cases this
def ipI (f:Int→Int→Int):TIp:=fun x y H Q=>∃ i j,x=.int i∧y=.int j∧Q (.int (f i j)) H
theorem QI:PIp X .Add (ipI fun i j=>i + j):=by
 intro pins s σ H x y v u Q I r1 r2 h
 obtain ⟨i,j,e1,e2,q⟩:=h
 subst e1;subst e2
 obtain ⟨t,rfl⟩:=r1
 obtain ⟨t',rfl⟩:=r2
 exact iadd_int ⟨.int _,H,I.tok _,⟨_,rfl⟩,q⟩
end
section
variable {X:Cx} {pos:Pos}
def Wi (c:TT) (tb:TS):TS:=fun D σ H=>∃ W:Nat→St→Hp→Prop,(∃ m,W m σ H)∧∀ m σ H,W m σ H →
 c σ H fun b H1=>if b=true then ∃ N:St→Hp→Prop,(∀ σ' H',N σ' H'→∃ m',m' < m∧W m' σ' H')∧tb { D with nx:=N,ct:=N,bk:=D.nx } σ H1 else D.nx σ H1
theorem VW {c:Expr} {body:List Stmt} {tc:TT} {tb:TS} (hp:PassesOwn (model X.prog X.w) X.A X.env X.xe) (hc:PT X c tc) (hb:PSs X body tb):PS X (.While c body [] pos) (Wi tc tb):=by
 intro pins s σ H D I h
 obtain ⟨W,⟨m0,w0⟩,turn⟩:=h
 refine wpAny_While (codeAny_whileLoop (fun n s'=>∃ σ' H',Inv X pins σ' H' s'∧W n σ' H') ?_ m0 ⟨σ,H,I,w0⟩)
 rintro n s1 ⟨σ1,H1,I1,w1⟩
 refine wpAny_passesOwn hp (thn (hc pins s1 σ1 H1 _ I1 (turn n σ1 H1 w1)) fun b s2 ⟨H2,I2,q2⟩=>?_)
 cases b with
 | true =>
  obtain ⟨N,hN,q2⟩:=q2
  rw [if_pos rfl]
  refine wpAny_passesOwn hp (thn (hb pins s2 σ1 H2 _ I2 q2) fun f s3 q3=>?_)
  cases f with
  | next =>
   obtain ⟨σ3,H3,I3,n3⟩:=q3
   obtain ⟨m',hm,w3⟩:=hN σ3 H3 n3
   exact ⟨m',hm,σ3,H3,I3,w3⟩
  | cont =>
   obtain ⟨σ3,H3,I3,n3⟩:=q3
   obtain ⟨m',hm,w3⟩:=hN σ3 H3 n3
   exact ⟨m',hm,σ3,H3,I3,w3⟩
  | brk=>exact q3
  | ret v=>exact q3
 | false =>
  rw [if_neg Bool.false_ne_true]
  exact wpAny_execs_nil ⟨σ1,H2,I2,q2⟩
end
set_option genSizeOf false in
set_option genInjectivity false in
structure It where
 go:Nat→Hp→Prop
 yld:Nat→Hp→V→Hp→Prop
 stop:Nat→Hp→Prop
def j5 (X:Cx) (pins:List (Addr × Obj)) (H:Hp) (b:Addr):Prop :=
 H b=none∧b≠X.env.locals∧b ∉ X.fs∧(b∈X.ex∨X.s₀.heap.objs.size≤b)∧(∀ x c,X.env.cells.lookup x=some c→c≠b)∧∀ p∈X.pn ++ pins,p.1≠b
theorem Inv.fpOk {X:Cx} {pins:List (Addr × Obj)} {σ:St} {H H':Hp} {s:Shared} {b:Addr} (I:Inv X pins σ H s) (hb:s.heap.objs.size≤b) (hn:H' b=none):j5 X pins H' b:=by
 refine ⟨hn,Nat.ne_of_gt (Nat.lt_of_lt_of_le I.lt hb),I.nofs hb,.inr (Nat.le_trans I.sz hb),fun x c e z=>?_,fun p hp z=>?_⟩
 ·obtain ⟨v,q⟩:=I.cell x c e
  exact absurd (Nat.lt_of_lt_of_le q.lt (by rw [z];exact hb)) (Nat.lt_irrefl _)
 ·exact absurd (Nat.lt_of_lt_of_le (Heap.lt_size (I.pin p hp).1) (by rw [z];exact hb)) (Nat.lt_irrefl _)
structure Vm (P:Program) (w:World) (K:PySem.W.Frag) (tg:Expr) (J:It) (fp:List Addr) (it:Addr) (tn:Nat→Heap→Prop):Prop where
 mem:it∈fp
 obj:∀ i h,tn i h→∀ b∈fp,∃ o,h.get? b=some o∧∀ v,o.data≠.cell v
 keep:∀ i h h',tn i h→(∀ b∈fp,∀ o,h.get? b=some o→h'.get? b=some o)→tn i h'
 item:∀ (X:Cx),X.prog=P→X.w=w→X.K=K→X.calm=true→∀ (i:Nat) (pins:List (Addr × Obj)) (s:Shared) (σ:St) (H:Hp) (E:Value→Shared→Prop),Inv X pins σ H s→(∀ b∈fp,j5 X pins H b)→tn i s.heap→J.go i H →
  wpAny (model P w) X.A (pyNext (.ref it)) (fun r s1=>∃ u,r=some u ∧
   wpAny (model P w) X.A (letOwnedTupleGo tg (.ref it) u) (fun _ s2=>∃ x H',Inv X pins σ H' s2∧RelV x u∧J.yld i H x H'∧tn (i + 1) s2.heap∧∀ b∈fp,H' b=none) E s1) E s
 done:∀ (X:Cx),X.prog=P→X.w=w→X.K=K→X.calm=true→∀ (i:Nat) (pins:List (Addr × Obj)) (s:Shared) (σ:St) (H:Hp) (E:Value→Shared→Prop),Inv X pins σ H s→(∀ b∈fp,j5 X pins H b)→tn i s.heap→J.stop i H →
  wpAny (model P w) X.A (pyNext (.ref it)) (fun r s1=>r=none∧Inv X pins σ H s1) E s
 self:∀ (A:Around) (i:Nat) (s:Shared) (Q:Value→Shared→Prop) (E:Value→Shared→Prop),tn i s.heap→Q (.ref it) s→wpAny (model P w) A (pyIter (.ref it)) Q E s
abbrev TI:=St→Hp→(It→Hp→Prop)→Prop
def PIE (X:Cx) (pins:List (Addr × Obj)) (σ:St) (tg:Expr) (R:It→Hp→Prop) (itv:Value) (s2:Shared):Prop :=
 ∃ (it:Addr) (fp:List Addr) (tn:Nat→Heap→Prop) (J:It) (H':Hp),itv=.ref it∧Inv X pins σ H' s2∧Vm X.prog X.w X.K tg J fp it tn∧tn 0 s2.heap∧(∀ b∈fp,j5 X pins H' b)∧R J H'
def PI (X:Cx) (tg iter:Expr) (wi:TI):Prop :=
 ∀ (pins:List (Addr × Obj)) (s:Shared) (σ:St) (H:Hp) (R:It→Hp→Prop),Inv X pins σ H s→wi σ H R →
  wpAny (model X.prog X.w) X.A (eval iter X.env) (fun v s1=>wpAny (model X.prog X.w) X.A (pyIter v) (PIE X pins σ tg R) X.xe s1) X.xe s
theorem WU {M:Model} {A:Around} {E:Value→Shared→Prop} {s:Shared} {tg:Expr} {it:Addr} {u:Value} {o:Obj} {n:String} {vs:Array Value} {Q:Unit→Shared→Prop} (ho:s.heap.get? it=some o) (hc:o.cls=.type n) (hd:o.data=.fields vs)
  (hn:["enumerate","zip","dict_itemiterator","dict_reverseitemiterator","odict_iterator","itertools.zip_longest","itertools.pairwise"].contains n=false) (hQ:Q () s):wpAny M A (letOwnedTupleGo tg (.ref it) u) Q E s:=by
 unfold letOwnedTupleGo
 cases tg <;> first
  | exact wpAny_pure hQ
  | (cases u <;> first
      | exact wpAny_pure hQ
      | (refine wpAny_bind (wpAny_load ho ?_)
         rw [hc,hd]
         show wpAny M A (if (["enumerate","zip","dict_itemiterator","dict_reverseitemiterator","odict_iterator","itertools.zip_longest","itertools.pairwise"].contains n && vs[0]? == some (rawInt _))=true then _ else _) Q E s
         rw [if_neg (by intro h;rw [hn,Bool.false_and] at h;cases h)]
         exact wpAny_pure hQ))
def Itl (K:PySem.W.Frag) (a:Addr):It :=
 ⟨fun i H=>∃ xs x,SqL K H a xs∧xs[i]?=some x,fun i H x H'=>H'=H∧∀ xs,SqL K H a xs→xs[i]?=some x,fun i H=>∃ xs,SqL K H a xs∧xs.length≤i⟩
def Itt (K:PySem.W.Frag) (a:Addr):It :=
 ⟨fun i H=>∃ xs x,SqT K H a xs∧xs[i]?=some x,fun i H x H'=>H'=H∧∀ xs,SqT K H a xs→xs[i]?=some x,fun i H=>∃ xs,SqT K H a xs∧xs.length≤i⟩
def Itr (lo:Int) (n:Nat):It:=⟨fun i _=>i < n,fun i H x H'=>H'=H∧x=.int (lo + i),fun i _=>n≤i⟩
theorem Vn {P:Program} {w:World} {K:PySem.W.Frag} {tg:Expr} (a it:Addr):Vm P w K tg (Itl K a) [it] it (fun i h=>h.IsListIter it a i) where
 mem:=by simp
 obj:=fun i h st b hb=>by
  have e:b=it:=by simpa using hb
  subst e
  obtain ⟨o,e,c,d⟩:=st
  exact ⟨o,e,fun v z=>by rw [d] at z;cases z⟩
 keep:=fun i h h' st k=>st.at fun o e=>k it (by simp) o e
 item:=by
  intro X hP hw hK hc i pins s σ H E I hf st hg
  subst hP hw hK
  obtain ⟨xs,x,hq,hx⟩:=hg
  obtain ⟨its,rv,p,hz⟩:=I.list hq
  obtain ⟨u,hu,ru⟩:=rv.get hx
  obtain ⟨f0,f1,f2,f3,f4,f5⟩:=hf it (by simp)
  refine wpAny_pyNext_list_item st p.isList (x:=u) (by simpa using hu) fun h' st' sb=>?_
  have I1:Inv X pins σ H { s with heap:=h' }:=I.turned (t':=s.toks) (fun b o hb e=>(sb.2 b hb).trans e) f0 f1 f3 f4 f5
  obtain ⟨o,e,c,d⟩:=id st'
  exact ⟨u,rfl,WU (s:={ s with heap:=h' }) e c d (by decide) ⟨x,H,I1,ru,⟨rfl,fun ys hy=>by rw [I.list_inj hy hq];exact hx⟩,st',fun b hb=>(hf b hb).1⟩⟩
 done:=by
  intro X hP hw hK hc i pins s σ H E I hf st hg
  subst hP hw hK
  obtain ⟨xs,hq,hx⟩:=hg
  obtain ⟨its,rv,p,hz⟩:=I.list hq
  obtain ⟨f0,f1,f2,f3,f4,f5⟩:=hf it (by simp)
  have hl:=rv.length
  exact wpAny_pyNext_list_end (I.ok.hd hc) st p.isList (by simp;lia) fun h' eb=>⟨rfl,I.turned (t':=s.toks) (fun b o hb e=>eb b o hb e) f0 f1 f3 f4 f5⟩
 self:=fun _ _ _ _ _ st h=>wpAny_pyIter_listiter st h
theorem Wj {P:Program} {w:World} {K:PySem.W.Frag} {tg:Expr} (it:Addr) (lo:Int) (n:Nat):Vm P w K tg (Itr lo n) [it] it (fun i h=>IsRangeIter h it (lo + (i:Nat) * 1) ((n:Int) - (i:Nat)) 1) where
 mem:=by simp
 obj:=fun i h st b hb=>by
  have e:b=it:=by simpa using hb
  subst e
  exact ⟨_,st,fun v z=>by
   have z':Data.fields _=Data.cell v:=z
   cases z'⟩
 keep:=fun i h h' st k=>k it (by simp) _ st
 item:=by
  intro X hP hw hK hc i pins s σ H E I hf st hg
  subst hP hw hK
  obtain ⟨f0,f1,f2,f3,f4,f5⟩:=hf it (by simp)
  have W:=Walks.range (prog:=X.prog) (w:=X.w) (I.ok.hd hc) it lo 1 n
  refine W.item i s _ _ hg st fun v h' tk hv st' kk=>?_
  obtain ⟨t,rfl⟩:=hv
  have I1:Inv X pins σ H { s with heap:=h',toks:=tk }:=I.turned (fun b o hb e=>kk b o (by simpa using hb) e) f0 f1 f3 f4 f5
  refine ⟨_,rfl,WU (s:={ s with heap:=h',toks:=tk }) (n:="range_iterator") st' rfl rfl (by decide) ⟨.int (lo + i),H,I1,⟨t,?_⟩,⟨rfl,rfl⟩,st',fun b hb=>(hf b hb).1⟩⟩
  rw [Int.mul_one]
 done:=by
  intro X hP hw hK hc i pins s σ H E I hf st hg
  subst hP hw hK
  obtain ⟨f0,f1,f2,f3,f4,f5⟩:=hf it (by simp)
  exact wpAny_pyNext_range_end (I.ok.hd hc) st (by have:n≤i:=hg;lia) fun h' eb=>⟨rfl,I.turned (t':=s.toks) (fun b o hb e=>eb b o hb e) f0 f1 f3 f4 f5⟩
 self:=fun _ _ _ _ _ st h=>wpAny_pyIter_rangeiter st h
end L2
namespace L2
open PySem PySem.Spec PyProof.Rows
section
variable {X:Cx} {tg:Expr}
def v5 (K:PySem.W.Frag) (tl:TE):TI:=fun σ H R=>tl σ H fun x H1=>∃ a,x=.ref a∧(∃ xs,SqL K H1 a xs)∧R (Itl K a) H1
def zbK (K:PySem.W.Frag) (tl:TE):TI:=fun σ H R=>tl σ H fun x H1=>∃ a,x=.ref a∧(∃ xs,SqT K H1 a xs)∧R (Itt K a) H1
theorem YQ {l:Expr} {tl:TE} (hl:PE X l tl):PI X tg l (v5 X.K tl):=by
 intro pins s σ H R I h
 refine thn (hl pins s σ H _ I h) fun v s1 ⟨x,H1,I1,r1,q1⟩=>?_
 obtain ⟨a,e,⟨xs,hq⟩,q⟩:=q1
 subst e
 cases r1
 obtain ⟨its,rv,p,hz⟩:=I1.list hq
 refine wpAny_pyIter_list p.isList ?_
 refine ⟨s1.heap.objs.size,[s1.heap.objs.size],_,_,H1,rfl,I1.kept (t':=s1.toks) fun b o e=>Heap.get?_push_of_some _ e,Vn a _,⟨_,Heap.get?_push_size _ rfl,rfl,rfl⟩,fun b hb=>?_,q⟩
 have e:b=s1.heap.objs.size:=by simpa using hb
 subst e
 exact I1.fpOk (Nat.le_refl _) (I1.hok.fresh (Nat.le_refl _))
theorem VX {pins:List (Addr × Obj)} {σ:St} {H:Hp} {s:Shared} {R:It→Hp→Prop} {E:Value→Shared→Prop} {lo hi:Int} {t u v:Tok} {tk:Nat} (I:Inv X pins σ H s) (h1:-(2 ^ 62)≤lo) (h2:lo < 2 ^ 62) (h3:-(2 ^ 62)≤hi) (h4:hi < 2 ^ 62)
  (q:R (Itr lo (hi - lo).toNat) H):wpAny (model X.prog X.w) X.A (pyIter (.ref s.heap.objs.size)) (PIE X pins σ tg R) E { s with heap:=s.heap.push { cls:=.type "range",data:=.fields #[.int lo t,.int hi u,.int 1 v] },toks:=tk }:=by
 refine wpAny_pyIter_range (IsRange.new ..) (small_one h1 h2 h3 h4) ?_
 have I1:Inv X pins σ H { s with heap:=s.heap.push { cls:=.type "range",data:=.fields #[.int lo t,.int hi u,.int 1 v] },toks:=tk }:=I.kept fun b o e=>Heap.get?_push_of_some _ e
 refine ⟨(s.heap.push { cls:=.type "range",data:=.fields #[.int lo t,.int hi u,.int 1 v] }).objs.size,[(s.heap.push { cls:=.type "range",data:=.fields #[.int lo t,.int hi u,.int 1 v] }).objs.size],_,_,H,rfl,
  I1.kept (t':=tk) fun b o e=>Heap.get?_push_of_some _ e,Wj _ lo (hi - lo).toNat,?_,fun b hb=>?_,q⟩
 ·have e1:lo + ((0:Nat):Int) * 1=lo:=by simp
  have e2:(((hi - lo).toNat:Nat):Int) - ((0:Nat):Int)=Builtin.Range.rangeSize lo hi 1:=by rw [rangeSize_one];split <;> lia
  show IsRangeIter _ _ (lo + ((0:Nat):Int) * 1) ((((hi - lo).toNat:Nat):Int) - ((0:Nat):Int)) 1
  rw [e1,e2]
  exact Heap.get?_push_size _ rfl
 ·have e:b=(s.heap.push { cls:=.type "range",data:=.fields #[.int lo t,.int hi u,.int 1 v] }).objs.size:=by simpa using hb
  subst e
  exact I1.fpOk (Nat.le_refl _) (I1.hok.fresh (Nat.le_refl _))
def kB (ta:TA):TI:=fun σ H R=>ta σ H fun vs H1=>∃ j:Int,vs=[.int j]∧-(2 ^ 62)≤j∧j < 2 ^ 62∧R (Itr 0 j.toNat) H1
def zbd (ta:TA):TI:=fun σ H R=>ta σ H fun vs H1=>∃ i j:Int,vs=[.int i,.int j]∧(-(2 ^ 62)≤i∧i < 2 ^ 62∧-(2 ^ 62)≤j∧j < 2 ^ 62)∧R (Itr i (j - i).toNat) H1
theorem Yk {a:Expr} {ta:TA} {p pos:Pos} (hg:Gl X "range") (hm:X.mg "range"=none) (ha:PA X [a] ta) (hs:starEach [a] X.env=[(false,eval a X.env)]:=by rfl):PI X tg (.Call (.Name "range" p) [a] [] pos) (kB ta):=by
 intro pins s σ H R I h
 refine Call_ (k9 I hg hm boot_range (PyProof.Rows.callWith_type1 (thn (ha pos pins s σ H _ I h) fun us s1 ⟨vs,H1,I1,r1,q1⟩=>?_) hs rfl))
 obtain ⟨j,e,q1,q2,q⟩:=q1
 subst e
 cases r1 with
 | cons r rr =>
  cases rr
  obtain ⟨t,rfl⟩:=r
  exact call_range_1 (VX I1 (by lia) (by lia) q1 q2 (by simpa using q))
def ww (wi:TI) (g:TG) (tb:TS):TS:=fun D σ H=>wi σ H fun J H1=>∃ W:Nat→Nat→St→Hp→Prop,(∃ m,W 0 m σ H1)∧∀ i m σ H,W i m σ H →
 (J.stop i H∧D.nx σ H)∨(J.go i H∧∃ N:St→Hp→Prop,(∀ σ' H',N σ' H'→∃ m',m' < m∧W (i + 1) m' σ' H')∧∀ x H',J.yld i H x H'→g x σ H' fun σ2 H2=>tb { D with nx:=N,ct:=N,bk:=D.nx } σ2 H2)
def Zm (fp:List Addr) (h:Heap):List (Addr × Obj):=fp.filterMap fun b=>(h.get? b).map fun o=>(b,o)
theorem vK {fp:List Addr} {h:Heap} {b:Addr} {o:Obj} (hb:b∈fp) (e:h.get? b=some o):(b,o)∈Zm fp h:=List.mem_filterMap.mpr ⟨b,hb,by rw [e];rfl⟩
theorem Vo {fp:List Addr} {h:Heap} {p:Addr × Obj} (hp:p∈Zm fp h):p.1∈fp∧h.get? p.1=some p.2:=by
 obtain ⟨b,hb,e⟩:=List.mem_filterMap.mp hp
 cases q:h.get? b with
 | none=>rw [q] at e;cases e
 | some o =>
  rw [q] at e
  have e':(b,o)=p:=Option.some.inj e
  subst e'
  exact ⟨hb,q⟩
theorem Inv.pinned {pins:List (Addr × Obj)} {σ:St} {H:Hp} {s:Shared} {fp:List Addr} (I:Inv X pins σ H s) (hf:∀ b∈fp,j5 X pins H b) (ho:∀ b∈fp,∃ o,s.heap.get? b=some o∧∀ v,o.data≠.cell v):Inv X (pins ++ Zm fp s.heap) σ H s :=
 I.pins_of fun p hp=>(List.mem_append.mp hp).elim (fun z=>I.pin p (List.mem_append_right _ z)) fun z=>by
  obtain ⟨hb,e⟩:=Vo z
  obtain ⟨f0,f1,f2,_⟩:=hf p.1 hb
  obtain ⟨o,e',d⟩:=ho p.1 hb
  rw [e] at e';cases e'
  exact ⟨e,f0,f1,f2,d⟩
theorem Inv.unpinned {pins pl:List (Addr × Obj)} {σ:St} {H:Hp} {s:Shared} (I:Inv X (pins ++ pl) σ H s):Inv X pins σ H s:=I.pins_of fun p hp=>I.pin p (List.mem_append_right _ (List.mem_append_left _ hp))
theorem qa {iter:Expr} {body:List Stmt} {wi:TI} {g:TG} {tb:TS} {pos:Pos} (hp:PassesOwn (model X.prog X.w) X.A X.env X.xe) (hc:X.calm=true) (hi:PI X tg iter wi) (hg:PG X tg g) (hb:PSs X body tb)
  (hs:∀ x,foldedSetIterable iter X.env x=pure x:=by intro _;rfl):PS X (.For tg iter body [] pos) (ww wi g tb):=by
 intro pins s σ H D I h
 refine wpAny_For (thn (hi pins s σ H _ I h) fun v s1 h1=>thn h1 fun itv s2 h2=>?_) hs
 obtain ⟨it,fp,tn,J,H2,e,I2,T,st2,f2,W,⟨m0,w0⟩,turn⟩:=h2
 subst e
 -- what stays true of the iterator's objects through the loop
 have stat:∀ {H':Hp},(∀ b∈fp,H' b=none)→∀ b∈fp,j5 X pins H' b:=fun hn b hb=>⟨hn b hb,(f2 b hb).2⟩
 refine codeAny_forLoop_any (fun n s'=>∃ i σ' H',Inv X pins σ' H' s'∧tn i s'.heap∧(∀ b∈fp,H' b=none)∧W i n σ' H') ?_ m0 ⟨0,σ,H2,I2,st2,fun b hb=>(f2 b hb).1,w0⟩
 rintro n s3 ⟨i,σ3,H3,I3,st3,fr3,w3⟩
 rcases turn i n σ3 H3 w3 with ⟨stop,qn⟩ | ⟨go,N,hN,step⟩
 ·refine wpAny_passesOwn hp (thn (T.done X rfl rfl rfl hc i pins s3 σ3 H3 X.xe I3 (stat fr3) st3 stop) fun r s4 ⟨hr,I4⟩=>?_)
  subst hr
  exact wpAny_execs_nil ⟨σ3,H3,I4,qn⟩
 ·refine wpAny_passesOwn hp (thn (T.item X rfl rfl rfl hc i pins s3 σ3 H3 X.xe I3 (stat fr3) st3 go) fun r s4 ⟨u,hr,h4⟩=>?_)
  subst hr
  refine wpAny_passesOwn hp (thn h4 fun _ s5 ⟨x,H5,I5,r5,y5,st5,fr5⟩=>?_)
  have I5':=I5.pinned (stat fr5) (T.obj _ _ st5)
  refine wpAny_passesOwn hp (thn (hg _ s5 σ3 H5 x u _ I5' r5 (step x H5 y5)) fun _ s6 ⟨σ6,H6,I6,q6⟩=>?_)
  refine wpAny_passesOwn hp (thn (hb _ s6 σ6 H6 _ I6 q6) fun f s7 q7=>?_)
  have again:∀ {σ7:St} {H7:Hp},Inv X (pins ++ Zm fp s5.heap) σ7 H7 s7→N σ7 H7→∃ m,m < n∧∃ i σ' H',Inv X pins σ' H' s7∧tn i s7.heap∧(∀ b∈fp,H' b=none)∧W i m σ' H':=fun {σ7 H7} I7 n7=>by
   obtain ⟨m',hm,w7⟩:=hN σ7 H7 n7
   refine ⟨m',hm,i + 1,σ7,H7,I7.unpinned,T.keep _ _ _ st5 fun b hb o e=>(I7.pin (b,o) (List.mem_append_right _ (List.mem_append_right _ (vK hb e)))).1,fun b hb=>?_,w7⟩
   obtain ⟨o,e,d⟩:=T.obj _ _ st5 b hb
   exact (I7.pin (b,o) (List.mem_append_right _ (List.mem_append_right _ (vK hb e)))).2.1
  cases f with
  | next=>obtain ⟨σ7,H7,I7,n7⟩:=q7;exact again I7 n7
  | cont=>obtain ⟨σ7,H7,I7,n7⟩:=q7;exact again I7 n7
  | brk=>obtain ⟨σ7,H7,I7,q7⟩:=q7;exact ⟨σ7,H7,I7.unpinned,q7⟩
  | ret v=>obtain ⟨x7,σ7,H7,I7,r7,q7⟩:=q7;exact ⟨x7,σ7,H7,I7.unpinned,r7,q7⟩
end
end L2
namespace L2
open PySem PySem.Spec PyProof.Rows
abbrev R2:=V→V→Hp→VK→Prop
def OpR (X:Cx) (f:Value→Value→Sem Value) (r:R2):Prop :=
 ∀ (pins:List (Addr × Obj)) (s:Shared) (σ:St) (H:Hp) (x y:V) (v u:Value) (Q:VK),Inv X pins σ H s→RelV x v→RelV y u→r x y H Q →
  wpAny (model X.prog X.w) X.A (f v u) (EP X pins σ Q) X.xe s
def UnR (X:Cx) (f:Value→Sem Value) (r:V→Hp→VK→Prop):Prop :=
 ∀ (pins:List (Addr × Obj)) (s:Shared) (σ:St) (H:Hp) (x:V) (v:Value) (Q:VK),Inv X pins σ H s→RelV x v→r x H Q →
  wpAny (model X.prog X.w) X.A (f v) (EP X pins σ Q) X.xe s
def qF (X:Cx) (f:Value) (r:List V→Hp→VK→Prop):Prop :=
 ∀ (pins:List (Addr × Obj)) (s:Shared) (σ:St) (H:Hp) (xs:List V) (us:List Value) (Q:VK),Inv X pins σ H s→Vals xs us→r xs H Q →
  wpAny (model X.prog X.w) X.A (call f us) (EP X pins σ Q) X.xe s
def tOp (r:R2) (ta tb:TE):TE:=fun σ H Q=>ta σ H fun x H1=>tb σ H1 fun y H2=>r x y H2 Q
def tUn (r:V→Hp→VK→Prop) (ta:TE):TE:=fun σ H Q=>ta σ H fun x H1=>r x H1 Q
def rI (C:Int→Int→Prop) (g:Int→Int→V):R2:=fun x y H Q=>∃ i j,x=.int i∧y=.int j∧C i j∧Q (g i j) H
def rI0 (g:Int→Int→V):R2:=fun x y H Q=>∃ i j,x=.int i∧y=.int j∧Q (g i j) H
def rU (g:Int→V):V→Hp→VK→Prop:=fun x H Q=>∃ i,x=.int i∧Q (g i) H
section
variable {X:Cx} {a b c:Expr} {ta tb tc:TE} {pos:Pos}
theorem QJ (ha:PE X a ta) (hb:PE X b tb) {pins:List (Addr × Obj)} {s:Shared} {σ:St} {H:Hp} {R:V→V→Hp→Prop} (I:Inv X pins σ H s)
  (h:ta σ H fun x H1=>tb σ H1 fun y H2=>R x y H2) {Q:Value→Shared→Prop} {f:Value→Value→Sem Value}
  (hf:∀ v u s2 x y H2,Inv X pins σ H2 s2→RelV x v→RelV y u→R x y H2→wpAny (model X.prog X.w) X.A (f v u) Q X.xe s2) :
  wpAny (model X.prog X.w) X.A (eval a X.env) (fun v s₁=>wpAny (model X.prog X.w) X.A (eval b X.env) (fun u s₂=>wpAny (model X.prog X.w) X.A (f v u) Q X.xe s₂) X.xe s₁) X.xe s:=by
 refine thn (ha pins s σ H _ I h) fun v s1 ⟨x,H1,I1,r1,q1⟩=>?_
 refine thn (hb pins s1 σ H1 _ I1 q1) fun u s2 ⟨y,H2,I2,r2,q2⟩=>?_
 exact hf v u s2 x y H2 I2 r1 r2 q2
theorem zQ {op:Operator} {r:R2} (ho:OpR X (binaryOp op) r) (ha:PE X a ta) (hb:PE X b tb):PE X (.BinOp a op b pos) (tOp r ta tb):=by
 intro pins s σ H Q I h
 exact wpAny_BinOp (QJ ha hb I h fun v u s2 x y H2 I2 rx ry q=>ho pins s2 σ H2 x y v u Q I2 rx ry q)
theorem ve {op:UnaryOp} {r:V→Hp→VK→Prop} (ho:UnR X (unaryOp op) r) (ha:PE X a ta):PE X (.UnaryOp op a pos) (tUn r ta):=by
 intro pins s σ H Q I h
 exact UnaryOp_ (thn (ha pins s σ H _ I h) fun v s1 ⟨x,H1,I1,r1,q1⟩=>ho pins s1 σ H1 x v Q I1 r1 q1)
theorem opI {f:Value→Value→Sem Value} {C:Int→Int→Prop} {g:Int→Int→Int}
  (rule:∀ (i j:Int) (t u:Tok) (s:Shared) (Q:Value→Shared→Prop) (E:Value→Shared→Prop),C i j→Q (.int (g i j) s.toks) { s with toks:=s.toks + 1 }→wpAny (model X.prog X.w) X.A (f (.int i t) (.int j u)) Q E s) :
  OpR X f (rI C fun i j=>.int (g i j)):=by
 intro pins s σ H x y v u Q I rx ry h
 obtain ⟨i,j,rfl,rfl,hc,q⟩:=h
 obtain ⟨t,rfl⟩:=rx
 obtain ⟨t',rfl⟩:=ry
 exact rule i j t t' s _ _ hc ⟨.int (g i j),H,I.tok _,⟨_,rfl⟩,q⟩
theorem zai {f:Value→Value→Sem Value} {g:Int→Int→Int}
  (rule:∀ (i j:Int) (t u:Tok) (s:Shared) (Q:Value→Shared→Prop) (E:Value→Shared→Prop),Q (.int (g i j) s.toks) { s with toks:=s.toks + 1 }→wpAny (model X.prog X.w) X.A (f (.int i t) (.int j u)) Q E s) :
  OpR X f (rI0 fun i j=>.int (g i j)):=by
 intro pins s σ H x y v u Q I rx ry h
 obtain ⟨i,j,rfl,rfl,q⟩:=h
 obtain ⟨t,rfl⟩:=rx
 obtain ⟨t',rfl⟩:=ry
 exact rule i j t t' s _ _ ⟨.int (g i j),H,I.tok _,⟨_,rfl⟩,q⟩
theorem Ks {f:Value→Value→Sem Value} {g:Int→Int→Bool}
  (rule:∀ (i j:Int) (t u:Tok) (s:Shared) (Q:Value→Shared→Prop) (E:Value→Shared→Prop),Q (.bool (g i j)) s→wpAny (model X.prog X.w) X.A (f (.int i t) (.int j u)) Q E s) :
  OpR X f (rI0 fun i j=>.bl (g i j)):=by
 intro pins s σ H x y v u Q I rx ry h
 obtain ⟨i,j,rfl,rfl,q⟩:=h
 obtain ⟨t,rfl⟩:=rx
 obtain ⟨t',rfl⟩:=ry
 exact rule i j t t' s _ _ ⟨.bl (g i j),H,I,rfl,q⟩
def Wk (i j:Int):Prop:=0≤j∧j≤1000000∧i.natAbs < 2 ^ 64
theorem j6:OpR X (binaryOp .Add) (rI0 fun i j=>.int (i + j)):=zai fun _ _ _ _ _ _ _ q=>add_int q
theorem YR:OpR X (binaryOp .Sub) (rI0 fun i j=>.int (i - j)):=zai fun _ _ _ _ _ _ _ q=>sub_int q
theorem jh:OpR X (binaryOp .Mod) (rI (fun _ j=>0 < j) fun i j=>.int (i % j)):=opI fun i j _ _ _ _ _ hc q=>by
 have h1:(0:Int) < j:=hc
 exact mod_int' (by lia) (by rw [Int.fmod_eq_emod_of_nonneg i (by lia)];exact q)
theorem Zn:OpR X (binaryOp .Pow) (rI Wk fun i j=>.int (i ^ j.toNat)):=opI fun _ _ _ _ _ _ _ hc q=>pow_int_small hc.1 hc.2.1 hc.2.2 q
theorem unI {f:Value→Sem Value} {g:Int→Int}
  (rule:∀ (i:Int) (t:Tok) (s:Shared) (Q:Value→Shared→Prop) (E:Value→Shared→Prop),Q (.int (g i) s.toks) { s with toks:=s.toks + 1 }→wpAny (model X.prog X.w) X.A (f (.int i t)) Q E s) :
  UnR X f (rU fun i=>.int (g i)):=by
 intro pins s σ H x v Q I rx h
 obtain ⟨i,rfl,q⟩:=h
 obtain ⟨t,rfl⟩:=rx
 exact rule i t s _ _ ⟨.int (g i),H,I.tok _,⟨_,rfl⟩,q⟩
theorem xC:UnR X (unaryOp .USub) (rU fun i=>.int (-i)):=unI fun _ _ _ _ _ q=>neg_int q
end
def y0:V→V→Bool
 | .non,.non=>true | .non,.int _=>true | .int _,.non=>true | .non,.bl _=>true | .bl _,.non=>true | .non,.str _=>true | .str _,.non=>true
 | .int _,.int _=>true | .bl _,.bl _=>true | .str _,.str _=>true | .byt _,.byt _=>true
 | .int _,.str _=>true | .str _,.int _=>true | .bl _,.str _=>true | .str _,.bl _=>true
 | _,_=>false
def rEq:R2:=fun x y H Q=>y0 x y=true∧Q (.bl (decide (x=y))) H
def rNe:R2:=fun x y H Q=>y0 x y=true∧Q (.bl (!decide (x=y))) H
theorem WV {i j:Int}:decide (V.int i=V.int j)=(i == j):=by
 rw [Bool.eq_iff_iff]
 simp
theorem VY {i j:Bool}:decide (V.bl i=V.bl j)=(i == j):=by
 rw [Bool.eq_iff_iff]
 simp
theorem WW {i j:Str}:decide (V.str i=V.str j)=(i == j):=by
 rw [Bool.eq_iff_iff]
 simp
theorem WX {i j:Array UInt8}:decide (V.byt i=V.byt j)=(i.toList == j.toList):=by
 rw [Bool.eq_iff_iff]
 cases i
 cases j
 simp
section
variable {X:Cx} {a b c:Expr} {ta tb tc:TE} {pos:Pos}
theorem zT {pins:List (Addr × Obj)} {σ:St} {H:Hp} {s:Shared} {Q:VK} {k k':Bool} (I:Inv X pins σ H s) (q:Q (.bl k) H) (e:k=k'):EP X pins σ Q (.bool k') s:=by
 subst e
 exact ⟨.bl k,H,I,rfl,q⟩
theorem yG:OpR X (compareOp .Eq) rEq:=by
 intro pins s σ H x y v u Q I rx ry h
 obtain ⟨hs,q⟩:=h
 cases x with
 | non =>
  cases rx
  cases y with
  | non=>cases ry;exact PySem.EqNone.eq_none_none (zT I q (by simp))
  | bl j=>cases ry;exact PySem.EqNone.eq_none_bool (zT I q (by simp))
  | int j=>obtain ⟨t',rfl⟩:=ry;exact PySem.EqNone.eq_none_int (zT I q (by simp))
  | str j=>obtain ⟨t',rfl⟩:=ry;exact PySem.EqNone.eq_none_str (zT I q (by simp))
  | _=>exact absurd (show false=true from hs) Bool.false_ne_true
 | bl i =>
  cases rx
  cases y with
  | non=>cases ry;exact PySem.EqNone.eq_bool_none (zT I q (by simp))
  | bl j=>cases ry;exact eq_bool (zT I q VY)
  | str j=>obtain ⟨t',rfl⟩:=ry;exact PySem.EqMixed.eq_bool_str (zT I q (by simp))
  | _=>exact absurd (show false=true from hs) Bool.false_ne_true
 | int i =>
  obtain ⟨t,rfl⟩:=rx
  cases y with
  | non=>cases ry;exact PySem.EqNone.eq_int_none (zT I q (by simp))
  | int j=>obtain ⟨t',rfl⟩:=ry;exact eq_int (zT I q WV)
  | str j=>obtain ⟨t',rfl⟩:=ry;exact PySem.EqMixed.eq_int_str (zT I q (by simp))
  | _=>exact absurd (show false=true from hs) Bool.false_ne_true
 | str i =>
  obtain ⟨t,rfl⟩:=rx
  cases y with
  | non=>cases ry;exact PySem.EqNone.eq_str_none (zT I q (by simp))
  | bl j=>cases ry;exact PySem.EqMixed.eq_str_bool (zT I q (by simp))
  | int j=>obtain ⟨t',rfl⟩:=ry;exact PySem.EqMixed.eq_str_int (zT I q (by simp))
  | str j=>obtain ⟨t',rfl⟩:=ry;exact eq_str (zT I q WW)
  | _=>exact absurd (show false=true from hs) Bool.false_ne_true
 | byt i =>
  obtain ⟨t,rfl⟩:=rx
  cases y with
  | byt j=>obtain ⟨t',rfl⟩:=ry;exact PySem.W.eq_bytes (zT I q WX)
  | _=>exact absurd (show false=true from hs) Bool.false_ne_true
 | _=>cases y <;> exact absurd (show false=true from hs) Bool.false_ne_true
theorem Yl:OpR X (compareOp .NotEq) rNe:=by
 intro pins s σ H x y v u Q I rx ry h
 obtain ⟨hs,q⟩:=h
 cases x with
 | non =>
  cases rx
  cases y with
  | non=>cases ry;exact PySem.EqNone.ne_none_none (zT I q (by simp))
  | bl j=>cases ry;exact PySem.EqNone.ne_none_bool (zT I q (by simp))
  | int j=>obtain ⟨t',rfl⟩:=ry;exact PySem.EqNone.ne_none_int (zT I q (by simp))
  | str j=>obtain ⟨t',rfl⟩:=ry;exact PySem.EqNone.ne_none_str (zT I q (by simp))
  | _=>exact absurd (show false=true from hs) Bool.false_ne_true
 | bl i =>
  cases rx
  cases y with
  | non=>cases ry;exact PySem.EqNone.ne_bool_none (zT I q (by simp))
  | bl j=>cases ry;exact ne_bool (zT I q (congrArg not VY))
  | str j=>obtain ⟨t',rfl⟩:=ry;exact PySem.EqMixed.ne_bool_str (zT I q (by simp))
  | _=>exact absurd (show false=true from hs) Bool.false_ne_true
 | int i =>
  obtain ⟨t,rfl⟩:=rx
  cases y with
  | non=>cases ry;exact PySem.EqNone.ne_int_none (zT I q (by simp))
  | int j=>obtain ⟨t',rfl⟩:=ry;exact ne_int (zT I q (congrArg not WV))
  | str j=>obtain ⟨t',rfl⟩:=ry;exact PySem.EqMixed.ne_int_str (zT I q (by simp))
  | _=>exact absurd (show false=true from hs) Bool.false_ne_true
 | str i =>
  obtain ⟨t,rfl⟩:=rx
  cases y with
  | non=>cases ry;exact PySem.EqNone.ne_str_none (zT I q (by simp))
  | bl j=>cases ry;exact PySem.EqMixed.ne_str_bool (zT I q (by simp))
  | int j=>obtain ⟨t',rfl⟩:=ry;exact PySem.EqMixed.ne_str_int (zT I q (by simp))
  | str j=>obtain ⟨t',rfl⟩:=ry;exact ne_str (zT I q (congrArg not WW))
  | _=>exact absurd (show false=true from hs) Bool.false_ne_true
 | byt i =>
  obtain ⟨t,rfl⟩:=rx
  cases y with
  | byt j=>obtain ⟨t',rfl⟩:=ry;exact PySem.W.ne_bytes (zT I q (congrArg not WX))
  | _=>exact absurd (show false=true from hs) Bool.false_ne_true
 | _=>cases y <;> exact absurd (show false=true from hs) Bool.false_ne_true
theorem Xs:OpR X (compareOp .Lt) (rI0 fun i j=>.bl (decide (i < j))):=Ks fun _ _ _ _ _ _ _ q=>lt_int q
theorem Qq:OpR X (compareOp .LtE) (rI0 fun i j=>.bl (decide (i≤j))):=Ks fun _ _ _ _ _ _ _ q=>le_int q
theorem Xt:OpR X (compareOp .Gt) (rI0 fun i j=>.bl (decide (j < i))):=Ks fun _ _ _ _ _ _ _ q=>gt_int q
theorem Qr:OpR X (compareOp .GtE) (rI0 fun i j=>.bl (decide (j≤i))):=Ks fun _ _ _ _ _ _ _ q=>ge_int q
theorem Ym:OpR X (compareOp .In) (fun x y H Q=>∃ i j,x=.str i∧y=.str j∧Q (.bl (!(Builtin.Str.occurrences j i 0 j.length 1).isEmpty)) H):=by
 intro pins s σ H x y v u Q I rx ry h
 obtain ⟨i,j,rfl,rfl,q⟩:=h
 obtain ⟨t,rfl⟩:=rx
 obtain ⟨t',rfl⟩:=ry
 exact in_str (zT I q rfl)
theorem VZ:OpR X (compareOp .Is) (fun x y H Q=>y=.non∧Q (.bl (decide (x=.non))) H):=by
 intro pins s σ H x y v u Q I rx ry h
 obtain ⟨rfl,q⟩:=h
 cases ry
 refine is_none_gen (zT I q ?_)
 cases x <;> first
  | (cases rx;rfl)
  | (obtain ⟨t,rfl⟩:=rx;rfl)
theorem zu (b:Expr) {op:CmpOp} (h:op≠.In:=by decide) (h2:op≠.NotIn:=by decide):behindInMarks op b=false:=by
 have e1:(op == CmpOp.In)=false:=by cases op <;> first | rfl | exact absurd rfl h
 have e2:(op == CmpOp.NotIn)=false:=by cases op <;> first | rfl | exact absurd rfl h2
 cases b <;> simp [behindInMarks,e1,e2]
theorem wH {op:CmpOp} {r:R2} (ho:OpR X (compareOp op) r) (ha:PE X a ta) (hb:PE X b tb) (hm:behindInMarks op b=false):PE X (.Compare a [op] [b] pos) (tOp r ta tb):=by
 intro pins s σ H Q I h
 exact wpAny_Compare1 (QJ ha hb I h fun v u s2 x y H2 I2 rx ry q=>ho pins s2 σ H2 x y v u Q I2 rx ry q) hm
def zo (t:TE):TT:=fun σ H Q=>t σ H fun x H'=>∃ k,x=.bl k∧Q k H'
theorem zp {op:CmpOp} {r:R2} (ho:OpR X (compareOp op) r) (ha:PE X a ta) (hb:PE X b tb) (hm:behindInMarks op b=false):PT X (.Compare a [op] [b] pos) (zo (tOp r ta tb)):=by
 intro pins s σ H Q I h
 refine wpAny_isTrue_Compare1 (thn (ha pins s σ H _ I h) fun v s1 ⟨x,H1,I1,r1,q1⟩=>thn (hb pins s1 σ H1 _ I1 q1) fun u s2 ⟨y,H2,I2,r2,q2⟩ =>
  thn (ho pins s2 σ H2 x y v u _ I2 r1 r2 q2) fun c s3 ⟨z,H3,I3,r3,k,e,q3⟩=>?_) hm
 subst e
 cases r3
 exact wpAny_truthy_bool ⟨H3,I3,q3⟩
def Wl (r r':R2) (ta tb tc:TE):TE:=fun σ H Q=>ta σ H fun x H1=>tb σ H1 fun y H2=>r x y H2 fun z H3=>∃ k,z=.bl k ∧
 (if k=true then tc σ H3 fun w' H4=>r' y w' H4 Q else Q (.bl false) H3)
theorem V0 {op op':CmpOp} {r r':R2} (ho:OpR X (compareOp op) r) (ho':OpR X (compareOp op') r') (ha:PE X a ta) (hb:PE X b tb) (hc:PE X c tc)
  (hm:lastMarks [op,op'] [b,c]=false:=by with_unfolding_all rfl):PE X (.Compare a [op,op'] [b,c] pos) (Wl r r' ta tb tc):=by
 intro pins s σ H Q I h
 refine Compare_chain (thn (ha pins s σ H _ I h) fun v s1 ⟨x,H1,I1,r1,q1⟩=>chain_link (thn (hb pins s1 σ H1 _ I1 q1) fun u s2 ⟨y,H2,I2,r2,q2⟩ =>
  thn (ho pins s2 σ H2 x y v u _ I2 r1 r2 q2) fun d s3 ⟨z,H3,I3,r3,k,e,q3⟩=>?_)) hm
 subst e
 cases r3
 refine wpAny_truthy_bool ?_
 cases k with
 | false=>exact ite_ff ⟨.bl false,H3,I3,rfl,q3⟩
 | true=>exact ite_tt (chain_last (thn (hc pins s3 σ H3 _ I3 q3) fun w' s4 ⟨z',H4,I4,r4,q4⟩=>ho' pins s4 σ H4 y z' u w' Q I4 r2 r4 q4))
theorem Wm:(sizeLine:Nat) < 2 ^ 63:=by rw [sizeLine_eq];decide
theorem Zo:OpR X (binaryOp .Add) (fun x y H Q=>∃ i j,x=.str i∧y=.str j∧i.length + j.length≤sizeLine∧Q (.str (i ++ j)) H):=by
 intro pins s σ H x y v u Q I rx ry h
 obtain ⟨i,j,rfl,rfl,hz,q⟩:=h
 obtain ⟨t,rfl⟩:=rx
 obtain ⟨t',rfl⟩:=ry
 exact add_str (fun t' tk=>⟨.str (i ++ j),H,I.tok _,⟨_,rfl⟩,q⟩) hz
theorem qG {x:V} {us:List Value} (r:Vals [x] us):∃ u,us=[u]∧RelV x u:=by
 cases r with
 | cons r1 r2=>cases r2;exact ⟨_,rfl,r1⟩
theorem Qs {x y:V} {us:List Value} (r:Vals [x,y] us):∃ u w',us=[u,w']∧RelV x u∧RelV y w':=by
 cases r with
 | cons r1 r2 =>
  cases r2 with
  | cons r3 r4=>cases r4;exact ⟨_,_,rfl,r1,r3⟩
theorem Vp (hc:X.calm=true):qF X (.builtin "max") (fun xs H Q=>∃ i j,xs=[.int i,.int j]∧Q (.int (if j > i then j else i)) H):=by
 intro pins s σ H xs us Q I r h
 obtain ⟨i,j,rfl,q⟩:=h
 obtain ⟨u,w',rfl,⟨t,rfl⟩,⟨t',rfl⟩⟩:=Qs r
 refine max_two_ints (I.ok.hd hc) fun h' tk k=>⟨_,H,I.kept k,?_,q⟩
 by_cases hj:j > i
 ·rw [if_pos hj,if_pos hj];exact ⟨_,rfl⟩
 ·rw [if_neg hj,if_neg hj];exact ⟨_,rfl⟩
theorem kC:qF X (.type "str") (fun xs H Q=>∃ i,xs=[.int i]∧i.natAbs.log2 < 1920∧Q (.str (toString i)) H):=by
 intro pins s σ H xs us Q I r h
 obtain ⟨i,rfl,hz,q⟩:=h
 obtain ⟨u,rfl,t,rfl⟩:=qG r
 exact PySem.P.str_of_int hz ⟨.str _,H,I.tok _,⟨_,rfl⟩,q⟩
def xQ (K:PySem.W.Frag) (x:V) (H:Hp) (n:Nat):Prop :=
 match x with
 | .str y=>y.length≤sizeLine∧n=y.length
 | .byt y=>y.size≤sizeLine∧n=y.size
 | .ref p=>(∃ xs,SqL K H p xs∧n=xs.length)∨∃ xs,SqT K H p xs∧n=xs.length
 | _=>False
theorem z0:qF X (.builtin "len") (fun xs H Q=>∃ x n,xs=[x]∧xQ X.K x H n∧Q (.int n) H):=by
 intro pins s σ H xs us Q I r h
 obtain ⟨x,n,rfl,e,q⟩:=h
 obtain ⟨u,rfl,rx⟩:=qG r
 have hl:=Wm
 have hs:sizeLine=16777216:=sizeLine_eq
 cases x with
 | str y =>
  obtain ⟨t,rfl⟩:=rx
  obtain ⟨hy,e'⟩:y.length≤sizeLine∧n=y.length:=e
  subst e'
  exact len_str (by lia) ⟨.int _,H,I.tok _,⟨_,rfl⟩,q⟩
 | byt y =>
  obtain ⟨t,rfl⟩:=rx
  obtain ⟨hy,e'⟩:y.size≤sizeLine∧n=y.size:=e
  subst e'
  exact PySem.W.len_bytes (by lia) ⟨.int _,H,I.tok _,⟨_,rfl⟩,q⟩
 | ref p =>
  cases rx
  have e':(∃ xs,SqL X.K H p xs∧n=xs.length)∨∃ xs,SqT X.K H p xs∧n=xs.length:=e
  rcases e' with ⟨xs,hx,e'⟩ | ⟨xs,hx,e'⟩
  ·subst e'
   obtain ⟨its,r',pl,hz⟩:=I.list hx
   have hlen:=r'.length
   exact Calls.call_len_list pl.isList (by simp only [List.size_toArray];lia) ⟨.int xs.length,H,I.tok _,⟨_,by simp only [List.size_toArray];rw [hlen]⟩,q⟩
  ·subst e'
   obtain ⟨its,r',pl,hz⟩:=I.tuple hx
   have hlen:=r'.length
   exact len_tuple pl (by simp only [List.size_toArray];lia) ⟨.int xs.length,H,I.tok _,⟨_,by simp only [List.size_toArray];rw [hlen]⟩,q⟩
 | _=>exact (show False from e).elim
end
end L2
namespace L2
open PySem PySem.Spec PyProof.Rows
structure ObjM (h:Heap) (x dx C:Addr) (mA:Str→Option Value):Prop where
 obj:h.get? x=some (PySem.W.instObj C dx)
 ns:h.Ns1 dx mA
 ne:dx≠x
theorem Yn {h:Heap} {dx:Addr} {mA:Str→Option Value} (n:h.Ns1 dx mA):∃ od,h.get? dx=some od∧∀ name,PySem.W.lookIn name od=some (mA name):=by
 obtain ⟨o,es,ep,ho,hd,hk,_,hm⟩:=n
 refine ⟨o,ho,fun name=>?_⟩
 have e:=hm name
 unfold nsFind findBy at e
 rw [← Array.find?_toList] at e
 unfold PySem.W.lookIn
 rw [hd]
 dsimp only
 split
 ·rename_i y q
  rw [q] at e
  exact congrArg some e
 ·rename_i q
  rw [q] at e
  have a:es.toList.any (·.refKey)=false:=by
   rw [List.any_eq_false]
   intro y hy
   obtain ⟨z,t,hkey⟩:=hk y (Array.mem_toList_iff.mp hy)
   simp [DictEntry.refKey,hkey]
  have a':¬ es.toList.any (·.refKey)=true:=by rw [a];exact Bool.false_ne_true
  rw [if_neg a']
  exact congrArg some e
theorem ObjM.look {h:Heap} {x dx C:Addr} {mA:Str→Option Value} (I:ObjM h x dx C mA):∃ od,PySem.W.InstAt h x (PySem.W.instObj C dx) C (some od)∧∀ name,PySem.W.lookIn name od=some (mA name) :=
 let ⟨od,ho,hl⟩:=Yn I.ns
 ⟨od,⟨I.obj,rfl,rfl,ho⟩,hl⟩
section
variable {prog:Program} {w:World} {A:Around} {E:Value→Shared→Prop} {s:Shared} {K:PySem.W.Frag} {x dx C f:Addr} {mA:Str→Option Value} {name:Str} {v:Value}
theorem Kt {expr:Bool} {Q:Value→Shared→Prop} (X:K.In s.heap) (I:ObjM s.heap x dx C mA) (hg:PySem.W.plainGet K C name=true) (hh:PySem.W.hasDictIn K C=true)
  (ha:PySem.W.findIn K (.ref C) name=some none) (hv:mA name=some v) (hv':PySem.W.handedIn v=true) (h:Q v { s with toks:=s.toks + 1 }) :
  wpAny (model prog w) A (getAttr (.ref x) name expr) Q E s:=by
 obtain ⟨od,J,hl⟩:=I.look
 exact PySem.W.get_value X J (PySem.W.plainGet_of hg).1 (PySem.W.findObj_own hh ha rfl (by rw [hl,hv])) hv' h
theorem V1 {pl:Sem Bool} {Q:Value × List Value→Shared→Prop} (X:K.In s.heap) (I:ObjM s.heap x dx C mA) (hg:PySem.W.plainGet K C name=true)
  (hf:PySem.W.findIn K (.ref C) name=some (some (.ref f))) (ht:PySem.W.isFn K (.ref f)=true) (hv:mA name=none) (h:Q (.ref f,[.ref x]) s) :
  wpAny (model prog w) A (getMethod (.ref x) name pl) Q E s:=by
 obtain ⟨od,J,hl⟩:=I.look
 exact PySem.W.method_fn X J (PySem.W.plainGet_of hg).1 (PySem.W.plainGet_of hg).2 hf (beq_iff_eq.mp ht) (by show (PySem.W.lookIn name od).map (·.isSome)=some false;rw [hl,hv];rfl) h
theorem Ku {ns:List Str} {Q:Unit→Shared→Prop} (X:K.In s.heap) (I:ObjM s.heap x dx C mA)
  (hs:PySem.W.findIn K (.ref C) "__setattr__"=some (some (.builtin "object.__setattr__"))) (hp:PySem.W.plainOver K C=true) (ht:PySem.W.takerIn K C name=some none) (hh:PySem.W.hasDictIn K C=true)
  (hw:PySem.Within mA ns) (hsz:ns.length≤sizeLine)
  (h:∀ h',ObjM h' x dx C (fun y=>if y=name then some v else mA y)→Heap.SameBut dx s.heap h'→Q () { s with heap:=h',toks:=s.toks + 2 }) :
  wpAny (model prog w) A (setAttr (.ref x) name v) Q E s:=by
 obtain ⟨od,J,hl⟩:=I.look
 refine PySem.W.set_plain X J hs (PySem.W.osa_open (s:={ s with toks:=s.toks + 1 }) (r:=none) X J hp ht fun b=>?_)
 obtain ⟨cd,hc,hd'⟩:=PySem.W.any_some hh
 have hx:s.heap.get? x=some ⟨.ref C,some dx,.plain,#[]⟩:=I.obj
 refine wpAny_bind (wpAny_pure (wpAny_bind (wpAny_bind (wpAny_loadPart hx (wpAny_bind (PySem.W.Looks.here (s:={ s with toks:=s.toks + 1 }) (PySem.W.looks_clsIn X hc) ?_))))))
 rw [hd']
 refine wpAny_pure (a:=some dx) (wpAny_bind (wpAny_pure (wpAny_bind ?_)))
 refine wpAny_nsSet1 (s:={ s with toks:=s.toks + 1 }) I.ns fun h' hn2 hs2=>?_
 obtain ⟨oD,esD,epD,hoD,hdD,hcD⟩:=hn2.count (PySem.Within.cons name v hw)
 refine wpAny_bind (wpAny_lookBehind hoD (by rw [hdD];exact pastItsLine_dict (Nat.le_trans hcD (by rw [List.length_cons];lia))) ?_)
 exact wpAny_pure (h _ ⟨(hs2.2 _ (Ne.symm I.ne)).trans I.obj,hn2,I.ne⟩ hs2)
theorem V2 {R:Result→Shared→Prop} {vs:List Value} {kw:List (Str × Value)} (X:K.In s.heap) (hm:PySem.W.makesIn K C=true)
  (hi:PySem.W.findIn K (.ref C) "__init__"=some (some (.ref f))) (hf:PySem.W.typeIn K (.ref f)=some (.type "function"))
  (h:codeAny (model prog w) (A.under (.builtin "type.__call__" ⟨.ref C :: vs,kw⟩)) (.call (.ref f) ⟨.ref (s.heap.objs.size + 1) :: vs,kw⟩) (PySem.W.InitBack (s.heap.objs.size + 1) R)
   { s with heap:=(s.heap.push PySem.W.emptyDict).push (PySem.W.instObj C s.heap.objs.size) }) :
  codeAny (model prog w) A (.call (.ref C) ⟨vs,kw⟩) R s:=by
 obtain ⟨hh,g,d,t,os⟩:=s
 exact PySem.W.make_core (PySem.W.makes_of X hm) (PySem.W.looks_findIn X hi) (fun self=>PySem.W.bind_fn X self hf) (.inl rfl) h
end
def yH (f:Str) (v:V):List (Str × V)→List (Str × V)
 | []=>[(f,v)]
 | (g,x) :: r=>if g=f then (g,v) :: r else (g,x) :: yH f v r
theorem qH (f g:Str) (v:V):∀ fs:List (Str × V),(yH f v fs).lookup g=if g=f then some v else fs.lookup g
 | []=>by
  show List.lookup g [(f,v)]=_
  by_cases h:g=f
  ·have hb:(g == f)=true:=beq_iff_eq.mpr h
   simp only [List.lookup,hb,if_pos h]
  ·have hb:(g == f)=false:=beq_eq_false_iff_ne.mpr h
   simp only [List.lookup,hb,if_neg h]
 | (k,x) :: r=>by
  have ih:=qH f g v r
  rw [show yH f v ((k,x) :: r)=(if k=f then (k,v) :: r else (k,x) :: yH f v r) from rfl]
  by_cases hk:k=f
  ·rw [if_pos hk]
   by_cases h:g=k
   ·have hb:(g == k)=true:=beq_iff_eq.mpr h
    simp only [List.lookup,hb,if_pos (h.trans hk)]
   ·have hb:(g == k)=false:=beq_eq_false_iff_ne.mpr h
    simp only [List.lookup,hb,if_neg (fun e:g=f=>h (e.trans hk.symm))]
  ·rw [if_neg hk]
   by_cases h:g=k
   ·have hb:(g == k)=true:=beq_iff_eq.mpr h
    simp only [List.lookup,hb,if_neg (fun e:g=f=>hk (h.symm.trans e))]
   ·have hb:(g == k)=false:=beq_eq_false_iff_ne.mpr h
    simp only [List.lookup,hb]
    exact ih
theorem qb (f:Str) (v:V):∀ fs:List (Str × V),f∈(yH f v fs).map (·.1)∧∀ g,g∈fs.map (·.1)→g∈(yH f v fs).map (·.1)
 | []=>⟨by simp [yH],fun g h=>by simp at h⟩
 | (k,x) :: r=>by
  obtain ⟨i1,i2⟩:=qb f v r
  rw [show yH f v ((k,x) :: r)=(if k=f then (k,v) :: r else (k,x) :: yH f v r) from rfl]
  by_cases hk:k=f
  ·rw [if_pos hk]
   subst hk
   exact ⟨by simp,fun g h=>by simpa using h⟩
  ·rw [if_neg hk]
   refine ⟨?_,fun g h=>?_⟩
   ·rw [List.map_cons]
    exact List.mem_cons_of_mem _ i1
   ·rw [List.map_cons] at h ⊢
    rcases List.mem_cons.mp h with e | e
    ·exact List.mem_cons.mpr (.inl e)
    ·exact List.mem_cons_of_mem _ (i2 g e)
theorem qI (f:Str) (v:V):∀ fs:List (Str × V),(yH f v fs).length≤fs.length + 1
 | []=>by simp [yH]
 | (k,x) :: r=>by
  have ih:=qI f v r
  rw [show yH f v ((k,x) :: r)=(if k=f then (k,v) :: r else (k,x) :: yH f v r) from rfl]
  by_cases hk:k=f
  ·rw [if_pos hk,List.length_cons,List.length_cons];lia
  ·rw [if_neg hk,List.length_cons,List.length_cons];lia
theorem RelO.some_of {v:V} {o:Option Value} (r:RelO (some v) o):∃ u,o=some u∧RelV v u:=by
 cases o with
 | none=>exact (show False from r).elim
 | some u=>exact ⟨u,rfl,r⟩
theorem RelO.none_of {o:Option Value} (r:RelO none o):o=none:=by
 cases o with
 | none=>rfl
 | some u=>exact (show False from r).elim
theorem Yo {v:V} {u:Value} (r:RelV v u):PySem.W.handedIn u=true:=by
 cases v with
 | non=>cases (show u=Value.none from r);rfl
 | bl b=>cases (show u=Value.bool b from r);rfl
 | int i=>obtain ⟨t,e⟩:=(show ∃ t,u=Value.int i t from r);cases e;rfl
 | str x=>obtain ⟨t,e⟩:=(show ∃ t,u=Value.str x t from r);cases e;rfl
 | byt b=>obtain ⟨t,e⟩:=(show ∃ t,u=Value.bytes b t from r);cases e;rfl
 | flt b=>obtain ⟨t,e⟩:=(show ∃ t,u=Value.float b t from r);cases e;rfl
 | ref a=>cases (show u=Value.ref a from r);rfl
 | ty n=>cases (show u=Value.type n from r);rfl
section
variable {P:Program} {w:World} {H H':Hp} {h h':Heap} {a C dx:Addr} {fs fs':List (Str × V)}
theorem Za (hok:HOk P w H h) (e:H a=some (.ins C dx fs)):∃ mA,ObjM h a dx C mA∧(∀ f,RelO (fs.lookup f) (mA f))∧PySem.Within mA (fs.map (·.1))∧fs.length≤1000∧H dx=some (.own a):=by
 obtain ⟨d,z,ne,ob,mA,n,r,q⟩:=(show ObjOk P w H h a (.ins C dx fs) from hok a _ e)
 exact ⟨mA,⟨ob,n,ne⟩,r,q,z,d⟩
end
structure Cls (K:PySem.W.Frag) (C:Addr):Prop where
 pg:PySem.W.plainGet K C Str.empty=true
 hd:PySem.W.hasDictIn K C=true
 po:PySem.W.plainOver K C=true
 sa:PySem.W.findIn K (.ref C) "__setattr__"=some (some (.builtin "object.__setattr__"))
theorem Cls.get {K:PySem.W.Frag} {C:Addr} (c:Cls K C) (f:Str):PySem.W.plainGet K C f=true:=c.pg
def NoAttr (K:PySem.W.Frag) (C:Addr) (f:Str):Prop:=PySem.W.findIn K (.ref C) f=some none
theorem NoAttr.taker {K:PySem.W.Frag} {C:Addr} {f:Str} (n:NoAttr K C f):PySem.W.takerIn K C f=some none:=by
 unfold PySem.W.takerIn
 rw [show PySem.W.findIn K (.ref C) f=some none from n]
 rfl
structure qc (K:PySem.W.Frag) (C:Addr) (m:Str) (f:Addr):Prop where
 at_:PySem.W.findIn K (.ref C) m=some (some (.ref f))
 fn:PySem.W.isFn K (.ref f)=true
 kp:PySem.W.keepIn K (.ref f)=true
section
variable {X:Cx} {pins:List (Addr × Obj)} {σ:St} {H:Hp} {s:Shared} {a C dx:Addr} {fs:List (Str × V)} {f:Str} {v:V} {A:Around} {E:Value→Shared→Prop}
theorem Zp {b:Bool} {Q:Value→Shared→Prop} (I:Inv X pins σ H s) (e:H a=some (.ins C dx fs)) (c:Cls X.K C) (n:NoAttr X.K C f) (l:fs.lookup f=some v)
  (h:∀ u s',Inv X pins σ H s'→RelV v u→Q u s'):wpAny (model X.prog X.w) A (getAttr (.ref a) f b) Q E s:=by
 obtain ⟨mA,O,r,_,_,_⟩:=Za I.hok e
 obtain ⟨u,hu,ru⟩:=RelO.some_of (v:=v) (o:=mA f) (by rw [← l];exact r f)
 exact Kt I.kIn O (c.get f) c.hd n hu (Yo ru) (h u _ (I.tok _) ru)
theorem Zq {m:Str} {g:Addr} {pl:Sem Bool} {Q:Value × List Value→Shared→Prop} (I:Inv X pins σ H s) (e:H a=some (.ins C dx fs)) (c:Cls X.K C) (k:qc X.K C m g) (l:fs.lookup m=none)
  (h:Q (.ref g,[.ref a]) s):wpAny (model X.prog X.w) A (getMethod (.ref a) m pl) Q E s:=by
 obtain ⟨mA,O,r,_,_,_⟩:=Za I.hok e
 have hn:mA m=none:=RelO.none_of (by rw [← l];exact r m)
 exact V1 I.kIn O (c.get m) k.at_ k.fn hn h
theorem Zr {y:V} {u:Value} {Q:Unit→Shared→Prop} (I:Inv X pins σ H s) (e:H a=some (.ins C dx fs)) (c:Cls X.K C) (n:NoAttr X.K C f) (hl:fs.length < 1000) (ry:RelV y u)
  (h:∀ s',Inv X pins σ (upd H a (.ins C dx (yH f y fs))) s'→Q () s'):wpAny (model X.prog X.w) A (setAttr (.ref a) f u) Q E s:=by
 obtain ⟨mA,O,r,wi,_,ho⟩:=Za I.hok e
 have hz:(fs.map (·.1)).length≤sizeLine:=by rw [List.length_map,sizeLine_eq];lia
 refine Ku I.kIn O c.sa c.po n.taker c.hd wi hz fun h' O' sb=>h _ ?_
 have hd:∃ o,h'.get? dx=some o:=let ⟨o,_,_,e',_⟩:=O'.ns;⟨o,e'⟩
 refine I.write (x:=a) (e:=dx) (by rw [e];exact True.intro) (.inr ho) (fun b q hb z=>(sb.2 b hb).trans z) hd ?_
 refine ⟨by rw [zk O.ne];exact ho,?_,O.ne,O'.obj,_,O'.ns,fun g=>?_,fun g hg=>?_⟩
 ·have:=qI f y fs;lia
 ·show RelO ((yH f y fs).lookup g) (if g=f then some u else mA g)
  rw [qH]
  by_cases q:g=f
  ·rw [if_pos q,if_pos q];exact ry
  ·rw [if_neg q,if_neg q];exact r g
 ·by_cases q:g=f
  ·rw [q];exact (qb f y fs).1
  ·refine (qb f y fs).2 g (wi g fun z=>hg ?_)
   show (if g=f then some u else mA g)=none
   rw [if_neg q];exact z
theorem Inv.made (I:Inv X pins σ H s):Inv X pins σ (upd (upd H s.heap.objs.size (.own (s.heap.objs.size + 1))) (s.heap.objs.size + 1) (.ins C s.heap.objs.size []))
  { s with heap:=(s.heap.push PySem.W.emptyDict).push (PySem.W.instObj C s.heap.objs.size) }:=by
 have e1:(s.heap.push PySem.W.emptyDict).get? s.heap.objs.size=some PySem.W.emptyDict:=Heap.get?_push_size s.heap rfl
 have e2:((s.heap.push PySem.W.emptyDict).push (PySem.W.instObj C s.heap.objs.size)).get? (s.heap.objs.size + 1)=some (PySem.W.instObj C s.heap.objs.size):=by
  have:=Heap.get?_push_size (s.heap.push PySem.W.emptyDict) (o:=PySem.W.instObj C s.heap.objs.size) rfl
  rwa [Heap.size_push] at this
 have e3:(s.heap.push PySem.W.emptyDict).Ns s.heap.objs.size (fun _=>none):=⟨PySem.W.emptyDict,#[],_,e1,rfl,(fun e he=>absurd he (by simp)),fun _=>rfl⟩
 have I1:=I.laid (a:=s.heap.objs.size) (o:=.own (s.heap.objs.size + 1)) (h':=s.heap.push PySem.W.emptyDict) (t':=s.toks) (fun b u q=>Heap.get?_push_of_some _ q) (Nat.le_refl _) ⟨_,e1⟩
 refine I1.laid (a:=s.heap.objs.size + 1) (o:=.ins C s.heap.objs.size []) (t':=s.toks) (fun b u q=>Heap.get?_push_of_some _ q) (Nat.le_of_eq (Heap.size_push _ _)) ?_
 have ne:s.heap.objs.size≠s.heap.objs.size + 1:=Nat.ne_of_lt (Nat.lt_succ_self _)
 refine ⟨by rw [zk ne,zc],Nat.zero_le _,ne,e2,fun _=>none,(Heap.Ns1.of_empty e3).at fun o q=>Heap.get?_push_of_some _ q,fun _=>True.intro,fun y hy=>absurd rfl hy⟩
theorem WY {prog:Program} {w:World} {env:Env} {e:Expr} {f:Str} {pos:Pos} {s:Shared} {Q:Value→Shared→Prop} (hb:attributeBase e f env (eval e env)=eval e env)
  (h:wpAny (model prog w) A (eval e env) (fun o s₁=>wpAny (model prog w) A (getAttr o f true) Q E s₁) E s):wpAny (model prog w) A (eval (.Attribute e f pos) env) Q E s :=
 Attribute_any_ h (by rw [arm_eval_Attribute,hb])
end
def yU (K:PySem.W.Frag) (ta:TE) (f:Str):TE:=fun σ H Q=>ta σ H fun x H1=>∃ a C dx fs v,x=.ref a∧H1 a=some (.ins C dx fs)∧Cls K C∧NoAttr K C f∧fs.lookup f=some v∧Q v H1
def qS (K:PySem.W.Frag) (ta tv:TE) (f:Str):TS:=fun D σ H=>tv σ H fun y H1=>ta σ H1 fun x H2=>∃ a C dx fs,x=.ref a∧H2 a=some (.ins C dx fs)∧Cls K C∧NoAttr K C f∧fs.length < 1000 ∧
 D.nx σ (upd H2 a (.ins C dx (yH f y fs)))
def zaj (X:Cx) (op:Operator) (rd:V→V→Hp→VK→Prop):Prop :=
 ∀ (pins:List (Addr × Obj)) (s:Shared) (σ:St) (H:Hp) (x y:V) (u v:Value) (Q:VK),Inv X pins σ H s→RelV x u→RelV y v→rd x y H Q→wpAny (model X.prog X.w) X.A (inplaceOp op u v) (EP X pins σ Q) X.xe s
def Zb (K:PySem.W.Frag) (ta tv:TE) (rd:V→V→Hp→VK→Prop) (f:Str):TS:=fun D σ H=>ta σ H fun x H1=>∃ a C dx fs v,x=.ref a∧H1 a=some (.ins C dx fs)∧Cls K C∧NoAttr K C f∧fs.lookup f=some v ∧
 tv σ H1 fun y H2=>rd v y H2 fun z H3=>∃ dx' fs',H3 a=some (.ins C dx' fs')∧fs'.length < 1000∧D.nx σ (upd H3 a (.ins C dx' (yH f z fs')))
section
variable {X:Cx} {o e value:Expr} {f:Str} {pos pos' tpos:Pos} {ta tv:TE}
theorem yl (he:PE X e ta) (hb:attributeBase e f X.env (eval e X.env)=eval e X.env):PE X (.Attribute e f pos) (yU X.K ta f):=by
 intro pins s σ H Q I h
 refine WY hb (thn (he pins s σ H _ I h) fun u s1 ⟨x,H1,I1,rx,a,C,dx,fs,v,ex,ea,c,n,l,q⟩=>?_)
 subst ex
 obtain rfl:u=Value.ref a:=rx
 exact Zp I1 ea c n l fun u' s2 I2 ru=>⟨v,H1,I2,ru,q⟩
theorem j7 (ha:PE X o ta) (hv:PE X value tv) (hs:swapsWith value (some (.Attribute o f pos')) pos.line X.env=pure false):PS X (.Assign [.Attribute o f pos'] value pos) (qS X.K ta tv f):=by
 intro pins s σ H D I h
 refine plainObj_wpAny_Assign_Attribute (thn (hv pins s σ H _ I h) fun u s1 ⟨y,H1,I1,ry,q⟩=>thn (ha pins s1 σ H1 _ I1 q) fun ov s2 ⟨x,H2,I2,rx,a,C,dx,fs,ex,ea,c,n,l,q2⟩=>?_) hs
 subst ex
 obtain rfl:ov=Value.ref a:=rx
 exact Zr I2 ea c n l ry fun s3 I3=>⟨σ,_,I3,q2⟩
theorem Vq {op:Operator} {rd:V→V→Hp→VK→Prop} (ha:PE X o ta) (hv:PE X value tv) (hop:zaj X op rd):PS X (.AugAssign (.Attribute o f tpos) op value pos) (Zb X.K ta tv rd f):=by
 intro pins s σ H D I h
 refine wpAny_AugAssign_AttributeAny (thn (ha pins s σ H _ I h) fun ov s1 ⟨x,H1,I1,rx,a,C,dx,fs,v,ex,ea,c,n,l,q⟩=>?_)
 subst ex
 obtain rfl:ov=Value.ref a:=rx
 refine Zp I1 ea c n l fun u s2 I2 ru=>thn (hv pins s2 σ H1 _ I2 q) fun w3 s3 ⟨y,H2,I3,ry,q3⟩=>thn (hop pins s3 σ H2 v y u w3 _ I3 ru ry q3) fun w4 s4 ⟨z,H3,I4,rz,dx',fs',ea',l',q4⟩=>?_
 exact Zr I4 ea' c n l' rz fun s5 I5=>⟨σ,_,I5,q4⟩
def Kv:V→V→Hp→VK→Prop:=fun x y H Q=>∃ i j,x=.int i∧y=.int j∧Q (.int (i + j)) H
theorem QK:zaj X .Add Kv:=by
 rintro pins s σ H x y u v Q I rx ry ⟨i,j,rfl,rfl,q⟩
 obtain ⟨t,rfl⟩:=(show ∃ t,u=Value.int i t from rx)
 obtain ⟨t',rfl⟩:=(show ∃ t',v=Value.int j t' from ry)
 exact PyProof.Rows.iadd_int ⟨.int (i + j),H,I.tok _,⟨_,rfl⟩,q⟩
end
section
variable {X:Cx} {pins:List (Addr × Obj)} {σ:St} {H:Hp} {s:Shared} {A:Around} {E:Value→Shared→Prop} {Q:Value→Shared→Prop} {c:Value} {b:Bool}
inductive j8 (K:PySem.W.Frag) (H:Hp):V→Value→Prop where
 | non:j8 K H .non (.type "NoneType")
 | bl (x:Bool):j8 K H (.bl x) (.type "bool")
 | int (i:Int):j8 K H (.int i) (.type "int")
 | str (x:Str):j8 K H (.str x) (.type "str")
 | flt (x:UInt64):j8 K H (.flt x) (.type "float")
 | lst {a:Addr} {xs:List V} (e:H a=some (.lst xs)):j8 K H (.ref a) (.type "list")
 | frz {a:Addr} {o:Obj} {xs:List V} (e:H a=some (.frz o (.lst xs))):j8 K H (.ref a) (.type "list")
 | tup {a:Addr} {xs:List V} (e:H a=some (.tup xs)):j8 K H (.ref a) (.type "tuple")
 | dK {a:Addr} {kvs:List (Key × V)} (e:H a=some (.dK kvs)):j8 K H (.ref a) (.type "dict")
 | dT {a:Addr} {kvs:List (List Key × V)} (e:H a=some (.dT kvs)):j8 K H (.ref a) (.type "dict")
 | ins {a C dx:Addr} {fs:List (Str × V)} (e:H a=some (.ins C dx fs)) (cl:Cls K C) (ha:PySem.W.findIn K (.ref C) "__class__"=some (some (.builtin "object.__class__")))
   (hn:PySem.W.specialIn K (.builtin "object.__class__") "__get__"=some (some (.builtin "getset_descriptor.__get__"))) (htk:PySem.W.takesIn K (.builtin "object.__class__")=some true)
   (hm:PySem.W.mroIn K C (.type "object")=some true):j8 K H (.ref a) (.ref C)
theorem Vr {x:V} {u t:Value} (I:Inv X pins σ H s) (rx:RelV x u) (ty:j8 X.K H x t) (e:PySem.W.kitOne X.K t c=some b) (h:∀ tk,Q (.bool b) { s with toks:=tk }) :
  wpAny (model X.prog X.w) A (call (.builtin "isinstance") [u,c]) Q E s:=by
 cases ty with
 | non=>cases (show u=Value.none from rx);exact PySem.W.kia_one PySem.W.kitx_none I.kIn True.intro e (fun z=>nomatch z) h
 | bl y=>cases (show u=Value.bool y from rx);exact PySem.W.kia_one PySem.W.kitx_bool I.kIn True.intro e (fun z=>nomatch z) h
 | int i=>obtain ⟨t,q⟩:=(show ∃ t,u=Value.int i t from rx);cases q;exact PySem.W.kia_one PySem.W.kitx_int I.kIn True.intro e (fun z=>nomatch z) h
 | str y=>obtain ⟨t,q⟩:=(show ∃ t,u=Value.str y t from rx);cases q;exact PySem.W.kia_one PySem.W.kitx_str I.kIn True.intro e (fun z=>nomatch z) h
 | flt y=>obtain ⟨t,q⟩:=(show ∃ t,u=Value.float y t from rx);cases q;exact PySem.W.kia_one PySem.W.kitx_float I.kIn True.intro e (fun z=>nomatch z) h
 | @lst a xs ea =>
  cases (show u=Value.ref a from rx)
  obtain ⟨_,_,n,_,h1⟩:=(show ObjOk X.prog X.w H s.heap a (.lst xs) from I.hok a _ ea)
  exact PySem.W.kia_one PySem.W.kitx_list I.kIn ⟨_,h1,rfl⟩ e (fun z=>nomatch z) h
 | @frz a ob xs ea =>
  cases (show u=Value.ref a from rx)
  obtain ⟨_,_,_,n,_,h1⟩:=(show ObjOk X.prog X.w H s.heap a (.frz ob (.lst xs)) from I.hok a _ ea)
  exact PySem.W.kia_one PySem.W.kitx_list I.kIn ⟨_,h1,rfl⟩ e (fun z=>nomatch z) h
 | @tup a xs ea =>
  cases (show u=Value.ref a from rx)
  obtain ⟨_,_,_,p⟩:=(show ObjOk X.prog X.w H s.heap a (.tup xs) from I.hok a _ ea)
  obtain ⟨o,h1,h2,_⟩:=p
  exact PySem.W.kia_one PySem.W.kitx_tuple I.kIn ⟨o,h1,h2⟩ e (fun z=>nomatch z) h
 | @dK a kvs ea =>
  cases (show u=Value.ref a from rx)
  obtain ⟨_,_,vs,_,p⟩:=(show ObjOk X.prog X.w H s.heap a (.dK kvs) from I.hok a _ ea)
  obtain ⟨o,es,ep,h1,h2,_⟩:=p
  exact PySem.W.kia_one PySem.W.kitx_dict I.kIn ⟨o,h1,h2.1⟩ e (fun z=>nomatch z) h
 | @dT a kvs ea =>
  cases (show u=Value.ref a from rx)
  obtain ⟨_,_,xs,_,o,es,ep,h1,h2,_⟩:=(show ObjOk X.prog X.w H s.heap a (.dT kvs) from I.hok a _ ea)
  exact PySem.W.kia_one PySem.W.kitx_dict I.kIn ⟨o,h1,h2.1⟩ e (fun z=>nomatch z) h
 | @ins a C dx fs ea cl ha hn htk hm =>
  cases (show u=Value.ref a from rx)
  obtain ⟨mA,O,_⟩:=Za I.hok ea
  obtain ⟨od,J,_⟩:=O.look
  exact PySem.W.kia_one (PySem.W.kitx_own (cl.get _) cl.hd ha hn htk hm) I.kIn J e (fun z=>nomatch z) h
end
end L2
namespace L2
open PySem PySem.Spec PyProof.Rows
structure Room (k:Nat) (A:Around):Prop where
 hd:A.handled=none
 dp:A.depth + 3 * k + 5 < recursionLimit
 un:A.units + 16 * k + 200 < cLine
theorem Room.mono {j k:Nat} {A:Around} (r:Room k A) (h:j≤k):Room j A:=⟨r.hd,by have:=r.dp;lia,by have:=r.un;lia⟩
theorem Room.deeper {k:Nat} {A:Around} (r:Room (k + 1) A) (env:Env):Room k (A.deeper env) :=
 ⟨r.hd,by have:=r.dp;show A.depth + 1 + 3 * k + 5 < _;lia,by have:=r.un;show A.units + 3 + 16 * k + 200 < _;lia⟩
theorem Wn {A:Around} {C:Addr} {us:List Value} {kw:List (Str × Value)}:(A.under (.builtin "type.__call__" ⟨.ref C :: us,kw⟩)).depth=A.depth + 1:=by
 first | rfl | simp [Around.under,Code.weight,Code.isCreation,Code.isGuard,Code.isCaller,Code.frames,Code.isFrame,guardIds]
theorem Wo {A:Around} {C:Addr} {us:List Value} {kw:List (Str × Value)}:(A.under (.builtin "type.__call__" ⟨.ref C :: us,kw⟩)).units=A.units + 1:=by
 first | rfl | simp [Around.under,Code.cUnits,Code.frames,Code.isFrame]
theorem Room.make {k:Nat} {A:Around} (r:Room (k + 1) A) (C:Addr) (us:List Value) (kw:List (Str × Value)):Room k (A.under (.builtin "type.__call__" ⟨.ref C :: us,kw⟩)) :=
 ⟨r.hd,by have:=r.dp;rw [Wn];lia,by have:=r.un;rw [Wo];lia⟩
theorem Room.depth {k:Nat} {A:Around} (r:Room k A):A.depth < recursionLimit:=by have:=r.dp;lia
def zj:TA:=fun _ H Q=>Q [] H
def zd (ta:TE) (tr:TA):TA:=fun σ H Q=>ta σ H fun x H1=>tr σ H1 fun xs H2=>Q (x :: xs) H2
section
variable {X:Cx} {e:Expr} {es:List Expr} {te:TE} {t:TA} {pos:Pos}
theorem zg:PA X [] zj:=fun _ _ _ _ H Q I h=>Calls.spliced_nil ⟨[],H,I,.nil,h⟩
theorem zb (ha:PE X e te) (hr:PA X es t) (hs:starEach (e :: es) X.env=(false,eval e X.env) :: starEach es X.env:=by rfl):PA X (e :: es) (zd te t):=by
 intro pos pins s σ H Q I h
 rw [hs]
 show wpAny _ _ (spliced ((false,eval e X.env) :: backTo pos (starEach es X.env))) _ _ s
 refine Calls.spliced_cons (thn (ha pins s σ H _ I h) fun u s1 ⟨x,H1,I1,r1,q1⟩=>?_)
 exact thn (hr pos pins s1 σ H1 _ I1 q1) fun us s2 ⟨xs,H2,I2,r2,q2⟩=>⟨x :: xs,H2,I2,.cons r1 r2,q2⟩
def yh (t:TA):TE:=fun σ H Q=>t σ H fun xs H1=>xs.length≤sizeLine∧∀ p,H1 p=none→Q (.ref p) (upd H1 p (.tup xs))
def yi (t:TA):TE:=fun σ H Q=>t σ H fun xs H1=>xs.length≤sizeLine∧∀ p,H1 p=none→Q (.ref p) (upd H1 p (.lst xs))
theorem z8 {x1} (h:PA X es t):PE X (.Tuple es x1 pos) (yh t):=by
 intro pins s σ H Q I hq
 refine wpAny_Tuple_spliced (thn (h pos pins s σ H _ I hq) fun us s1 ⟨xs,H1,I1,r,z,q⟩=>⟨by rw [← r.length];exact z,?_⟩)
 have hf:H1 s1.heap.objs.size=none:=I1.hok.fresh (Nat.le_refl _)
 refine ⟨.ref s1.heap.objs.size,upd H1 s1.heap.objs.size (.tup xs),I1.laid (t':=s1.toks) (fun b u e=>Heap.get?_push_of_some _ e) (Nat.le_refl _) ?_,rfl,q _ hf⟩
 exact ⟨z,us,r,⟨_,Heap.get?_push_size _ rfl,rfl,_,rfl⟩⟩
theorem yq (h:PA X es t):PE X (.List es pos) (yi t):=by
 intro pins s σ H Q I hq
 refine wpAny_List_spliced (thn (h pos pins s σ H _ I hq) fun us s1 ⟨xs,H1,I1,r,z,q⟩=>⟨by rw [← r.length];exact z,?_⟩)
 have hf:H1 s1.heap.objs.size=none:=I1.hok.fresh (Nat.le_refl _)
 refine ⟨.ref s1.heap.objs.size,upd H1 s1.heap.objs.size (.lst xs),I1.laid (t':=s1.toks) (fun b u e=>Heap.get?_push_of_some _ e) (Nat.le_refl _) ?_,rfl,q _ hf⟩
 exact ⟨z,us,0,r,Heap.get?_push_size _ rfl⟩
end
abbrev Sp:=List V→Hp→VK→XK→Prop
abbrev CXT:=List Env→Hp→Shared→XK→Value→Shared→Prop
structure Env0 (P:Program) (w:World) (K:PySem.W.Frag) (mg:Str→Option Value) (base:Heap) (A:Around) (outer:List Env) (s:Shared) (H:Hp):Prop where
 frames:A.frames=some outer
 mod:Mod K mg base
 bs:∀ b o,base.get? b=some o→s.heap.get? b=some o∧H b=none
 bsz:base.objs.size≤s.heap.objs.size
 funs:s.heap.FunFrames base outer
 frf:∀ b∈frs outer,H b=none
 hok:HOk P w H s.heap
 bare:AllBare s.gens
def CE (outer:List Env) (P:Program) (w:World) (H:Hp) (s:Shared) (Q:VK) (u:Value) (s':Shared):Prop :=
 ∃ v H',s'.os=s.os∧AllBare s'.gens∧Un (frs outer) [] H H' s.heap s'.heap∧HOk P w H' s'.heap∧RelV v u∧Q v H'
def CR (CX:CXT) (outer:List Env) (P:Program) (w:World) (H:Hp) (s:Shared) (Q:VK) (E:XK) (r:Result) (s':Shared):Prop :=
 match r with
 | .ok (.ret u)=>CE outer P w H s Q u s'
 | .ok _=>False
 | .error e=>CX outer H s E e s'
structure FnOk (P:Program) (w:World) (K:PySem.W.Frag) (mg:Str→Option Value) (base:Heap) (CX:CXT) (k:Nat) (f:Addr) (fd:FuncData) (ps:List Str) (sp:Sp):Prop where
 len:∀ vs H Q E,sp vs H Q E→vs.length=ps.length
 run:∀ (A:Around) (outer:List Env) (s:Shared) (H:Hp) (args:Args) (us:List Value) (vs:List V) (Q:VK) (E:XK),Room k A→Env0 P w K mg base A outer s H→BindsTo s fd args (ps.zip us)→Vals vs us→sp vs H Q E →
  codeAny (model P w) A (.call (.ref f) args) (CR CX outer P w H s Q E) s
theorem FnOk.mono {P:Program} {w:World} {K:PySem.W.Frag} {mg:Str→Option Value} {base:Heap} {CX:CXT} {j k:Nat} {f:Addr} {fd:FuncData} {ps:List Str} {sp:Sp} (F:FnOk P w K mg base CX j f fd ps sp) (h:j≤k) :
  FnOk P w K mg base CX k f fd ps sp:=⟨F.len,fun A outer s H args us vs Q E hr=>F.run A outer s H args us vs Q E (hr.mono h)⟩
theorem Env0.make {P:Program} {w:World} {K:PySem.W.Frag} {mg:Str→Option Value} {base:Heap} {A:Around} {outer:List Env} {s:Shared} {H:Hp} (e:Env0 P w K mg base A outer s H) (C:Addr) (us:List Value) (kw:List (Str × Value)) :
  Env0 P w K mg base (A.under (.builtin "type.__call__" ⟨.ref C :: us,kw⟩)) outer s H:=⟨by first | exact e.frames | (simpa [Around.under,Code.envs,Code.isFrame,pushEnvs] using e.frames),e.mod,e.bs,e.bsz,e.funs,e.frf,e.hok,e.bare⟩
section
variable {X:Cx} {pins:List (Addr × Obj)} {σ:St} {H:Hp} {s s':Shared}
theorem Inv.env0 (I:Inv X pins σ H s):Env0 X.prog X.w X.K X.mg X.base X.A X.stack s H :=
 ⟨I.ok.frames,I.ok.mod,I.bs,Nat.le_trans I.ok.bsz I.sz,I.stack,I.stkFree,I.hok,I.bare⟩
theorem Inv.after {Q:VK} {u:Value} (I:Inv X pins σ H s) (h:CE X.stack X.prog X.w H s Q u s'):EP X pins σ Q u s':=by
 obtain ⟨v,H',os,bare,un,hok,r,q⟩:=h
 obtain ⟨hh,g,d,t,os'⟩:=s'
 obtain rfl:os'=s.os:=os
 exact ⟨v,H',I.call (h':=hh) (g':=g) (d':=d) (t':=t) (ch:=[]) un hok bare (fun b z=>absurd z (by simp)),r,q⟩
end
def zI (sp:Sp) (dvs:List V) (E:XK) (t:TA):TE:=fun σ H Q=>t σ H fun vs H1=>sp (vs ++ dvs) H1 Q E
def yj (C:Addr) (m:Str) (sp:Sp) (dvs:List V) (E:XK) (ta:TE) (t:TA):TE:=fun σ H Q=>ta σ H fun x H1=>∃ a dx fs,x=.ref a∧H1 a=some (.ins C dx fs)∧fs.lookup m=none ∧
 t σ H1 fun vs H2=>sp (x :: (vs ++ dvs)) H2 Q E
def Zs (C:Addr) (sp:Sp) (dvs:List V) (E:XK) (t:TA):TE:=fun σ H Q=>t σ H fun vs H1=>∀ x dx,H1 x=none→H1 dx=none→dx≠x →
 sp (.ref x :: (vs ++ dvs)) (upd (upd H1 dx (.own x)) x (.ins C dx [])) (fun v H2=>v=.non∧Q (.ref x) H2) E
def Binds (K:PySem.W.Frag) (fd:FuncData) (ps:List Str) (ds:List Value):Prop :=
 ∀ (s:Shared) (us:List Value),K.In s.heap→(us ++ ds).length=ps.length→BindsTo s fd ⟨us,[]⟩ (ps.zip (us ++ ds))
theorem Binds.all {K:PySem.W.Frag} {fd:FuncData} {ps:List Str} (h:∀ us:List Value,us.length=ps.length→bindArgs fd ⟨us,[]⟩=pure (ps.zip us)):Binds K fd ps []:=fun s us _ hl=>by
 rw [List.append_nil] at hl ⊢
 exact .of_eq (h us hl)
def vL (CX:CXT) (X:Cx) (E:XK):Prop:=∀ (pins:List (Addr × Obj)) (σ:St) (H:Hp) (s:Shared) (e:Value) (s':Shared),Inv X pins σ H s→CX X.stack H s E e s'→X.xe e s'
section
variable {X:Cx} {CX:CXT} {k:Nat} {f C:Addr} {fd:FuncData} {ps:List Str} {sp:Sp} {dvs:List V} {ds:List Value} {E:XK} {x m:Str} {p pos apos:Pos} {e o:Expr} {es:List Expr} {ta:TE} {t:TA}
theorem Wp {pins:List (Addr × Obj)} {σ:St} {H:Hp} {s:Shared} {Q:VK} {us:List Value} {vs:List V} (F:FnOk X.prog X.w X.K X.mg X.base CX k f fd ps sp) (hr:Room k X.A) (hb:Binds X.K fd ps ds) (hd:Vals dvs ds) (hx:vL CX X E)
  (I:Inv X pins σ H s) (r:Vals vs us) (h:sp (vs ++ dvs) H Q E):wpAny (model X.prog X.w) X.A (call (.ref f) us) (EP X pins σ Q) X.xe s:=by
 have r2:Vals (vs ++ dvs) (us ++ ds):=r.append hd
 have hl:(us ++ ds).length=ps.length:=by rw [← r2.length];exact F.len _ _ _ _ h
 refine wpAny_call (codeAny_mono (F.run X.A X.stack s H ⟨us,[]⟩ (us ++ ds) (vs ++ dvs) Q E hr I.env0 (hb s us I.kIn hl) r2 h) fun r s' hq=>?_)
 cases r with
 | error e=>exact hx pins σ H s e s' I hq
 | ok fl =>
  cases fl with
  | ret u=>exact I.after hq
  | next=>exact False.elim hq
  | brk=>exact False.elim hq
  | cont=>exact False.elim hq
theorem zO (F:FnOk X.prog X.w X.K X.mg X.base CX k f fd ps sp) (hr:Room k X.A) (hg:Gl X x) (hm:X.mg x=some (.ref f)) (hk:PySem.W.keepIn X.K (.ref f)=true) (hb:Binds X.K fd ps ds) (hd:Vals dvs ds) (hx:vL CX X E)
  (ha:PA X (e :: es) t) (hdb:(x == ("__debug__":Str))=false:=by decide) (he:starEach (e :: es) X.env=(false,eval e X.env) :: starEach es X.env:=by rfl) (hpl:(backTo pos (starEach es X.env)).any (·.1)=false:=by rfl) :
  PE X (.Call (.Name x p) (e :: es) [] pos) (zI sp dvs E t):=by
 intro pins s σ H Q I h
 refine wpAny_Call_Name_kw (vd I hg hm ?_ hdb)
 refine PySem.W.callWith_K (h₀:=X.base) I.ok.mod.kin hk (thn (ha pos pins s σ H _ I h) fun us s1 ⟨vs,H1,I1,r,q⟩=>⟨I1.kIn,?_⟩) he hpl
 exact Wp F hr hb hd hx I1 r q
theorem Zc {pl:Sem Bool} (he:PE X o ta) (c:Cls X.K C) (hm:qc X.K C m f) (F:FnOk X.prog X.w X.K X.mg X.base CX k f fd ps sp) (hr:Room k X.A) (hb:Binds X.K fd ps ds) (hd:Vals dvs ds) (hx:vL CX X E) (ha:PA X (e :: es) t)
  (hst:starEach (e :: es) X.env=(false,eval e X.env) :: starEach es X.env:=by rfl) (hpl:(backTo pos (starEach es X.env)).any (·.1)=false:=by rfl)
  (ht:eval (.Call (.Attribute o m apos) (e :: es) [] pos) X.env=(do
   let ov ← eval o X.env
   standAt apos.atName
   let (f,first) ← holding [ov] (getMethod ov m pl)
   callWith pos f first (backTo pos (starEach (e :: es) X.env)) (backToKw pos (keywordEach [] X.env))):=by rfl) :
  PE X (.Call (.Attribute o m apos) (e :: es) [] pos) (yj C m sp dvs E ta t):=by
 intro pins s σ H Q I h
 refine PySem.W.methodCall_KW (pl:=pl) (thn (he pins s σ H _ I h) fun u s1 ⟨x,H1,I1,rx,a,dx,fs,ex,ea,l,q⟩=>?_) ht
 subst ex
 obtain rfl:u=Value.ref a:=rx
 refine Zq I1 ea c hm l ?_
 refine PySem.W.callWith_K (first:=[.ref a]) (h₀:=X.base) I.ok.mod.kin hm.kp (thn (ha pos pins s1 σ H1 _ I1 q) fun us s2 ⟨vs,H2,I2,r,q2⟩=>⟨I2.kIn,?_⟩) hst hpl
 exact Wp (us:=.ref a :: us) (vs:=.ref a :: vs) F hr hb hd hx I2 (.cons rfl r) q2
theorem yd {pl:Sem Bool} (he:PE X o ta) (c:Cls X.K C) (hm:qc X.K C m f) (F:FnOk X.prog X.w X.K X.mg X.base CX k f fd ps sp) (hr:Room k X.A) (hb:Binds X.K fd ps ds) (hd:Vals dvs ds) (hx:vL CX X E)
  (ht:eval (.Call (.Attribute o m apos) [] [] pos) X.env=(do
   let ov ← eval o X.env
   standAt apos.atName
   let (f,first) ← holding [ov] (getMethod ov m pl)
   callWith pos f first (backTo pos (starEach [] X.env)) (backToKw pos (keywordEach [] X.env))):=by rfl) :
  PE X (.Call (.Attribute o m apos) [] [] pos) (yj C m sp dvs E ta zj):=by
 intro pins s σ H Q I h
 refine PySem.W.methodCall_KW (pl:=pl) (thn (he pins s σ H _ I h) fun u s1 ⟨x,H1,I1,rx,a,dx,fs,ex,ea,l,q⟩=>?_) ht
 subst ex
 obtain rfl:u=Value.ref a:=rx
 refine Zq I1 ea c hm l ?_
 exact PySem.W.callWith_K0 (first:=[.ref a]) I1.kIn hm.kp (Wp (us:=[.ref a]) (vs:=[.ref a]) F hr hb hd hx I1 (.cons rfl .nil) q)
structure Mk (K:PySem.W.Frag) (C f:Addr):Prop where
 makes:PySem.W.makesIn K C=true
 init:PySem.W.findIn K (.ref C) "__init__"=some (some (.ref f))
 fn:PySem.W.isFn K (.ref f)=true
 kp:PySem.W.keepIn K (.ref C)=true
theorem Xu {pins:List (Addr × Obj)} {σ:St} {H:Hp} {s:Shared} {Q:VK} {us:List Value} {vs:List V} (M:Mk X.K C f) (F:FnOk X.prog X.w X.K X.mg X.base CX k f fd ps sp) (hr:Room (k + 1) X.A) (hb:Binds X.K fd ps ds) (hd:Vals dvs ds)
  (hx:vL CX X E) (I:Inv X pins σ H s) (r:Vals vs us)
  (h:∀ x dx,H x=none→H dx=none→dx≠x→sp (.ref x :: (vs ++ dvs)) (upd (upd H dx (.own x)) x (.ins C dx [])) (fun v H2=>v=.non∧Q (.ref x) H2) E) :
  wpAny (model X.prog X.w) X.A (call (.ref C) us) (EP X pins σ Q) X.xe s:=by
 have hq:=h (s.heap.objs.size + 1) s.heap.objs.size (I.hok.fresh (Nat.le_succ _)) (I.hok.fresh (Nat.le_refl _)) (Nat.ne_of_lt (Nat.lt_succ_self _))
 have I2:=Inv.made (C:=C) I
 have r2:Vals (V.ref (s.heap.objs.size + 1) :: (vs ++ dvs)) (Value.ref (s.heap.objs.size + 1) :: (us ++ ds)):=.cons rfl (r.append hd)
 have hl:(Value.ref (s.heap.objs.size + 1) :: us ++ ds).length=ps.length:=by
  have e:=r2.length
  rw [F.len _ _ _ _ hq] at e
  exact e.symm
 refine wpAny_call (V2 (f:=f) I.kIn M.makes M.init (beq_iff_eq.mp M.fn) (codeAny_mono (F.run _ X.stack _ _ ⟨Value.ref (s.heap.objs.size + 1) :: us,[]⟩ (Value.ref (s.heap.objs.size + 1) :: (us ++ ds)) _ _ E (hr.make C us [])
  (I2.env0.make C us []) (hb _ (Value.ref (s.heap.objs.size + 1) :: us) I2.kIn hl) r2 hq) fun r s' hq'=>?_))
 cases r with
 | error e=>exact hx pins σ _ _ e s' I2 hq'
 | ok fl =>
  cases fl with
  | ret u =>
   obtain ⟨v,H',I3,rv,ev,q3⟩:=I2.after hq'
   subst ev
   exact ⟨rv,⟨V.ref (s.heap.objs.size + 1),H',I3,rfl,q3⟩⟩
  | next=>exact False.elim hq'
  | brk=>exact False.elim hq'
  | cont=>exact False.elim hq'
theorem Kx (M:Mk X.K C f) (F:FnOk X.prog X.w X.K X.mg X.base CX k f fd ps sp) (hr:Room (k + 1) X.A) (hg:Gl X x) (hm:X.mg x=some (.ref C)) (hb:Binds X.K fd ps ds) (hd:Vals dvs ds) (hx:vL CX X E)
  (ha:PA X (e :: es) t) (hdb:(x == ("__debug__":Str))=false:=by decide) (he:starEach (e :: es) X.env=(false,eval e X.env) :: starEach es X.env:=by rfl) (hpl:(backTo pos (starEach es X.env)).any (·.1)=false:=by rfl) :
  PE X (.Call (.Name x p) (e :: es) [] pos) (Zs C sp dvs E t):=by
 intro pins s σ H Q I h
 refine wpAny_Call_Name_kw (vd I hg hm ?_ hdb)
 refine PySem.W.callWith_K (h₀:=X.base) I.ok.mod.kin M.kp (thn (ha pos pins s σ H _ I h) fun us s1 ⟨vs,H1,I1,r,q⟩=>⟨I1.kIn,?_⟩) he hpl
 exact Xu M F hr hb hd hx I1 r q
theorem V3 (M:Mk X.K C f) (F:FnOk X.prog X.w X.K X.mg X.base CX k f fd ps sp) (hr:Room (k + 1) X.A) (hg:Gl X x) (hm:X.mg x=some (.ref C)) (hb:Binds X.K fd ps ds) (hd:Vals dvs ds) (hx:vL CX X E)
  (hdb:(x == ("__debug__":Str))=false:=by decide):PE X (.Call (.Name x p) [] [] pos) (Zs C sp dvs E zj):=by
 intro pins s σ H Q I h
 refine wpAny_Call_Name_kw (vd I hg hm ?_ hdb)
 exact PySem.W.callWith_K0 I.kIn M.kp (Xu (us:=[]) M F hr hb hd hx I .nil h)
end
section
variable {X:Cx} {CX:CXT} {k:Nat} {f C:Addr} {fd:FuncData} {ps ks:List Str} {sp:Sp} {E:XK} {x m:Str} {p pos apos kpos:Pos} {e o:Expr} {es:List Expr} {kws:List Keyword} {te ta:TE} {t tk:TA} {nm:Option Str}
variable {g:List Value→List Value→List Value} {gV:List V→List V→List V}
end
structure zC (N P:List Str) (sc:Scope):Prop where
 kind:sc.kind=.function
 co:sc.isCoroutine=false
 gen:sc.isGenerator=false
 nd:N.Nodup
 pre:N.take P.length=P
 par:∀ x∈P,sc.names.lookup x=some .local∨sc.names.lookup x=some .cell
 nofree:∀ y∈sc.names,y.2≠.free
theorem Yp {kindOf:Str→Option NameKind} {x:Str}:∀ {binds:List (Str × Value)} {m:Str→Option Value},(∀ v,(x,v) ∉ binds)→bindL kindOf binds m x=m x
 | [],_,_=>rfl
 | (n,v) :: r,m,h=>by
  unfold bindL
  rw [Yp fun w hw=>h w (List.mem_cons_of_mem _ hw)]
  split
  ·have:x≠n:=by rintro rfl;exact h v List.mem_cons_self
   simp [this]
  ·rfl
theorem Yq {kindOf:Str→Option NameKind} {x:Str}:∀ {binds:List (Str × Value)} {m:Str→Option Value},(∀ v,(x,v) ∉ binds)→bindC kindOf binds m x=m x
 | [],_,_=>rfl
 | (n,v) :: r,m,h=>by
  unfold bindC
  rw [Yq fun w hw=>h w (List.mem_cons_of_mem _ hw)]
  split
  ·rfl
  ·have:x≠n:=by rintro rfl;exact h v List.mem_cons_self
   simp [this]
theorem Yr {kindOf:Str→Option NameKind} {x:Str} {v:Value}:∀ {P:List Str} {vs:List Value} {i:Nat} {m:Str→Option Value},P.Nodup→P[i]?=some x→vs[i]?=some v→kindOf x=some .local →
  bindL kindOf (P.zip vs) m x=some v
 | [],_,_,_,_,h,_,_=>by simp at h
 | _ :: _,[],_,_,_,_,h,_=>by simp at h
 | p :: P,w :: vs,0,m,nd,h1,h2,hk=>by
  simp at h1 h2;subst h1;subst h2
  show bindL kindOf ((p,w) :: P.zip vs) m p=_
  unfold bindL
  rw [Yp fun v hv=>(List.nodup_cons.mp nd).1 (List.of_mem_zip hv).1,if_pos hk]
  simp
 | p :: P,w :: vs,i + 1,m,nd,h1,h2,hk=>by
  show bindL kindOf ((p,w) :: P.zip vs) m x=_
  unfold bindL
  exact Yr (i:=i) (List.nodup_cons.mp nd).2 (by simpa using h1) (by simpa using h2) hk
theorem Ys {kindOf:Str→Option NameKind} {x:Str} {v:Value}:∀ {P:List Str} {vs:List Value} {i:Nat} {m:Str→Option Value},P.Nodup→P[i]?=some x→vs[i]?=some v→kindOf x≠some .local →
  bindC kindOf (P.zip vs) m x=some v
 | [],_,_,_,_,h,_,_=>by simp at h
 | _ :: _,[],_,_,_,_,h,_=>by simp at h
 | p :: P,w :: vs,0,m,nd,h1,h2,hk=>by
  simp at h1 h2;subst h1;subst h2
  show bindC kindOf ((p,w) :: P.zip vs) m p=_
  unfold bindC
  rw [Yq fun v hv=>(List.nodup_cons.mp nd).1 (List.of_mem_zip hv).1,if_neg hk]
  simp
 | p :: P,w :: vs,i + 1,m,nd,h1,h2,hk=>by
  show bindC kindOf ((p,w) :: P.zip vs) m x=_
  unfold bindC
  exact Ys (i:=i) (List.nodup_cons.mp nd).2 (by simpa using h1) (by simpa using h2) hk
def start (N:List Str) (vs:List V):St:=vs.map some ++ List.replicate (N.length - vs.length) none
def jU (CX:CXT) (P:Program) (w:World) (K:PySem.W.Frag) (mg:Str→Option Value) (base:Heap) (N:List Str) (qual:Str) (scope:Scope) (f:Addr) (cd:Value) (A:Around) (outer:List Env) (s:Shared) (H:Hp) (E:XK):Cx where
 prog:=P
 w:=w
 K:=K
 mg:=mg
 base:=base
 A:=A.deeper (envOfC qual scope s.heap.objs.size f cd)
 N:=N
 s₀:=s
 H₀:=H
 env:=envOfC qual scope s.heap.objs.size f cd
 outer:=outer
 stack:=envOfC qual scope s.heap.objs.size f cd :: outer
 ex:=[]
 calm:=true
 fn:=fun _=>true
 pn:=[]
 xe:=fun e s'=>wpAny (model P w) (A.deeper (envOfC qual scope s.heap.objs.size f cd)) (leaving (envOfC qual scope s.heap.objs.size f cd) e) (fun _ s''=>CX outer H s E e s'') (fun e' s''=>CX outer H s E e' s'') s'
theorem Xv {sc:Scope} {n:Nat} {x:Str} (h:sc.names.lookup x=some .cell):∃ c,(cellsFrom n sc.names []).lookup x=some c:=by
 have q:=PySem.W.cellsFrom_some sc.names n [] (.inl h)
 exact Option.isSome_iff_exists.mp q
theorem Vs {CX:CXT} {P:Program} {w:World} {K:PySem.W.Frag} {mg:Str→Option Value} {base:Heap} {N ps:List Str} {qual:Str} {scope:Scope} {f:Addr} {cd:Value} {A:Around} {outer:List Env} {s s1:Shared} {H:Hp} {E:XK} {us:List Value} {vs:List V}
  (S:zC N ps scope) (hd:A.handled=none) (e0:Env0 P w K mg base A outer s H) (hl:vs.length=ps.length) (r:Vals vs us)
  (x:InCallC s s.heap.objs.size (bindL (envOfC qual scope s.heap.objs.size f cd).kindOf (ps.zip us) fun _=>none) (cellsFrom (s.heap.objs.size + 1) scope.names []) (bindC (envOfC qual scope s.heap.objs.size f cd).kindOf (ps.zip us) fun _=>none) s1) :
  Inv (jU CX P w K mg base N qual scope f cd A outer s H E) [] (start N vs) H s1:=by
 have hpl:ps.length≤N.length:=by have:=congrArg List.length S.pre;rw [List.length_take] at this;lia
 obtain ⟨h1,tk,rfl,hk⟩:=x.done
 have noA:∀ b:Addr,b ∉ (jU CX P w K mg base N qual scope f cd A outer s H E).ex:=fun b z=>absurd (show b∈([]:List Addr) from z) (by simp)
 refine ⟨⟨e0.mod,S.kind,rfl,rfl,Nat.le_refl _,fun y z c h1 h2=>?_,fun y hy=>?_,fun y c _ h=>?_,fun _=>hd,Around.frames_deeper e0.frames,.inr ⟨rfl,rfl⟩,fun b z=>absurd z (noA b),e0.bs,e0.bsz,fun b _ _=>noA b,fun b z=>absurd z (noA b),e0.funs,e0.frf⟩,
  rfl,e0.bare,Un.kept hk,⟨_,x.toInCall.ns,fun i y v h1 h2 h3=>?_⟩,fun y c h=>⟨_,x.cell y c h⟩,e0.hok.fresh (Nat.le_refl _),fun y c h=>?_,fun p hp=>absurd (show p∈([]:List (Addr × Obj)) from hp) (by simp),e0.hok.kept hk,?_⟩
 ·exact name_of_addr x.apart (PySem.mem_of_lookup h1) (PySem.mem_of_lookup h2)
 ·have hy:scope.names.lookup y=some .cell∨scope.names.lookup y=some .free:=hy
  rcases hy with hy | hy
  ·exact Xv hy
  ·exact absurd rfl (S.nofree _ (PySem.mem_of_lookup hy))
 ·exact Nat.le_of_lt (x.above y c (PySem.mem_of_lookup h))
 ·have hi:i < vs.length:=by
   unfold start at h2
   by_cases hi:i < vs.length
   ·exact hi
   ·rw [List.getElem?_append_right (by simpa using hi)] at h2
    rw [List.getElem?_replicate] at h2
    split at h2 <;> cases h2
  have ha:vs[i]?=some v:=by
   unfold start at h2
   rw [List.getElem?_append_left (by simpa using hi),List.getElem?_map] at h2
   cases e:vs[i]? with
   | none=>rw [e] at h2;cases h2
   | some a=>rw [e] at h2;cases h2;rfl
  obtain ⟨u,hu,rv⟩:=r.get ha
  have hp:ps[i]?=some y:=by
   rw [← S.pre,List.getElem?_take_of_lt (by lia)];exact h1
  have ndP:ps.Nodup:=by rw [← S.pre];exact S.nd.sublist (List.take_sublist _ _)
  refine ⟨u,rv,?_⟩
  rcases S.par y (List.mem_of_getElem? hp) with k | k
  ·exact .inl ⟨k,Yr ndP hp hu k⟩
  ·obtain ⟨c,e⟩:=Xv (n:=s.heap.objs.size + 1) k
   refine .inr ⟨.inl k,c,e,?_⟩
   have q:=x.cell y c e
   rw [Ys ndP hp hu (by show scope.names.lookup y≠_;rw [k];decide)] at q
   exact q
 ·exact e0.hok.fresh (Nat.le_of_lt (x.above y c (PySem.mem_of_lookup h)))
 ·unfold start
  show _=N.length
  rw [List.length_append,List.length_map,List.length_replicate]
  lia
theorem zak {CX:CXT} {P:Program} {w:World} {K:PySem.W.Frag} {mg:Str→Option Value} {base:Heap} {k:Nat} {f:Addr} {name qual:Str} {params:Arguments} {body:List Stmt} {scope:Scope} {dV kV doc pm cdv ct oc:Value} {an od:Option Addr}
  {osl:Array (Option Value)} {N ps:List Str} {sp:Sp} (lk:K.lookup f=some ⟨oc,od,.func (PySem.W.fnOf name qual params body scope dV kV doc pm an cdv ct),osl⟩) (hcd:PySem.W.codeIn K cdv qual=true) (S:zC N ps scope)
  (len:∀ vs H Q E,sp vs H Q E→vs.length=ps.length)
  (hbody:∀ (A:Around) (outer:List Env) (s:Shared) (H:Hp) (vs:List V) (Q:VK) (E:XK),Room k (A.deeper (envOfC qual scope s.heap.objs.size f cdv))→sp vs H Q E →
   ∃ t,PSs (jU CX P w K mg base N qual scope f cdv A outer s H E) body t∧t { nx:=fun _ H'=>Q .non H',rt:=Q } (start N vs) H) :
  FnOk P w K mg base CX (k + 1) f (PySem.W.fnOf name qual params body scope dV kV doc pm an cdv ct) ps sp:=by
 refine ⟨len,fun A outer s H args us vs Q E hr e0 hb r hsp=>?_⟩
 have hl:=len _ _ _ _ hsp
 have KX:K.In s.heap:=e0.mod.kin.keeps fun b o e=>(e0.bs b o e).1
 have lim:s.heap.NoLimit:=e0.mod.nolimit.keeps fun b o e=>(e0.bs b o e).1
 have hkind:∀ y∈ps.zip us,scope.names.lookup y.1=some .local∨(scope.names.lookup y.1=some .cell∧((cellsFrom (s.heap.objs.size + 1) scope.names []).lookup y.1).isSome=true):=fun ⟨n,v⟩ hy=>by
  rcases S.par n (List.of_mem_zip hy).1 with q | q
  ·exact .inl q
  ·exact .inr ⟨q,PySem.W.cellsFrom_some _ _ _ (.inl q)⟩
 refine codeAny_call_function hr.depth (KX _ _ lk) rfl S.co S.gen rfl (PySem.W.codeRec_of KX hcd) (hb _ _ _ _ ?_)
 refine wpAny_newFunctionEnv_cells S.kind hkind fun env he s1 x=>?_
 subst he
 refine ⟨lim.keeps x.toInCall.keep,codeAny_func ?_⟩
 obtain ⟨t,ht,hq⟩:=hbody A outer s H vs Q E (hr.deeper _) hsp
 have I:Inv (jU CX P w K mg base N qual scope f cdv A outer s H E) [] (start N vs) H s1:=Vs S hr.hd e0 hl r x
 refine wpAny_mono (ht [] s1 (start N vs) H _ I hq) (fun fl s' hs=>?_) fun e s' hs=>hs
 have fin:∀ {σ':St} {H':Hp} {v:V} {u:Value},Inv (jU CX P w K mg base N qual scope f cdv A outer s H E) [] σ' H' s'→RelV v u→Q v H'→CE outer P w H s Q u s' :=
  fun {σ' H' v u} J rv q=>⟨v,H',J.os,J.bare,J.base,J.hok,rv,q⟩
 cases fl with
 | ret u =>
  obtain ⟨v,σ',H',J,rv,q⟩:=hs
  exact fin J rv q
 | next =>
  obtain ⟨σ',H',J,q⟩:=hs
  exact fin (v:=V.non) (u:=Value.none) J rfl q
 | brk =>
  obtain ⟨_,_,_,q⟩:=hs
  exact False.elim q
 | cont =>
  obtain ⟨_,_,_,q⟩:=hs
  exact False.elim q
end L2
namespace L2
open PySem PySem.Spec PyProof.Rows
section
variable {X:Cx} {x:Str} {p pos:Pos} {e:Expr} {es:List Expr} {t:TA} {id T:String} {r:List V→Hp→VK→Prop}
def tCB (r:List V→Hp→VK→Prop) (t:TA):TE:=fun σ H Q=>t σ H fun vs H1=>r vs H1 Q
theorem zF (hc:qF X (.builtin id) r) (hg:Gl X x) (hm:X.mg x=none) (hv:bootBuiltins x=some (.builtin id)) (ha:PA X (e :: es) t) (hn:x≠"__name__":=by decide) (hdb:(x == ("__debug__":Str))=false:=by decide)
  (he:starEach (e :: es) X.env=(false,eval e X.env) :: starEach es X.env:=by rfl) (hpl:(backTo pos (starEach es X.env)).any (·.1)=false:=by rfl):PE X (.Call (.Name x p) (e :: es) [] pos) (tCB r t):=by
 intro pins s σ H Q I h
 refine wpAny_Call_Name_kw (k9 I hg hm hv ?_ hn hdb)
 exact PyProof.Rows.callWith_builtin1 (thn (ha pos pins s σ H _ I h) fun us s1 ⟨vs,H1,I1,r1,q1⟩=>hc pins s1 σ H1 vs us Q I1 r1 q1) he hpl
theorem jP (hc:qF X (.type T) r) (hg:Gl X x) (hm:X.mg x=none) (hv:bootBuiltins x=some (.type T)) (ha:PA X (e :: es) t) (hn:x≠"__name__":=by decide) (hdb:(x == ("__debug__":Str))=false:=by decide)
  (he:starEach (e :: es) X.env=(false,eval e X.env) :: starEach es X.env:=by rfl) (hpl:(backTo pos (starEach es X.env)).any (·.1)=false:=by rfl):PE X (.Call (.Name x p) (e :: es) [] pos) (tCB r t):=by
 intro pins s σ H Q I h
 refine wpAny_Call_Name_kw (k9 I hg hm hv ?_ hn hdb)
 exact PyProof.Rows.callWith_type1 (thn (ha pos pins s σ H _ I h) fun us s1 ⟨vs,H1,I1,r1,q1⟩=>hc pins s1 σ H1 vs us Q I1 r1 q1) he hpl
end
end L2
namespace HT
open PySem PyProof.Rows
def zal:List Int→List Int→Bool
 | [],[]=>false
 | [],_ :: _=>true
 | _ :: _,[]=>false
 | x :: xs,y :: ys=>if x=y then zal xs ys else decide (x < y)
section
open PySem.SeqAt
open PySem.AutoSeq1 (wpAny_loadPart')
open PySem.MeetsSeq PySem.MeetsSeq2 PySem.MeetsSeq3
end
section
variable {prog:Program} {w:World} {A:Around} {E:Value→Shared→Prop} {s:Shared}
theorem cat_tup {t b:Addr} {vs ws:List Value} {Q:Value→Shared→Prop} (ht:IsTup s.heap t vs.toArray) (hb:IsTup s.heap b ws.toArray) (hv:vs≠[])
  (h1:ws=[]→Q (.ref t) s) (h2:ws≠[]→Q (.ref s.heap.objs.size) { s with heap:=s.heap.push { cls:=.type "tuple",data:=.seq (vs ++ ws).toArray } })
  (hsz:vs.length + ws.length≤sizeLine):wpAny (model prog w) A (binaryOp .Add (.ref t) (.ref b)) Q E s:=by
 obtain ⟨⟨cls,dd,data,sl⟩,ho,hc,n,hd⟩:=id ht
 obtain ⟨⟨cls2,dd2,data2,sl2⟩,ho2,hc2,n2,hd2⟩:=id hb
 simp only at hc hd hc2 hd2
 subst hc hd hc2 hd2
 have e:vs.toArray ++ ws.toArray=(vs ++ ws).toArray:=by simp
 by_cases hw:ws=[]
 ·exact concat_meets ⟨_,ho,rfl⟩ ⟨_,ho2,rfl⟩ noFill_tuple_add seq_tuple_add PySem.F.slot_tuple_add PySem.F.entry_tuple_add (PySem.F.args_tuple_add_2 _ _)
   (tuple_addW1 t b vs.toArray ws.toArray n n2 dd dd2 sl sl2 (by simpa using hv) (by simp [hw])) ⟨ho,ho2,h1 hw⟩
 ·refine concat_meets ⟨_,ho,rfl⟩ ⟨_,ho2,rfl⟩ noFill_tuple_add seq_tuple_add PySem.F.slot_tuple_add PySem.F.entry_tuple_add (PySem.F.args_tuple_add_2 _ _)
   (tuple_addW2 t b vs.toArray ws.toArray n n2 dd dd2 sl sl2 (by simpa using hv) (by simpa using hw) (by rw [List.size_toArray,List.size_toArray];exact hsz)) ⟨ho,ho2,?_⟩
  rw [e]
  exact h2 hw
def sIx (n d:Nat):Option Int→Nat
 | none=>d
 | some v=>if v < 0 then (v + (n:Int)).toNat else min v.toNat n
theorem sIx_none (n d:Nat):sIx n d none=d:=rfl
theorem sIx_nat (n d k:Nat):sIx n d (some (k:Int))=min k n:=by
 show (if (k:Int) < 0 then ((k:Int) + (n:Int)).toNat else min (k:Int).toNat n)=min k n
 rw [if_neg (by lia),Int.toNat_natCast]
theorem sIx_le (n d:Nat) (hd:d≤n) (o:Option Int):sIx n d o≤n:=by
 cases o with
 | none=>exact hd
 | some v =>
  show (if v < 0 then (v + (n:Int)).toNat else min v.toNat n)≤n
  by_cases hv:v < 0
  ·rw [if_pos hv];lia
  ·rw [if_neg hv];exact Nat.min_le_right _ _
theorem WZ (v:Int) (n d:Nat):(if v < 0 then max (v + (n:Int)) 0 else min v (n:Int))=((sIx n d (some v):Nat):Int):=by
 show (if v < 0 then max (v + (n:Int)) 0 else min v (n:Int))=(((if v < 0 then (v + (n:Int)).toNat else min v.toNat n):Nat):Int)
 by_cases hv:v < 0
 ·simp only [if_pos hv];lia
 ·simp only [if_neg hv];lia
theorem Wq (lo hi:Option Int) (n:Nat):Builtin.Slice.sliceAdjust lo hi 1 (n:Int)=(((sIx n 0 lo:Nat):Int),((sIx n n hi:Nat):Int)):=by
 have h1:¬ ((1:Int) < 0):=by lia
 unfold Builtin.Slice.sliceAdjust
 simp only [h1,if_false]
 refine Prod.ext ?_ ?_
 ·cases lo with
  | none=>rfl
  | some v=>exact WZ v n 0
 ·cases hi with
  | none=>rfl
  | some v=>exact WZ v n n
theorem Wr (i j:Nat):Builtin.Slice.slicePlaces (i:Int) (j:Int) 1=j - i:=by
 unfold Builtin.Slice.slicePlaces
 have h1:(1:Int) > 0:=by lia
 simp only [h1,if_true,Int.ediv_one]
 split <;> lia
theorem Zt {v:Value} {o:Option Int} {Q:Option Int→Shared→Prop} (p:IsPart v o) (h:Q o s):wpAny (model prog w) A (Builtin.Slice.slicePartIndex v) Q E s:=by
 cases p with
 | none=>exact slicePart_none h
 | int i t=>exact slicePart_int h
theorem vx {sl:Addr} {vl vu:Value} {lo hi:Option Int} {n:Nat} {Q:Int × Int × Nat→Shared→Prop} (hs:s.heap.IsSliceOf sl vl vu .none) (pl:IsPart vl lo) (pu:IsPart vu hi)
  (h:Q (((sIx n 0 lo:Nat):Int),1,sIx n n hi - sIx n 0 lo) s):wpAny (model prog w) A (Builtin.Slice.sliceApplied (.ref sl) (pure (n:Int))) Q E s:=by
 obtain ⟨os,hos,hcs,hds⟩:=id hs
 unfold Builtin.Slice.sliceApplied Builtin.Slice.sliceFields
 refine wpAny_bind (wpAny_bind (wpAny_field hos hds (x:=vl) rfl (wpAny_bind (wpAny_field hos hds (x:=vu) rfl (wpAny_bind (wpAny_field hos hds (x:=.none) rfl (wpAny_pure ?_)))))))
 refine wpAny_bind (slicePart_none ?_)
 show wpAny _ _ (if ((1:Int) == 0)=true then _ else _) _ _ s
 rw [if_neg (by decide)]
 refine wpAny_bind (Zt pl (wpAny_bind (Zt pu (wpAny_bind (wpAny_pure ?_)))))
 show wpAny _ _ (match Builtin.Slice.sliceAdjust lo hi 1 (n:Int) with | (lo,hi)=>pure (lo,(1:Int),Builtin.Slice.slicePlaces lo hi 1)) _ _ s
 rw [Wq lo hi n]
 show wpAny _ _ (pure (((sIx n 0 lo:Nat):Int),(1:Int),Builtin.Slice.slicePlaces ((sIx n 0 lo:Nat):Int) ((sIx n n hi:Nat):Int) 1)) _ _ s
 rw [Wr]
 exact wpAny_pure h
theorem V4 (xs:Array Value) (i k:Nat):((List.range k).filterMap fun (m:Nat)=>xs[((i:Int) + (m:Int) * 1).toNat]?).toArray=((xs.toList.drop i).take k).toArray:=by
 have e:(fun (m:Nat)=>xs[((i:Int) + (m:Int) * 1).toNat]?)=fun m=>xs[i + m]?:=by
  funext m
  have:((i:Int) + (m:Int) * 1).toNat=i + m:=by lia
  rw [this]
 rw [e]
 have:=pick_run xs i k
 rw [List.filterMap_map] at this
 have e2:((fun x=>xs[x]?) ∘ fun x=>i + x)=fun m=>xs[i + m]?:=rfl
 rw [e2] at this
 rw [this]
theorem getItem_tuple_cut {t sl:Addr} {items:Array Value} {vl vu:Value} {lo hi:Option Int} {Q:Value→Shared→Prop} (ht:IsTup s.heap t items) (hs:s.heap.IsSliceOf sl vl vu .none) (pl:IsPart vl lo) (pu:IsPart vu hi)
  (hw:¬ (sIx items.size 0 lo=0∧sIx items.size items.size hi=items.size))
  (h:Q (.ref s.heap.objs.size) { s with heap:=s.heap.push { cls:=.type "tuple",data:=.seq ((items.toList.drop (sIx items.size 0 lo)).take (sIx items.size items.size hi - sIx items.size 0 lo)).toArray } })
  (hsz:items.size≤sizeLine):wpAny (model prog w) A (getItem (.ref t) (.ref sl)) Q E s:=by
 have htake:sizeOk (.seq ((items.toList.drop (sIx items.size 0 lo)).take (sIx items.size items.size hi - sIx items.size 0 lo)).toArray):=by
  show ((items.toList.drop (sIx items.size 0 lo)).take (sIx items.size items.size hi - sIx items.size 0 lo)).toArray.size≤sizeLine
  rw [List.size_toArray,List.length_take,List.length_drop,Array.length_toList]
  lia
 have hj:sIx items.size items.size hi≤items.size:=sIx_le _ _ (Nat.le_refl _) hi
 obtain ⟨os,hos,hcs,hds⟩:=id hs
 have hTs:s.TypeIs (.ref sl) "slice":=⟨os,hos,hcs⟩
 unfold getItem
 try with_reducible refine wpAny_holding ?_
 first | refine wpAny_bind (wpAny_pure ?_) | skip
 refine wpAny_bind (wpAny_sequenceKey ht.typeIs (by decide) ?_)
 refine wpAny_bind (wpAny_callSpecial?_slot (name:=Str.ofString "__getitem__") ht.typeIs PyProof.Rows.slot_tuple_getitem
  (wpAny_call_entry PyProof.Rows.slot_tuple_getitem ht.typeIs entry_tuple_getitem ?_ (args_tuple_getitem _ _)))
 show wpAny _ _ (Builtin.Tuple.tupleItemsOf (.ref t) >>= _) _ _ s
 refine wpAny_bind (tupleItemsOf_ ht ?_)
 refine wpAny_bind (wpAny_typeOf hTs ?_)
 rw [if_pos (by decide)]
 refine wpAny_bind (vx hs pl pu ?_)
 have hno:¬ ((((sIx items.size 0 lo:Nat):Int) == 0 && (1:Int) == 1 && (sIx items.size items.size hi - sIx items.size 0 lo) == items.size)=true):=by
  intro q
  rw [Bool.and_eq_true,Bool.and_eq_true] at q
  have q1:((sIx items.size 0 lo:Nat):Int)=0:=eq_of_beq q.1.1
  have q2:sIx items.size items.size hi - sIx items.size 0 lo=items.size:=eq_of_beq q.2
  exact hw ⟨by lia,by lia⟩
 show wpAny _ _ (if (((sIx items.size 0 lo:Nat):Int) == 0 && (1:Int) == 1 && (sIx items.size items.size hi - sIx items.size 0 lo) == items.size)=true then _ else _) _ _ s
 rw [if_neg hno,V4]
 first
  | exact wpAny_bind (m:=Builtin.Tuple.tupleExact _) (wpAny_newObj_type (wpAny_pure ⟨_,rfl,wpAny_pure h⟩) htake)
  | exact wpAny_bind (m:=Builtin.Tuple.tupleExact _) (wpAny_newObj_type (wpAny_bind (wpAny_pure (wpAny_pure ⟨_,rfl,wpAny_pure h⟩))) htake)
  | exact wpAny_bind (wpAny_bind (m:=Builtin.Tuple.tupleExact _) (wpAny_newObj_type (wpAny_pure (wpAny_pure ⟨_,rfl,wpAny_pure h⟩)) htake))
  | exact wpAny_bind (wpAny_bind (m:=Builtin.Tuple.tupleExact _) (wpAny_newObj_type (wpAny_pure ⟨_,rfl,wpAny_pure h⟩) htake))
end
end HT
namespace L2
open PySem PySem.Spec PyProof.Rows
abbrev TO:=St→Hp→(Option Int→Hp→Prop)→Prop
def PO (X:Cx) (e:Option Expr) (t:TO):Prop :=
 ∀ (pins:List (Addr × Obj)) (s:Shared) (σ:St) (H:Hp) (Q:Option Int→Hp→Prop),Inv X pins σ H s→t σ H Q →
  wpAny (model X.prog X.w) X.A (evalPart e X.env) (fun u s'=>∃ o H',Inv X pins σ H' s'∧IsPart u o∧Q o H') X.xe s
def xD:TO:=fun _ H Q=>Q none H
def xz (t:TE):TO:=fun σ H Q=>t σ H fun x H1=>∃ i,x=.int i∧Q (some i) H1
section
variable {X:Cx} {e:Expr} {te:TE} {lo hi:Option Expr} {tl th:TO} {pos p2:Pos}
theorem kD:PO X none xD:=by
 intro pins s σ H Q I h
 rw [evalPart_none]
 exact wpAny_pure ⟨none,H,I,.none,h⟩
theorem wI (h:PE X e te):PO X (some e) (xz te):=by
 intro pins s σ H Q I hw
 rw [evalPart_some]
 refine thn (h pins s σ H _ I hw) fun u s1 ⟨x,H1,I1,r1,q1⟩=>?_
 obtain ⟨i,rfl,q⟩:=q1
 obtain ⟨t,rfl⟩:=r1
 exact ⟨some i,H1,I1,.int i t,q⟩
def SlR (X:Cx) (r:V→Option Int→Option Int→Hp→VK→Prop):Prop :=
 ∀ (pins:List (Addr × Obj)) (s:Shared) (σ:St) (H:Hp) (x:V) (v vl vu:Value) (lo hi:Option Int) (sl:Addr) (Q:VK),Inv X pins σ H s→RelV x v→s.heap.IsSliceOf sl vl vu .none→IsPart vl lo→IsPart vu hi→r x lo hi H Q →
  ∃ T id,typeLookup (.type T) "__getitem__"=pure (some (.builtin id))∧s.TypeIs v T∧wpAny (model X.prog X.w) X.A (getItem v (.ref sl)) (EP X pins σ Q) X.xe s
def tSl (r:V→Option Int→Option Int→Hp→VK→Prop) (te:TE) (tl th:TO):TE:=fun σ H Q=>te σ H fun x H1=>tl σ H1 fun l H2=>th σ H2 fun u H3=>r x l u H3 Q
theorem wS {r:V→Option Int→Option Int→Hp→VK→Prop} (hr:SlR X r) (he:PE X e te) (hl:PO X lo tl) (hu:PO X hi th):PE X (.Subscript e (.Slice lo hi none p2) pos) (tSl r te tl th):=by
 intro pins s σ H Q I h
 refine Subscript_ (thn (he pins s σ H _ I h) fun v s1 ⟨x,H1,I1,r1,q1⟩=>?_)
 refine wpAny_Slice (thn (hl pins s1 σ H1 _ I1 q1) fun vl s2 ⟨l,H2,I2,pl,q2⟩=>thn (hu pins s2 σ H2 _ I2 q2) fun vu s3 ⟨u,H3,I3,pu,q3⟩=>?_)
 rw [evalPart_none]
 refine wpAny_pure ?_
 have I4:Inv X pins σ H3 { s3 with heap:=s3.heap.push { cls:=.type "slice",data:=.fields #[vl,vu,.none] } }:=I3.kept (t':=s3.toks) fun b ob q=>Heap.get?_push_of_some _ q
 obtain ⟨T,id,hT,ht,hg⟩:=hr pins { s3 with heap:=s3.heap.push { cls:=.type "slice",data:=.fields #[vl,vu,.none] } } σ H3 x v vl vu l u s3.heap.objs.size Q I4 r1 (Heap.IsSliceOf.new ..) pl pu q3
 show wpAny (model X.prog X.w) X.A (subscriptTail e (.Slice lo hi none p2) v (.ref s3.heap.objs.size)) (EP X pins σ Q) X.xe { s3 with heap:=s3.heap.push { cls:=.type "slice",data:=.fields #[vl,vu,.none] } }
 exact tail_any (ops:=[.ref s3.heap.objs.size,v]) ht hT hg (by with_unfolding_all rfl)
def j9 (xs:List V) (lo hi:Option Int):List V:=(xs.drop (HT.sIx xs.length 0 lo)).take (HT.sIx xs.length xs.length hi - HT.sIx xs.length 0 lo)
theorem qJ (xs:List V) (lo hi:Option Int):(j9 xs lo hi).length≤xs.length:=by
 unfold j9
 rw [List.length_take,List.length_drop]
 lia
def zaJ (K:PySem.W.Frag):V→Option Int→Option Int→Hp→VK→Prop:=fun x lo hi H Q=>∃ a xs,x=.ref a∧SqT K H a xs ∧
 ¬ (HT.sIx xs.length 0 lo=0∧HT.sIx xs.length xs.length hi=xs.length)∧∀ p,H p=none→Q (.ref p) (upd H p (.tup (j9 xs lo hi)))
theorem QL:SlR X (zaJ X.K):=by
 intro pins s σ H x v vl vu lo hi sl Q I rx hs pl pu h
 obtain ⟨a,xs,rfl,hx,hw,q⟩:=h
 cases rx
 obtain ⟨its,r,ht,hz⟩:=I.tuple hx
 have hlen:its.toArray.size=xs.length:=by rw [List.size_toArray];exact r.length.symm
 refine ⟨"tuple",_,PyProof.Rows.slot_tuple_getitem.lookup,ht.typeIs,?_⟩
 refine HT.getItem_tuple_cut ht hs pl pu (by rw [hlen];exact hw) ?_ (by rw [hlen];exact hz)
 rw [hlen]
 refine ⟨.ref s.heap.objs.size,_,I.laid (t':=s.toks) (o:=.tup (j9 xs lo hi)) (fun b ob q=>Heap.get?_push_of_some _ q) (Nat.le_refl _) ?_,rfl,q _ (I.hok.fresh (Nat.le_refl _))⟩
 exact ⟨Nat.le_trans (qJ xs lo hi) hz,_,(r.drop (HT.sIx xs.length 0 lo)).take (HT.sIx xs.length xs.length hi - HT.sIx xs.length 0 lo),IsTup.new _ _⟩
def Zu (K:PySem.W.Frag):R2:=fun x y H Q=>∃ a b xs ys,x=.ref a∧y=.ref b∧SqT K H a xs∧SqT K H b ys∧xs≠[]∧xs.length + ys.length≤sizeLine ∧
 (ys=[]→Q (.ref a) H)∧(ys≠[]→∀ p,H p=none→Q (.ref p) (upd H p (.tup (xs ++ ys))))
theorem Vals.nil_iff {xs:List V} {us:List Value} (r:Vals xs us):us=[]↔xs=[]:=by
 cases r with
 | nil=>simp
 | cons _ _=>simp
theorem YS:OpR X (binaryOp .Add) (Zu X.K):=by
 intro pins s σ H x y v u Q I rx ry h
 obtain ⟨a,b,xs,ys,rfl,rfl,ha,hb,hx,hz,q1,q2⟩:=h
 cases rx
 cases ry
 obtain ⟨its,r1,p1,_⟩:=I.tuple ha
 obtain ⟨its2,r2,p2,_⟩:=I.tuple hb
 refine HT.cat_tup p1 p2 (fun z=>hx (r1.nil_iff.mp z)) (fun z=>⟨.ref a,H,I,rfl,q1 (r2.nil_iff.mp z)⟩) (fun z=>?_) (by rw [← r1.length,← r2.length];exact hz)
 refine ⟨.ref s.heap.objs.size,_,I.laid (t':=s.toks) (o:=.tup (xs ++ ys)) (fun b ob q=>Heap.get?_push_of_some _ q) (Nat.le_refl _) ?_,rfl,q2 (fun w=>z (r2.nil_iff.mpr w)) _ (I.hok.fresh (Nat.le_refl _))⟩
 exact ⟨by rw [List.length_append];exact hz,_,r1.append r2,IsTup.new _ _⟩
end
end L2
namespace L2
open PySem PySem.Spec PyProof.Rows
def ixN (n:Nat) (i:Int):Option Nat:=if 0≤i then (if i < n then some i.toNat else none) else if -(n:Int)≤i then some (i + n).toNat else none
def atI {α:Type} (xs:List α) (i:Int):Option α:=(ixN xs.length i).bind fun j=>xs[j]?
theorem Ky {n:Nat} {i:Int} {j:Nat} (h:ixN n i=some j):seqIndex? i n=some j∧j < n∧-(n:Int)≤i∧i < n:=by
 unfold ixN at h
 by_cases h0:0≤i
 ·rw [if_pos h0] at h
  by_cases h1:i < n
  ·rw [if_pos h1] at h
   have e:i.toNat=j:=Option.some.inj h
   exact ⟨by rw [seqIndex_of h0 h1,e],by lia,by lia,h1⟩
  ·rw [if_neg h1] at h;cases h
 ·rw [if_neg h0] at h
  by_cases h1:-(n:Int)≤i
  ·rw [if_pos h1] at h
   have e:(i + n).toNat=j:=Option.some.inj h
   exact ⟨by rw [seqIndex_neg (by lia) h1,e],by lia,h1,by lia⟩
  ·rw [if_neg h1] at h;cases h
theorem W0 {α:Type} {xs:List α} {i:Int} {v:α} (h:atI xs i=some v):∃ j,seqIndex? i xs.length=some j∧xs[j]?=some v∧j < xs.length∧-(xs.length:Int)≤i∧i < xs.length:=by
 unfold atI at h
 cases e:ixN xs.length i with
 | none=>rw [e] at h;cases h
 | some j =>
  rw [e] at h
  obtain ⟨h1,h2,h3,h4⟩:=Ky e
  exact ⟨j,h1,h,h2,h3,h4⟩
theorem Kz {α:Type} {xs:List α} {j:Nat} {v:α} (h:xs[j]?=some v):atI xs (j:Int)=some v:=by
 have hj:j < xs.length:=(List.getElem?_eq_some_iff.mp h).1
 have e:ixN xs.length (j:Int)=some j:=by
  unfold ixN
  rw [if_pos (by lia),if_pos (by lia)];simp
 unfold atI;rw [e];exact h
def KA (b:Expr):Prop:=∀ o i,subscripted b false o i=operate [o,i] (getItem o i)
def IxR (X:Cx) (r:R2):Prop :=
 ∀ (value slice:Expr) (pins:List (Addr × Obj)) (s:Shared) (σ:St) (H:Hp) (x y:V) (v u:Value) (Q:VK),Inv X pins σ H s→RelV x v→RelV y u→r x y H Q →
  subscripted slice false v u=operate [v,u] (getItem v u)→wpAny (model X.prog X.w) X.A (subscriptTail value slice v u) (EP X pins σ Q) X.xe s
def MtR (X:Cx) (id:String) (r:V→List V→Hp→VK→Prop):Prop :=
 ∀ (pins:List (Addr × Obj)) (s:Shared) (σ:St) (H:Hp) (x:V) (xs:List V) (v:Value) (us:List Value) (Q:VK),Inv X pins σ H s→RelV x v→Vals xs us→r x xs H Q →
  wpAny (model X.prog X.w) X.A (call (.builtin id) (v :: us)) (EP X pins σ Q) X.xe s
section
variable {X:Cx} {a b:Expr} {ta tb:TE} {pos:Pos}
theorem ya {r:R2} (hr:IxR X r) (ha:PE X a ta) (hb:PE X b tb) (hs:KA b):PE X (.Subscript a b pos) (tOp r ta tb):=by
 intro pins s σ H Q I h
 exact Subscript_ (QJ ha hb I h fun v u s2 x y H2 I2 rx ry q=>hr a b pins s2 σ H2 x y v u Q I2 rx ry q (hs _ _))
def xP (K:PySem.W.Frag):R2:=fun x y H Q=>∃ p xs i v,x=.ref p∧y=.int i∧SqL K H p xs∧atI xs i=some v∧Q v H
def zV (K:PySem.W.Frag):R2:=fun x y H Q=>∃ p xs i v,x=.ref p∧y=.int i∧SqT K H p xs∧atI xs i=some v∧Q v H
def zbL:R2:=fun x y H Q=>∃ z i c,x=.str z∧y=.int i∧z.length≤sizeLine∧atI z.cps.toList i=some c∧Q (.str ⟨#[c]⟩) H
theorem xg:IxR X (xP X.K):=by
 intro value slice pins s σ H x y v u Q I rx ry h hs
 obtain ⟨p,xs,i,z,rfl,rfl,hq,he,q⟩:=h
 cases rx
 obtain ⟨t,rfl⟩:=ry
 obtain ⟨its,r,pl,hz⟩:=I.list hq
 obtain ⟨j,h1,h2,h3,h4,h5⟩:=W0 he
 obtain ⟨w,ew,rw'⟩:=r.get h2
 have hl:=r.length
 have hn:=Wm
 have fin:EP X pins σ Q w s:=⟨z,H,I,rw',q⟩
 by_cases h0:0≤i
 ·have hj:i.toNat=j:=by
   rw [seqIndex_of h0 h5] at h1
   exact Option.some.inj h1
  exact item_listR pl.isList h0 (by lia) (by rw [hj];simpa using ew) fin hs
 ·have hj:(i + (its.toArray.size:Int)).toNat=j:=by
   rw [seqIndex_neg (by lia) h4] at h1
   rw [List.size_toArray,← hl]
   exact Option.some.inj h1
  exact subscriptTail_builtinR (x:=w) pl.isList.typeIs slot_list_getitem.lookup
   (wpAny_getItem_list_neg (Q:=fun r s'=>r=w∧EP X pins σ Q r s') pl.isList (by lia) (by rw [List.size_toArray] <;> lia) (by lia) (by rw [hj];simpa using ew) ⟨rfl,fin⟩) hs
theorem ym:IxR X (zV X.K):=by
 intro value slice pins s σ H x y v u Q I rx ry h hs
 obtain ⟨p,xs,i,z,rfl,rfl,hq,he,q⟩:=h
 cases rx
 obtain ⟨t,rfl⟩:=ry
 obtain ⟨its,r,pl,hz⟩:=I.tuple hq
 obtain ⟨j,h1,h2,h3,h4,h5⟩:=W0 he
 obtain ⟨w,ew,rw'⟩:=r.get h2
 have hl:=r.length
 have hn:=Wm
 have fin:EP X pins σ Q w s:=⟨z,H,I,rw',q⟩
 exact subscriptTail_builtinR (x:=w) pl.typeIs slot_tuple_getitem.lookup
  (getItem_tuple (j:=j) (Q:=fun r s'=>r=w∧EP X pins σ Q r s') pl (by lia) (by lia) (by rw [List.size_toArray,← hl];exact h1) (by simpa using ew) ⟨rfl,fin⟩) hs
theorem YT (lo hi:Option Int) (n:Nat):(sliceBounds lo hi none n).1=((HT.sIx n 0 lo:Nat):Int)∧(sliceBounds lo hi none n).2.1=((HT.sIx n n hi:Nat):Int)∧(sliceBounds lo hi none n).2.2=1:=by
 refine ⟨?_,?_,rfl⟩
 ·cases lo with
  | none=>simp [sliceBounds,HT.sIx]
  | some i =>
   simp only [sliceBounds,HT.sIx,Option.getD_none,show (1:Int) > 0 by decide,if_true]
   by_cases h:i < 0
   ·simp only [h,if_true] <;> lia
   ·simp only [h,if_false] <;> lia
 ·cases hi with
  | none=>simp [sliceBounds,HT.sIx]
  | some i =>
   simp only [sliceBounds,HT.sIx,Option.getD_none,show (1:Int) > 0 by decide,if_true]
   by_cases h:i < 0
   ·simp only [h,if_true] <;> lia
   ·simp only [h,if_false] <;> lia
theorem Z7 (its:List Value) (lo hi:Option Int):slicePick its.toArray lo hi none=((its.drop (HT.sIx its.length 0 lo)).take (HT.sIx its.length its.length hi - HT.sIx its.length 0 lo)).toArray:=by
 obtain ⟨h1,h2,h3⟩:=YT lo hi its.toArray.size
 unfold slicePick
 rw [h1,h2,h3]
 simp only [sliceRange_one,pick_run,List.size_toArray] <;> rfl
def Zv (K:PySem.W.Frag):V→Option Int→Option Int→Hp→VK→Prop:=fun x lo hi H Q=>∃ a xs,x=.ref a∧SqL K H a xs∧∀ p,H p=none→Q (.ref p) (upd H p (.lst (j9 xs lo hi)))
theorem Zd:SlR X (Zv X.K):=by
 intro pins s σ H x v vl vu lo hi sl Q I rx hs pl pu h
 obtain ⟨a,xs,rfl,hx,q⟩:=h
 cases rx
 obtain ⟨its,r,ht,hz⟩:=I.list hx
 have hlen:=r.length
 refine ⟨"list",_,slot_list_getitem.lookup,ht.isList.typeIs,?_⟩
 refine wpAny_getItem_list_slice ht.isList hs pl pu .none (by simp) ?_ (by rw [List.size_toArray] <;> lia)
 rw [Z7,← hlen]
 refine ⟨.ref s.heap.objs.size,_,I.laid (t':=s.toks) (o:=.lst (j9 xs lo hi)) (fun b ob q=>Heap.get?_push_of_some _ q) (Nat.le_refl _) ?_,rfl,q _ (I.hok.fresh (Nat.le_refl _))⟩
 exact ⟨Nat.le_trans (qJ xs lo hi) hz,_,0,(r.drop (HT.sIx xs.length 0 lo)).take (HT.sIx xs.length xs.length hi - HT.sIx xs.length 0 lo),Heap.get?_push_size _ rfl⟩
def qK:V→Bool
 | .non=>true
 | .bl _=>true
 | .int _=>true
 | .str _=>true
 | _=>false
def eqV:V→V→Bool
 | .non,.non=>true
 | .bl a,.bl b=>a == b
 | .bl a,.int b=>(if a then 1 else 0) == b
 | .int a,.bl b=>a == (if b then 1 else 0)
 | .int a,.int b=>a == b
 | .str a,.str b=>a == b
 | _,_=>false
theorem QM {A:Around} {s:Shared} {y x:V} {u v:Value} (ry:RelV y u) (rx:RelV x v) (fy:qK y=true) (fx:qK x=true):SeqAt.EqAt A s u v (eqV y x):=by
 cases y with
 | non =>
  cases ry
  cases x with
  | non=>cases rx;exact SeqAt.EqAt.same _
  | bl b=>cases rx;exact SeqAt.EqAt.none_bool b
  | int b=>obtain ⟨t,rfl⟩:=rx;exact SeqAt.EqAt.none_int b t
  | str b=>obtain ⟨t,rfl⟩:=rx;exact SeqAt.EqAt.none_str b t
  | _=>exact absurd (show false=true from fx) Bool.false_ne_true
 | bl a =>
  cases ry
  cases x with
  | non=>cases rx;exact SeqAt.EqAt.bool_none a
  | bl b=>cases rx;exact SeqAt.EqAt.bool_bool a b
  | int b=>obtain ⟨t,rfl⟩:=rx;exact SeqAt.EqAt.bool_int a b t
  | str b=>obtain ⟨t,rfl⟩:=rx;exact SeqAt.EqAt.bool_str a b t
  | _=>exact absurd (show false=true from fx) Bool.false_ne_true
 | int a =>
  obtain ⟨t',rfl⟩:=ry
  cases x with
  | non=>cases rx;exact SeqAt.EqAt.int_none a t'
  | bl b=>cases rx;exact SeqAt.EqAt.int_bool a t' b
  | int b=>obtain ⟨t,rfl⟩:=rx;exact SeqAt.EqAt.int_int a t' b t
  | str b=>obtain ⟨t,rfl⟩:=rx;exact SeqAt.EqAt.int_str a t' b t
  | _=>exact absurd (show false=true from fx) Bool.false_ne_true
 | str a =>
  obtain ⟨t',rfl⟩:=ry
  cases x with
  | non=>cases rx;exact SeqAt.EqAt.str_none a t'
  | bl b=>cases rx;exact SeqAt.EqAt.str_bool a t' b
  | int b=>obtain ⟨t,rfl⟩:=rx;exact SeqAt.EqAt.str_int a t' b t
  | str b=>obtain ⟨t,rfl⟩:=rx;exact SeqAt.EqAt.str_str a t' b t
  | _=>exact absurd (show false=true from fx) Bool.false_ne_true
 | _=>exact absurd (show false=true from fy) Bool.false_ne_true
def eqU (x:V) (u:Value):Bool:=match u with
 | .none=>eqV .non x
 | .bool b=>eqV (.bl b) x
 | .int i _=>eqV (.int i) x
 | .str z _=>eqV (.str z) x
 | _=>false
theorem V5 {x y:V} {u:Value} (r:RelV y u) (f:qK y=true):eqU x u=eqV y x:=by
 cases y with
 | non=>cases r;rfl
 | bl b=>cases r;rfl
 | int i=>obtain ⟨t,rfl⟩:=r;rfl
 | str z=>obtain ⟨t,rfl⟩:=r;rfl
 | _=>exact absurd (show false=true from f) Bool.false_ne_true
theorem YU {x:V}:∀ {xs:List V} {us:List Value},Vals xs us→xs.all qK=true→us.any (eqU x)=xs.any fun y=>eqV y x
 | _,_,.nil,_=>rfl
 | y :: xs,u :: us,.cons r t,f=>by
  rw [List.all_cons,Bool.and_eq_true] at f
  rw [List.any_cons,List.any_cons,V5 r f.1,YU t f.2]
theorem Zw {A:Around} {s:Shared} {x:V} {v:Value} (rx:RelV x v) (fx:qK x=true):∀ {xs:List V} {us:List Value},Vals xs us→xs.all qK=true→∀ u∈us,SeqAt.EqAt A s u v (eqU x u)
 | _,_,.nil,_=>fun u hu=>by cases hu
 | y :: xs,u :: us,.cons r t,f=>fun u' hu=>by
  rw [List.all_cons,Bool.and_eq_true] at f
  rcases List.mem_cons.mp hu with rfl | hu
  ·rw [V5 r f.1];exact QM r rx f.1 fx
  ·exact Zw rx fx t f.2 u' hu
def inV (x:V) (xs:List V):Bool:=xs.any fun y=>eqV y x
def rIn (K:PySem.W.Frag) (neg:Bool):R2:=fun x y H Q=>∃ p xs,y=.ref p∧(SqL K H p xs∨SqT K H p xs)∧qK x=true∧xs.all qK=true∧Q (.bl (if neg then !inV x xs else inV x xs)) H
theorem xR:OpR X (compareOp .In) (rIn X.K false):=by
 intro pins s σ H x y v u Q I rx ry h
 obtain ⟨p,xs,rfl,hq,fx,fs,q⟩:=h
 cases ry
 rcases hq with hq | hq
 ·obtain ⟨its,r,pl,hz⟩:=I.list hq
  refine SeqAt.in_listAt (eqU x) pl.isList (fun w hw=>Zw rx fx r fs w (by simpa using hw)) ⟨.bl _,H,I,rfl,?_⟩
  rw [show its.toArray.any (eqU x)=its.any (eqU x) by simp,YU r fs]
  exact q
 ·obtain ⟨its,r,pl,hz⟩:=I.tuple hq
  refine SeqAt.in_tupleAt (eqU x) pl (fun w hw=>Zw rx fx r fs w (by simpa using hw)) ⟨.bl _,H,I,rfl,?_⟩
  rw [show its.toArray.any (eqU x)=its.any (eqU x) by simp,YU r fs]
  exact q
def tyV (K:PySem.W.Frag) (T:String) (x:V) (H:Hp):Prop:=match x with
 | .str _=>T="str"
 | .int _=>T="int"
 | .ref p=>(T="list"∧∃ xs,SqL K H p xs)∨(T="tuple"∧∃ o,K.lookup p=some o∧o.cls=.type "tuple"∧o.dict=none) ∨
   (T="dict"∧((∃ kvs,H p=some (.dK kvs))∨∃ kvs,H p=some (.dT kvs)))∨(T="set"∧∃ S n,H p=some (.set S n))
 | _=>False
theorem V6 {pins:List (Addr × Obj)} {σ:St} {H:Hp} {s:Shared} {T:String} {x:V} {v:Value} (I:Inv X pins σ H s) (r:RelV x v) (ty:tyV X.K T x H) :
  s.TypeIs v T∧∀ a,v=.ref a→∃ ob,s.heap.get? a=some ob∧ob.dict=none:=by
 cases x with
 | str z =>
  obtain ⟨t,rfl⟩:=r
  cases (show T="str" from ty)
  exact ⟨typeIs_str s z t,fun _ e=>nomatch e⟩
 | int i =>
  obtain ⟨t,rfl⟩:=r
  cases (show T="int" from ty)
  exact ⟨typeIs_int s i t,fun _ e=>nomatch e⟩
 | ref p =>
  cases r
  rcases ty with ⟨rfl,xs,hq⟩ | ⟨rfl,o,hk,hc,hd⟩ | ⟨rfl,hk⟩ | ⟨rfl,S,n,hk⟩
  ·obtain ⟨its,_,pl,_⟩:=I.list hq
   refine ⟨pl.isList.typeIs,fun a e=>?_⟩
   cases e
   obtain ⟨o,n,e,c,hd,_⟩:=pl
   exact ⟨o,e,hd⟩
  ·refine ⟨⟨o,I.kIn p o hk,hc⟩,fun a e=>?_⟩
   cases e
   exact ⟨o,I.kIn _ o hk,hd⟩
  ·have z:∃ o,s.heap.get? p=some o∧o.ExactDict:=by
    rcases hk with ⟨kvs,hk⟩ | ⟨kvs,hk⟩
    ·obtain ⟨_,_,_,_,o,_,_,e,ex,_⟩:=I.hok p _ hk
     exact ⟨o,e,ex⟩
    ·obtain ⟨_,_,_,_,o,_,_,e,ex,_⟩:=I.hok p _ hk
     exact ⟨o,e,ex⟩
   obtain ⟨o,e,ex⟩:=z
   refine ⟨⟨o,e,ex.1⟩,fun a e2=>?_⟩
   cases e2
   exact ⟨o,e,ex.2.1⟩
  ·obtain ⟨o,_,_,_,e,ex,_⟩:=I.hok p _ hk
   refine ⟨⟨o,e,ex.1⟩,fun a e2=>?_⟩
   cases e2
   exact ⟨o,e,ex.2.1⟩
 | _=>exact False.elim ty
def Zx (K:PySem.W.Frag) (T:String) (r:V→List V→Hp→VK→Prop) (to:TE):TE:=fun σ H Q=>to σ H fun x H1=>tyV K T x H1∧r x [] H1 Q
def tBM (K:PySem.W.Frag) (T:String) (r:V→List V→Hp→VK→Prop) (to:TE) (t:TA):TE:=fun σ H Q=>to σ H fun x H1=>tyV K T x H1∧t σ H1 fun xs H2=>r x xs H2 Q
variable {o e:Expr} {es:List Expr} {to:TE} {t:TA} {name:Str} {apos cpos:Pos} {T id:String} {r:V→List V→Hp→VK→Prop}
theorem Zy (pa:PlainAttrs T) (slot:Slot T name id) (hty:typeOf (.builtin id)=pure (.type "method_descriptor")) (hm:MtR X id r) (ho:PE X o to)
  (hbase:attributeBase o name X.env (eval o X.env)=eval o X.env:=by rfl) (hline:(apos.endLine == cpos.line)=true:=by rfl):PE X (.Call (.Attribute o name apos) [] [] cpos) (Zx X.K T r to):=by
 intro pins s σ H Q I h
 refine wpAny_Call_method0_late hbase hline (thn (ho pins s σ H _ I h) fun v s1 ⟨x,H1,I1,r1,ty,q1⟩=>?_)
 obtain ⟨h1,h2⟩:=V6 I1 r1 ty
 exact ⟨T,id,pa,slot,hty,h1,h2,Calls.callWith_builtin rfl (PySem.evalArgs_none (hm pins s1 σ H1 x [] v [] Q I1 r1 .nil q1))⟩
theorem vf (pa:PlainAttrs T) (slot:Slot T name id) (hty:typeOf (.builtin id)=pure (.type "method_descriptor")) (hm:MtR X id r) (ho:PE X o to) (ha:PA X (e :: es) t)
  (hbase:attributeBase o name X.env (eval o X.env)=eval o X.env:=by rfl)
  (hfew:((backTo cpos (starEach (e :: es) X.env)).all (fun x=>!x.1) && (backToKw cpos (keywordEach [] X.env)).all (fun x=>x.1.isSome)
   && decide ((e :: es).length + ([]:List Keyword).length + (if ([]:List Keyword).isEmpty then 0 else 1) < 30))=true:=by rfl)
  (hline:(apos.endLine == cpos.line)=true:=by rfl) (hs:starEach (e :: es) X.env=(false,eval e X.env) :: starEach es X.env:=by rfl) (hplain:(backTo cpos (starEach es X.env)).any (·.1)=false:=by rfl) :
  PE X (.Call (.Attribute o name apos) (e :: es) [] cpos) (tBM X.K T r to t):=by
 intro pins s σ H Q I h
 refine wpAny_Call_method_late hbase hfew hline rfl (thn (ho pins s σ H _ I h) fun v s1 ⟨x,H1,I1,r1,ty,q1⟩=>?_)
 obtain ⟨h1,h2⟩:=V6 I1 r1 ty
 refine ⟨T,id,pa,slot,hty,h1,h2,?_⟩
 have hA:=ha cpos pins s1 σ H1 _ I1 q1
 rw [hs] at hA ⊢
 refine Calls.callWith_builtin (by show (false || (backTo cpos (starEach es X.env)).any (·.1))=false;rw [hplain] <;> rfl) (Calls.evalArgs_plain ?_)
 exact thn hA fun us s2 ⟨vs,H2,I2,r2,q2⟩=>hm pins s2 σ H2 x vs v us Q I2 r1 r2 q2
end
end L2
namespace L2
open PySem PySem.Spec PyProof.Rows
def MtM (X:Cx) (id:String) (r:V→List V→Hp→VK→Prop):Prop :=
 ∀ (pins:List (Addr × Obj)) (s:Shared) (σ:St) (H:Hp) (x:V) (xs:List V) (v:Value) (us:List Value) (Q:VK),Inv X pins σ H s→RelV x v→Vals xs us→r x xs H Q →
  wpAny (model X.prog X.w) X.A (call (.builtin id) (v :: us)) (EP X pins σ Q) X.xe s
theorem Vals.one:∀ {x:V} {us:List Value},Vals [x] us→∃ u,us=[u]∧RelV x u
 | _,_,.cons r .nil=>⟨_,rfl,r⟩
theorem Vals.zero:∀ {us:List Value},Vals [] us→us=[]
 | _,.nil=>rfl
theorem Vals.dropLast {xs:List V} {us:List Value} (h:Vals xs us):Vals xs.dropLast us.dropLast:=by
 induction h with
 | nil=>exact .nil
 | cons r t ih =>
  cases t with
  | nil=>exact .nil
  | cons q t'=>exact .cons r ih
theorem Vals.rep {xs:List V} {us:List Value} (h:Vals xs us):∀ k:Nat,Vals (List.replicate k xs).flatten (List.replicate k us).flatten
 | 0=>.nil
 | k + 1=>by
  rw [List.replicate_succ,List.replicate_succ,List.flatten_cons,List.flatten_cons]
  exact Vals.append h (Vals.rep h k)
theorem Ws {α:Type} (l:List α):l.eraseIdx (l.length - 1)=l.dropLast:=by
 induction l with
 | nil=>rfl
 | cons a r ih =>
  cases r with
  | nil=>rfl
  | cons b r =>
   have e:(a :: b :: r).length - 1=((b :: r).length - 1) + 1:=by
    have h1:(a :: b :: r).length=r.length + 2:=rfl
    have h2:(b :: r).length=r.length + 1:=rfl
    lia
   rw [e,List.eraseIdx_cons_succ,ih]
   all_goals rfl
theorem Yt (its:List Value):∀ (k:Nat) (acc:List Value),
  List.foldl (fun x1 x2=>x1 ++ x2) acc.toArray (List.replicate k its.toArray)=(acc ++ (List.replicate k its).flatten).toArray
 | 0,acc=>by simp
 | k + 1,acc=>by
  have e:acc.toArray ++ its.toArray=(acc ++ its).toArray:=by simp
  have e2:(acc ++ its) ++ (List.replicate k its).flatten=acc ++ (List.replicate (k + 1) its).flatten:=by
   rw [List.replicate_succ,List.flatten_cons,List.append_assoc]
  rw [← e2,← Yt its k (acc ++ its),← e,List.replicate_succ,List.foldl_cons]
section
variable {X:Cx} {pins:List (Addr × Obj)} {σ:St} {H:Hp} {s:Shared} {l b:Addr} {xs ys zs:List V}
theorem Inv.lset {its its':List Value} {n:Nat} {f:Array Value→Array Value} {t':Nat} (I:Inv X pins σ H s) (hH:H l=some (.lst xs))
  (e:s.heap.get? l=some { cls:=.type "list",data:=.seq its.toArray n }) (hf:f its.toArray=its'.toArray) (hv:Vals ys its') (hz:ys.length≤sizeLine) :
  Inv X pins σ (upd H l (.lst ys)) { s with heap:=s.heap.update l (Obj.mapSeq f),toks:=t' }:=by
 have q:=PySem.IsL.update e f
 rw [hf] at q
 refine I.write (x:=l) (e:=l) (by rw [hH];exact trivial) (.inl rfl) (fun b' u hb hu=>(Heap.get?_update_other s.heap (Obj.mapSeq f) (Ne.symm hb)).trans hu) ⟨_,q⟩ ?_
 exact ⟨hz,its',_,hv,q⟩
theorem Inv.lnew {its:List Value} {t':Nat} (I:Inv X pins σ H s) (hv:Vals ys its) (hz:ys.length≤sizeLine) :
  Inv X pins σ (upd H s.heap.objs.size (.lst ys)) { s with heap:=s.heap.push { cls:=.type "list",data:=.seq its.toArray },toks:=t' } :=
 I.laid (fun _ _ q=>Heap.get?_push_of_some _ q) (Nat.le_refl _) ⟨hz,its,0,hv,Heap.get?_push_size _ rfl⟩
theorem Inv.fresh (I:Inv X pins σ H s):H s.heap.objs.size=none:=I.hok.fresh (Nat.le_refl _)
theorem Inv.lstM (I:Inv X pins σ H s) (hH:H l=some (.lst xs)):xs.length≤sizeLine∧∃ (its:List Value) (n:Nat),Vals xs its∧xs.length=its.length∧s.heap.get? l=some { cls:=.type "list",data:=.seq its.toArray n }:=by
 obtain ⟨z,its,n,r,e⟩:=I.hok l _ hH
 exact ⟨z,its,n,r,r.length,e⟩
theorem V7 {n:Nat} (h:n≤sizeLine):Builtin.List.listTooLong n=false:=by
 unfold Builtin.List.listTooLong
 exact decide_eq_false (by lia)
end
section
variable {X:Cx}
def yu:V→List V→Hp→VK→Prop:=fun x vs H Q=>∃ l xs y,x=.ref l∧vs=[y]∧H l=some (.lst xs)∧xs.length < sizeLine∧Q .non (upd H l (.lst (xs ++ [y])))
theorem yI:MtM X "list.append" yu:=by
 intro pins s σ H x vs v us Q I rx rv h
 obtain ⟨l,xs,y,rfl,rfl,hH,hz,q⟩:=h
 cases rx
 obtain ⟨u,rfl,ru⟩:=rv.one
 obtain ⟨z,its,n,r,hl,e⟩:=I.lstM hH
 refine call_meets F.slot_list_append ⟨_,e,rfl⟩ F.entry_list_append (F.args_list_append_2 _ _) (PySem.list_append l its.toArray n u (by rw [List.size_toArray];lia)) ⟨e,?_⟩
 refine ⟨.non,_,I.lset (its':=its ++ [u]) hH e (by simp) (r.append (.cons ru .nil)) ?_,rfl,q⟩
 rw [List.length_append,List.length_singleton]
 lia
def KB:V→List V→Hp→VK→Prop:=fun x vs H Q=>∃ l b xs zs,x=.ref l∧vs=[.ref b]∧H l=some (.lst xs)∧H b=some (.lst zs)∧xs.length + zs.length≤sizeLine∧Q .non (upd H l (.lst (xs ++ zs)))
def Wt:V→List V→Hp→VK→Prop:=fun x vs H Q=>∃ l xs y,x=.ref l∧vs=[]∧H l=some (.lst xs)∧xs[xs.length - 1]?=some y∧Q y (upd H l (.lst xs.dropLast))
theorem Zz:MtM X "list.pop" Wt:=by
 intro pins s σ H x vs v us Q I rx rv h
 obtain ⟨l,xs,y,rfl,rfl,hH,hy,q⟩:=h
 cases rx
 have hus:=rv.zero
 subst hus
 obtain ⟨z,its,n,r,hl,e⟩:=I.lstM hH
 obtain ⟨u,hu,ru⟩:=r.get hy
 have hy':its.toArray[its.toArray.size - 1]?=some u:=by
  show its.toArray[its.length - 1]?=some u
  rw [← Array.getElem?_toList,← hl]
  exact hu
 refine call_meets F.slot_list_pop ⟨_,e,rfl⟩ F.entry_list_pop (F.args_list_pop_1 _) (MeetsSeq.list_pop_last l its.toArray n u hy' (by rw [List.size_toArray];lia)) ⟨e,?_⟩
 refine ⟨y,_,I.lset (its':=its.dropLast) hH e ?_ r.dropLast ?_,ru,q⟩
 ·show its.toArray.eraseIdxIfInBounds (its.toArray.size - 1)=its.dropLast.toArray
  rw [List.size_toArray,List.eraseIdxIfInBounds_toArray,Ws]
 ·rw [List.length_dropLast]
  lia
def QN:V→List V→Hp→VK→Prop:=fun x vs H Q=>∃ l xs,x=.ref l∧vs=[]∧H l=some (.lst xs)∧Q .non (upd H l (.lst []))
def wJ:R2:=fun x y H Q=>∃ l b xs zs,x=.ref l∧y=.ref b∧H l=some (.lst xs)∧H b=some (.lst zs)∧xs.length + zs.length≤sizeLine∧∀ p,H p=none→Q (.ref p) (upd H p (.lst (xs ++ zs)))
theorem ZA:OpR X (binaryOp .Add) wJ:=by
 intro pins s σ H x y v u Q I rx ry h
 obtain ⟨l,b,xs,zs,rfl,rfl,hH,hB,hz,q⟩:=h
 cases rx
 cases ry
 obtain ⟨z,its,n,r,hl,e⟩:=I.lstM hH
 obtain ⟨z2,its2,n2,r2,hl2,e2⟩:=I.lstM hB
 refine PySem.P.add_list e e2 ?_ (by rw [List.size_toArray,List.size_toArray];lia)
 have ea:its.toArray ++ its2.toArray=(its ++ its2).toArray:=by simp
 rw [ea]
 exact ⟨.ref _,_,I.lnew (t':=s.toks) (r.append r2) (by rw [List.length_append];lia),rfl,q _ I.fresh⟩
def KC:R2:=fun x y H Q=>∃ l k xs,x=.ref l∧y=.int k∧H l=some (.lst xs)∧-(2 ^ 63)≤k∧k < 2 ^ 63∧xs.length * k.toNat≤sizeLine ∧
 ∀ p,H p=none→Q (.ref p) (upd H p (.lst (List.replicate k.toNat xs).flatten))
theorem KD {α:Type} (xs:List α) (k:Nat):(List.replicate k xs).flatten.length=k * xs.length:=by
 induction k with
 | zero=>simp
 | succ k ih=>rw [List.replicate_succ,List.flatten_cons,List.length_append,ih,Nat.succ_mul,Nat.add_comm]
theorem QO:OpR X (binaryOp .Mult) KC:=by
 intro pins s σ H x y v u Q I rx ry h
 obtain ⟨l,k,xs,rfl,rfl,hH,h1,h2,hz,q⟩:=h
 cases rx
 obtain ⟨t,rfl⟩:=ry
 obtain ⟨z,its,n,r,hl,e⟩:=I.lstM hH
 have hlen:its.toArray.size * k.toNat≤sizeLine:=by rw [List.size_toArray,← hl];exact hz
 have hcap:¬ its.toArray.size * k.toNat > (2 ^ 63 - 1) / 8:=by
  have:(sizeLine:Nat)≤(2 ^ 63 - 1) / 8:=by decide
  lia
 have hfit:¬ (!Builtin.List.listFitsIndex k)=true:=by
  rw [fitsIndex_both h1 h2]
  exact Bool.false_ne_true
 have hlong:¬ Builtin.List.listTooLong (its.toArray.size * k.toNat)=true:=by
  rw [V7 hlen]
  exact Bool.false_ne_true
 have hnew:List.foldl (fun x1 x2=>x1 ++ x2) #[] (List.replicate (if its.toArray.isEmpty=true then 0 else k.toNat) its.toArray)=(List.replicate k.toNat its).flatten.toArray:=by
  have f0:∀ m:Nat,List.foldl (fun x1 x2=>x1 ++ x2) #[] (List.replicate m its.toArray)=(List.replicate m its).flatten.toArray:=fun m=>by
   have:=Yt its m []
   rw [List.nil_append] at this
   exact this
  rw [f0]
  cases its with
  | nil=>simp
  | cons a r'=>rw [if_neg (by simp)]
 refine wpAny_binaryOp_repeat_ref (T:="list") (U:="int") (by decide) ⟨_,e,rfl⟩ (fun s'=>typeIs_int s' k t) noFill_list_mul F.fills_int_mul F.slot_int_rmul repeat_list F.slot_int_index.lookup
  (call_meets F.slot_int_rmul (typeIs_int s k t) F.entry_int_rmul (F.args_int_rmul_2 _ _) (int___rmul___int_list k t l its.toArray n)
    ⟨e,rfl,⟨_,e,rfl⟩,call_meets F.slot_list_mul ⟨_,e,rfl⟩ F.entry_list_mul (F.args_list_mul_2 _ _) (AutoListH.list___mul___list_int_3 l its.toArray n k t hfit hcap hlong) ⟨e,?_⟩⟩)
 rw [hnew]
 exact ⟨.ref _,_,I.lnew (t':=s.toks) (r.rep k.toNat) (by rw [KD,Nat.mul_comm];exact hz),rfl,q _ I.fresh⟩
end
section
variable {prog:Program} {w:World} {A:Around} {E:Value→Shared→Prop} {s:Shared}
set_option maxRecDepth 100000 in
end
section
variable {X:Cx}
end
end L2
namespace L2
open PySem PySem.Spec PyProof.Rows
section
variable {κ:Type} [DecidableEq κ]
def wn (kvs:List (κ × V)) (k:κ):Option V:=(kvs.find? fun kv=>decide (kv.1=k)).map (·.2)
def qT (kvs:List (κ × V)) (k:κ) (v:V):List (κ × V) :=
 if (kvs.any fun kv=>decide (kv.1=k))=true then kvs.map (fun kv=>if kv.1=k then (kv.1,v) else kv) else kvs ++ [(k,v)]
def Yu (kvs:List (κ × V)) (k:κ):List (κ × V):=kvs.filter fun kv=>decide (kv.1≠k)
theorem xE {p:κ × V} {r:List (κ × V)} {k:κ} (e:p.1=k):wn (p :: r) k=some p.2:=by simp [wn,List.find?_cons,e]
theorem xF {p:κ × V} {r:List (κ × V)} {k:κ} (e:¬ p.1=k):wn (p :: r) k=wn r k:=by simp [wn,List.find?_cons,e]
theorem kE (k:κ):∀ kvs:List (κ × V),(kvs.any fun kv=>decide (kv.1=k))=(wn kvs k).isSome
 | []=>rfl
 | p :: r=>by
  rw [List.any_cons]
  by_cases e:p.1=k
  ·simp only [xE e,decide_eq_true e,Bool.true_or,Option.isSome_some]
  ·rw [xF e,decide_eq_false e,Bool.false_or];exact kE k r
theorem V8 (k j:κ) (y:V):∀ kvs:List (κ × V),wn (kvs.map fun kv=>if kv.1=k then (kv.1,y) else kv) j=(wn kvs j).map fun x=>if j=k then y else x
 | []=>rfl
 | p :: r=>by
  have ih:=V8 k j y r
  rw [List.map_cons]
  by_cases h:p.1=k
  ·rw [if_pos h]
   by_cases e:p.1=j
   ·rw [xE (p:=(p.1,y)) e,xE e,Option.map_some,if_pos (e.symm.trans h)]
   ·rw [xF (p:=(p.1,y)) e,xF e,ih]
  ·rw [if_neg h]
   by_cases e:p.1=j
   ·rw [xE (p:=p) e,xE e,Option.map_some,if_neg (fun z=>h (e.trans z))]
   ·rw [xF (p:=p) e,xF e,ih]
theorem Vt (k j:κ) (y:V):∀ kvs:List (κ × V),wn kvs k=none→wn (kvs ++ [(k,y)]) j=if j=k then some y else wn kvs j
 | [],_=>by
  by_cases e:k=j
  ·rw [if_pos e.symm];exact xE (p:=(k,y)) e
  ·rw [if_neg (fun z=>e z.symm)];exact xF (p:=(k,y)) e
 | p :: r,hn=>by
  rw [List.cons_append]
  have hk:¬ p.1=k:=fun z=>by rw [xE z] at hn;cases hn
  rw [xF hk] at hn
  have ih:=Vt k j y r hn
  by_cases e:p.1=j
  ·rw [xE e,xE e,if_neg (fun z=>hk (e.trans z))]
  ·rw [xF e,xF e,ih]
theorem Xw {kvs:List (κ × V)} {k:κ} (v:V) (h:wn kvs k=none):qT kvs k v=kvs ++ [(k,v)]:=by
 unfold qT
 rw [kE,h]
 exact if_neg (by decide)
end
section
variable {P:Program} {w:World} {H:Hp} {h:Heap} {a:Addr}
end
def QP (H:Hp) (a:Addr) (y:V) (r:Option V):Prop :=
 (∃ kvs k,Rd H a (.dK kvs)∧y=kV k∧r=wn kvs k)∨∃ kvs k b,Rd H a (.dT kvs)∧y=.ref b∧H b=some (.tup (k.map kV))∧r=wn kvs k
def zaK (H:Hp) (a:Addr) (y v:V) (H':Hp):Prop :=
 (∃ kvs k,H a=some (.dK kvs)∧y=kV k∧kvs.length < sizeLine∧H'=upd H a (.dK (qT kvs k v))) ∨
 ∃ kvs k b,H a=some (.dT kvs)∧y=.ref b∧H b=some (.tup (k.map kV))∧kvs.length < sizeLine∧H'=upd H a (.dT (qT kvs k v))
section
variable {X:Cx} {pins:List (Addr × Obj)} {σ:St} {H:Hp} {s:Shared} {a:Addr} {y v:V} {u r:Value} {o:Option V} {A:Around} {E:Value→Shared→Prop}
end
section
variable {X:Cx} {pins:List (Addr × Obj)} {σ:St} {H:Hp} {s:Shared} {a:Addr} {kvs:List (Key × V)} {k:Key} {u:Value} {A:Around} {E:Value→Shared→Prop}
end
def zbe (td ty:TE):TE:=fun σ H Q=>td σ H fun x H1=>ty σ H1 fun y H2=>∃ a v,x=.ref a∧QP H2 a y (some v)∧Q v H2
def zbf (td ty tv:TE):TS:=fun D σ H=>tv σ H fun v H1=>td σ H1 fun x H2=>ty σ H2 fun y H3=>∃ a H4,x=.ref a∧zaK H3 a y v H4∧D.nx σ H4
section
variable {X:Cx} {o i e value:Expr} {pos pos' tpos:Pos} {td ty tv:TE}
end
def zaL:TE:=fun _ H Q=>∀ p,H p=none→Q (.ref p) (upd H p (.dK []))
def zaM:TE:=fun _ H Q=>∀ p,H p=none→Q (.ref p) (upd H p (.dT []))
section
variable {X:Cx} {pos:Pos}
end
def V9:List (TE × TE)→St→Hp→(List (V × V)→Hp→Prop)→Prop
 | [],_,H,Q=>Q [] H
 | (tk,tv) :: r,σ,H,Q=>tk σ H fun x H1=>tv σ H1 fun y H2=>V9 r σ H2 fun ps H3=>Q ((x,y) :: ps) H3
def QQ (kvs more:List (Key × V)):List (Key × V):=more.foldl (fun acc kv=>qT acc kv.1 kv.2) kvs
def zbg (trs:List (TE × TE)):TE:=fun σ H Q=>∀ p,H p=none→V9 trs σ (upd H p (.dK [])) fun ps H2=>H2 p=some (.dK [])∧∃ kvs:List (Key × V),ps=kvs.map (fun kv=>(kV kv.1,kv.2))∧kvs.length≤15∧Q (.ref p) (upd H2 p (.dK (QQ [] kvs)))
def IsD (H:Hp) (a:Addr):Prop:=(∃ kvs,Rd H a (.dK kvs))∨∃ kvs,Rd H a (.dT kvs)
section
variable {X:Cx} {pins:List (Addr × Obj)} {σ:St} {H:Hp} {s:Shared} {a:Addr} {y d:V} {u r:Value} {o:Option V} {A:Around} {E:Value→Shared→Prop}
end
def zaN (td ty tx:TE):TE:=fun σ H Q=>td σ H fun x H1=>∃ a,x=.ref a∧IsD H1 a∧ty σ H1 fun y H2=>tx σ H2 fun z H3=>∃ o,QP H3 a y o∧Q (o.getD z) H3
def zaO (td ty tx:TE):TE:=fun σ H Q=>td σ H fun x H1=>∃ a,x=.ref a∧IsD H1 a∧ty σ H1 fun y H2=>tx σ H2 fun z H3=>∃ kvs k,H3 a=some (.dK kvs)∧y=kV k ∧
 (∀ v,wn kvs k=some v→Q v (upd H3 a (.dK (Yu kvs k))))∧(wn kvs k=none→Q z H3)
section
variable {X:Cx} {o e f:Expr} {apos cpos:Pos} {td ty tx:TE}
end
section
variable {X:Cx} {pins:List (Addr × Obj)} {σ:St} {H:Hp} {s:Shared} {a:Addr} {kvs:List (Key × V)} {A:Around} {E:Value→Shared→Prop}
end
section
variable {X:Cx} {pins:List (Addr × Obj)} {σ:St} {H:Hp} {s:Shared} {a:Addr} {y:V} {u:Value} {A:Around} {E:Value→Shared→Prop}
end
end L2
namespace Att
open PySem PySem.W PySem.Calls PyProof.Rows
theorem qU {P:Params} {h:Heap}:∀ (ns:List Int) (vs:List Value),WellAll P h vs (ns.map WData.int)→IntsAre vs ns:=by
 intro ns
 induction ns with
 | nil =>
  intro vs w
  rw [List.map_nil] at w
  cases w
  exact .nil
 | cons n ns ih =>
  intro vs w
  rw [List.map_cons] at w
  cases w with
  | cons a b =>
   cases a
   exact .cons _ _ (ih _ b)
theorem Yv {l:OpenLaw} {n:Nat} (hn:l.most=some n) {P:Params} {h:Heap} {args:List WData} {vals:List Value}
  (hpre:l.row.toRowW.claim.pre args=true) (hwl:WellAll P h vals args) :
  ∃ a vs ns,vals=[Value.ref a]∧args=[WData.list (ns.map WData.int)]∧h.get? a=some { cls:=.type "list",data:=.seq vs.toArray }∧IntsAre vs ns∧ns.length≤n:=by
 have hsh:WShape.hasAll [] args [.list .int]=true:=(pre_splitW hpre).1
 have hc:l.pre.holds [] { args:=args }=true:=(pre_splitW hpre).2
 obtain ⟨d,r,rfl,h1,h2⟩:=hasAllW_cons hsh
 obtain rfl:=hasAllW_nil h2
 obtain ⟨xs,rfl,h3⟩:=hasW_list h1
 obtain ⟨ns,rfl⟩:=items_int h3
 have hlen:ns.length≤n:=by
  unfold OpenLaw.pre at hc
  have h4:(WTm.not (.lt (.lit (.int (n:Int))) (.len (.arg 0)))).holds [] { args:=[.list (ns.map .int)] }=true:=by
   have h4:=(holds_andW hc).1
   rw [hn] at h4
   exact h4
  have h5:=condW_of h4 (w_not (w_lt w_lit (w_len_list (w_arg rfl))))
  rw [List.length_map] at h5
  refine Nat.le_of_not_lt fun q=>?_
  have q':(n:Int) < ((ns.length:Nat):Int):=by lia
  first
   | (rw [decide_eq_true q'] at h5;exact absurd h5 (by decide))
   | (simp at h5;lia)
 cases hwl with
 | cons w1 w2 =>
  cases w2
  cases w1 with
  | list ho hall=>exact ⟨_,_,ns,rfl,rfl,ho,qU ns _ hall,hlen⟩
theorem Yw (l:OpenLaw) (args:List WData):l.row.toRowW.claim.post args (.bool true) args=true :=
 postW_of (r:=l.row.toRowW) (X:=(true == true))
  (show WShape.has [] (.bool true) .bool=true by first | rfl | decide | simp [WShape.has,WShape.arms,WShape.armsAll])
  (show (WTm.eq .res (.lit (.bool true))).value [] { args:=args,res:=some (.bool true),after:=args }=some (.bool (true == true)) from w_eq_bool (w_res rfl) w_lit) rfl
theorem attach_call {l:OpenLaw} {n:Nat} {q:Program} {loose:List Str} {XP:(Str→Option Value)→Heap→Prop} {YP:World→Heap→Prop} {d:DefRec}
  (hn:l.most=some n) (hdf:d.params.defaults=[])
  (call:∀ (w:World) (s₀ s₁:Shared) (mg mb:Str→Option Value) (fa:Addr) (o:Obj) (pm cd doc:Value) (a:Addr) (vs:List Value) (ns:List Int),
   Ground q loose [] XP w s₀ mg mb s₁.heap→YP w s₁.heap →
   s₁.heap.get? fa=some o→o.data=.func (docDef d.name d.params d.body d.scope pm cd doc)→s₁.heap.CodeRec cd d.name→mg d.name=some (.ref fa) →
   s₁.heap.get? a=some { cls:=.type "list",data:=.seq vs.toArray }→IntsAre vs ns→ns.length≤n→s₁.gens=#[] →
   codeAny (model l.prog w) callerA (.call (.ref fa) ⟨[.ref a],[]⟩) (fun r s'=>r=.ok (.ret (.bool true))∧OldK s₁.heap s'.heap∧s'.os=s₁.os∧AllBare s'.gens) s₁) :
  WalkO q loose XP YP l.row.toRowW d [] (fun f vs=>PySem.call f vs):=by
 intro w s₀ s₁ mg mb G Y fa o pm cd doc dV kV ho hd hcd hD hmg hg args vals as hpre hlay hrd hwl hlo
 obtain rfl:dV=.none:=Dflts.none hD hdf
 obtain rfl:kV=.none:=Dflts.noKw hD
 obtain ⟨a,vs,ns,rfl,rfl,hobj,hints,hlen⟩:=Yv hn hpre hwl
 refine enter_call (codeAny_mono (call w s₀ s₁ mg mb fa o pm cd doc a vs ns G Y ho (fd_plain hd) hcd hmg hobj hints hlen hg) fun r s' hq=>?_)
 obtain ⟨rfl,h2,h3,h4⟩:=hq
 exact ⟨.inl ⟨.bool true,.bool true,[],rfl,fun _=>rfl,.bool true,Yw l _,fun _=>⟨List.Pairwise.nil,fun _ hm=>(nomatch hm)⟩⟩,h2,h3,h4⟩
section
variable {prog:Program} {w:World} {A:Around} {E:Value→Shared→Prop} {s:Shared} {K:Frag}
def zaP (h:Heap) (L d:Addr):List (Addr × Obj):=(List.range h.objs.size).filterMap fun a=>if a=L∨a=d then none else (h.get? a).map fun o=>(a,o)
end
end Att
namespace L2
open PySem PySem.Spec PyProof.Rows
theorem Yx:∀ {vs:List Value} {ns:List Int},IntsAre vs ns→Vals (ns.map V.int) vs
 | _,_,.nil=>.nil
 | _,_,.cons n t h=>.cons ⟨t,rfl⟩ (Yx h)
def Wu (H:Hp):Prop:=∀ b,H b=none∨∃ o xs,H b=some (.frz o (.lst xs))
theorem Xx {P:Program} {w:World} {K:PySem.W.Frag} {mg mb:Str→Option Value} {CX:CXT} {k:Nat} {fa a:Addr} {fd:FuncData} {x:Str} {sp:Sp} {s₁:Shared} {vs:List Value} {ns:List Int}
  (KX:K.In s₁.heap) (hns:s₁.heap.Ns mainGlobals mg) (hb:s₁.heap.Ns builtinsNs mb) (hbb:∀ x:Str,x≠"__name__"→mb x=bootBuiltins x) (hlim:s₁.heap.NoLimit) (hg:s₁.gens=#[])
  (ha:s₁.heap.get? a=some { cls:=.type "list",data:=.seq vs.toArray }) (hi:IntsAre vs ns) (hl:ns.length≤sizeLine) (hr:Room k callerA)
  (F:∀ base:Heap,K.In base→base.Ns mainGlobals mg→FnOk P w K mg base CX k fa fd [x] sp) (hbind:∀ (s:Shared) (u:Value),BindsTo s fd ⟨[u],[]⟩ [(x,u)])
  (hsp:∀ H:Hp,Wu H→SqL K H a (ns.map V.int)→sp [.ref a] H (fun v _=>v=.bl true) fun _ _ _=>False)
  (hCX:∀ H e s',CX [] H s₁ (fun _ _ _=>False) e s'→False) :
  codeAny (model P w) callerA (.call (.ref fa) ⟨[.ref a],[]⟩) (fun r s'=>r=.ok (.ret (.bool true))∧OldK s₁.heap s'.heap∧s'.os=s₁.os∧AllBare s'.gens) s₁:=by
 have rv:=Yx hi
 have lenV:=hi.length
 -- from an abstract heap in which nothing but the script may be tracked
 have core:∀ H:Hp,Wu H→SqL K H a (ns.map V.int)→HOk P w H s₁.heap→(∀ b,H b≠none→b=a)→(H a≠none→K.lookup a=none) →
   codeAny (model P w) callerA (.call (.ref fa) ⟨[.ref a],[]⟩) (fun r s'=>r=.ok (.ret (.bool true))∧OldK s₁.heap s'.heap∧s'.os=s₁.os∧AllBare s'.gens) s₁:=by
  intro H hO hS hok hA hK
  have base_of:∀ {b:Addr} {o:Obj},s₁.heap.get? b=some o→H b=none→(YM s₁.heap H).get? b=some o:=fun e n=>VU e n
  have noA:∀ {b:Addr} {o:Obj} {es:Array DictEntry} {ep:Nat},s₁.heap.get? b=some o→o.data=.dict es ep→H b=none:=fun {b o es ep} e d=>by
   cases q:H b with
   | none=>rfl
   | some u =>
    have e':b=a:=hA b (by rw [q];simp)
    subst e'
    rw [ha] at e;cases e
    have d':Data.seq vs.toArray _=Data.dict es ep:=d
    cases d'
  have nsK:∀ {b:Addr} {m:Str→Option Value},s₁.heap.Ns b m→(YM s₁.heap H).Ns b m:=fun {b m} ⟨o,es,ep,e,d,r⟩=>⟨o,es,ep,base_of e (noA e d),d,r⟩
  have hKb:K.In (YM s₁.heap H):=fun b o e=>base_of (KX b o e) (by
   cases q:H b with
   | none=>rfl
   | some u =>
    have e':b=a:=hA b (by rw [q];simp)
    subst e'
    rw [hK (by rw [q];simp)] at e;cases e)
  have hM:Mod K mg (YM s₁.heap H):=⟨hKb,nsK hns,⟨mb,nsK hb,hbb⟩,let ⟨mc,h1,h2⟩:=hlim;⟨mc,nsK h1,h2⟩⟩
  have e0:Env0 P w K mg (YM s₁.heap H) callerA [] s₁ H:=⟨rfl,hM,fun b o e=>Kp e,Nat.le_of_eq (Vk _ _),trivial,fun b hb=>absurd (show b∈([]:List Addr) from hb) (by simp),hok,.of_eq hg⟩
  refine codeAny_mono ((F _ hKb (nsK hns)).run callerA [] s₁ H ⟨[.ref a],[]⟩ [.ref a] [.ref a] _ _ hr e0 (hbind s₁ (.ref a)) (.cons rfl .nil) (hsp H hO hS)) fun r s' h=>?_
  cases r with
  | error e=>exact (hCX H e s' h).elim
  | ok fl =>
   cases fl with
   | next=>exact False.elim h
   | brk=>exact False.elim h
   | cont=>exact False.elim h
   | ret u =>
    obtain ⟨v,H',os,bare,un,hok',r',q⟩:=h
    have q':v=.bl true:=q
    subst q'
    obtain rfl:u=Value.bool true:=r'
    refine ⟨rfl,OldK.of_keep fun b o e=>?_,os,bare⟩
    cases q:H b with
    | none=>exact un.keep b o e q (by intro z;exact absurd (show b∈([]:List Addr) from z) (by simp)) (by simp)
    | some u =>
     rcases hO b with z | ⟨ob,xs,z⟩
     ·rw [q] at z;cases z
     ·have z2:=un.frzs b ob _ z
      obtain ⟨e1,_⟩:=hok b _ z
      obtain ⟨e2,_⟩:=hok' b _ z2
      rw [e] at e1;cases e1
      exact e2
 cases hk:K.lookup a with
 | some o =>
  -- the script is one of the module's own objects
  have e:=KX a o hk
  rw [ha] at e
  cases e
  refine core (fun _=>none) (fun _=>.inl rfl) (.inr ⟨_,vs.toArray,_,hk,rfl,rfl,rfl,by rw [List.size_toArray,lenV];exact hl,by simpa using rv⟩) (fun b u z=>by have z':(none:Option HO)=some u:=z;cases z') (fun b z=>absurd rfl z) fun z=>absurd rfl z
 | none =>
  refine core (fun b=>if b=a then some (.frz { cls:=.type "list",data:=.seq vs.toArray } (.lst (ns.map V.int))) else none) (fun b=>?_) (.inl (.inr ⟨{ cls:=.type "list",data:=.seq vs.toArray },if_pos rfl⟩)) (fun b u z=>?_) (fun b z=>?_) fun _=>hk
  ·by_cases hb:b=a
   ·exact .inr ⟨_,_,if_pos hb⟩
   ·exact .inl (if_neg hb)
  ·by_cases hb:b=a
   ·have z':=(if_pos hb).symm.trans z
    cases z'
    subst hb
    exact ⟨ha,by rw [List.length_map];exact hl,vs,_,rv,ha⟩
   ·have z':=(if_neg hb).symm.trans z
    cases z'
  ·by_cases hb:b=a
   ·exact hb
   ·exact absurd (if_neg hb) z
end L2
namespace L2
open PySem PySem.Spec PyProof.Rows
abbrev KOf {K:PySem.W.Frag} {h:Heap} (_:K.In h):PySem.W.Frag:=K
theorem W5 {l:PySem.W.OpenLaw} {n k:Nat} {q:Program} {loose:List Str} {XP:(Str→Option Value)→Heap→Prop} {YP:World→Heap→Prop} {d:DefRec} {K:Params→PySem.W.Frag} {CX:World→CXT} {sp:World→Sp} {x:Str}
  (hn:l.most=some n) (hn2:n≤sizeLine) (hdf:d.params.defaults=[]) (hr:Room k callerA)
  (hY:∀ (w:World) (h:Heap),YP w h→(K w.params).In h)
  (F:∀ (w:World) (mg:Str→Option Value) (fa:Addr) (h:Heap),(K w.params).In h→h.Ns mainGlobals mg→mg d.name=some (.ref fa) →
   ∃ fd:FuncData,(∀ (s:Shared) (u:Value),BindsTo s fd ⟨[u],[]⟩ [(x,u)]) ∧
    ∀ base:Heap,(K w.params).In base→base.Ns mainGlobals mg→FnOk l.prog w (K w.params) mg base (CX w) k fa fd [x] (sp w))
  (hsp:∀ (w:World) (H:Hp) (a:Addr) (ns:List Int),ns.length≤n→Wu H→SqL (K w.params) H a (ns.map V.int)→sp w [.ref a] H (fun v _=>v=.bl true) fun _ _ _=>False)
  (hCX:∀ (w:World) (H:Hp) (s:Shared) (e:Value) (s':Shared),CX w [] H s (fun _ _ _=>False) e s'→False) :
  PySem.W.WalkO q loose XP YP l.row.toRowW d [] (fun f vs=>PySem.call f vs):=by
 refine Att.attach_call hn hdf fun w s₀ s₁ mg mb fa o pm cd doc a vs ns G Y ho hd hcd hmg hobj hints hlen hg=>?_
 have KX:=hY w _ Y
 obtain ⟨fd,hb,hF⟩:=F w mg fa _ KX G.T.g hmg
 exact Xx KX G.T.g G.T.b G.T.builtins G.T.nolimit hg hobj hints (Nat.le_trans hlen hn2) hr hF hb (fun H hO hS=>hsp w H a ns hlen hO hS) fun H e s'=>hCX w H s₁ e s'
theorem zam {l:PySem.W.OpenLaw} {n k:Nat} {q:Program} {loose:List Str} {XP:(Str→Option Value)→Heap→Prop} {YP:World→Heap→Prop} {d:DefRec} {K:Params→PySem.W.Frag} {CX:CXT} {sp:PySem.W.Frag→Sp} {x:Str}
  (hn:l.most=some n) (hn2:n≤sizeLine) (hdf:d.params.defaults=[]) (hr:Room k callerA)
  (hY:∀ (w:World) (h:Heap),YP w h→(K w.params).In h)
  (F:∀ (w:World) (mg:Str→Option Value) (fa:Addr) (h:Heap),(K w.params).In h→h.Ns mainGlobals mg→mg d.name=some (.ref fa) →
   ∃ fd:FuncData,(∀ (s:Shared) (u:Value),BindsTo s fd ⟨[u],[]⟩ [(x,u)]) ∧
    ∀ base:Heap,(K w.params).In base→base.Ns mainGlobals mg→FnOk l.prog w (K w.params) mg base CX k fa fd [x] (sp (K w.params)))
  (hsp:∀ (K:PySem.W.Frag) (H:Hp) (a:Addr) (ns:List Int),ns.length≤n→Wu H→SqL K H a (ns.map V.int)→sp K [.ref a] H (fun v _=>v=.bl true) fun _ _ _=>False)
  (hCX:∀ (H:Hp) (s:Shared) (e:Value) (s':Shared),CX [] H s (fun _ _ _=>False) e s'→False) :
  PySem.W.WalkO q loose XP YP l.row.toRowW d [] (fun f vs=>PySem.call f vs) :=
 W5 (K:=K) (CX:=fun _=>CX) (sp:=fun w=>sp (K w.params)) hn hn2 hdf hr hY F (fun w H a ns h1 h2 h3=>hsp (K w.params) H a ns h1 h2 h3) fun _ H s e s'=>hCX H s e s'
end L2
namespace L2
open PySem PySem.Spec PyProof.Rows
def xh (s:Stmt) (j:Nat):Stmt:=match s with
 | .ClassDef _ _ _ body _ _ _ _ _ _ _=>body.getD j (.Pass ⟨0,0,0,0⟩)
 | _=>.Pass ⟨0,0,0,0⟩
def zD (s:Stmt):Arguments:=match s with
 | .FunctionDef _ a _ _ _ _ _ _ _ _=>a
 | _=>{ posonlyargs:=[],args:=[],vararg:=none,kwonlyargs:=[],kw_defaults:=[],kwarg:=none,defaults:=[] }
def zz (s:Stmt):List Stmt:=match s with
 | .FunctionDef _ _ b _ _ _ _ _ _ _=>b
 | _=>[]
def zi (s:Stmt):Scope:=match s with
 | .FunctionDef _ _ _ _ _ _ sc _ _ _=>sc
 | _=>{ kind:=.function,names:=[],isGenerator:=false,isCoroutine:=false }
abbrev E0:XK:=fun _ _ _=>False
structure Fun (K:PySem.W.Frag) (x qual:Str) (st:Stmt) (f:Addr) (fd:FuncData):Prop where
 ex:∃ (oc:Value) (od:Option Addr) (kV doc pm:Value) (an:Option Addr) (cdv ct:Value) (osl:Array (Option Value)),
  fd=PySem.W.fnOf x qual (zD st) (zz st) (zi st) .none kV doc pm an cdv ct∧K.lookup f=some ⟨oc,od,.func fd,osl⟩∧PySem.W.codeIn K cdv qual=true
 kp:PySem.W.keepIn K (.ref f)=true
section
variable {P:Program} {w:World} {K:PySem.W.Frag} {mg:Str→Option Value} {base:Heap}
theorem Fun.binds {x qual:Str} {st:Stmt} {f:Addr} {fd:FuncData} {ps:List Str} (F:Fun K x qual st f fd)
  (h:∀ (kV doc pm:Value) (an:Option Addr) (cdv ct:Value) (us:List Value),us.length=ps.length→bindArgs (PySem.W.fnOf x qual (zD st) (zz st) (zi st) .none kV doc pm an cdv ct) ⟨us,[]⟩=pure (ps.zip us)):Binds K fd ps []:=by
 obtain ⟨oc,od,kV,doc,pm,an,cdv,ct,osl,rfl,lk,hcd⟩:=F.ex
 exact .all (h kV doc pm an cdv ct)
theorem zP {x qual:Str} {st:Stmt} {f:Addr} {oc:Value} {od an:Option Addr} {osl:Array (Option Value)} {kV doc pm cdv ct:Value} (l:K.lookup f=some ⟨oc,od,.func (PySem.W.fnOf x qual (zD st) (zz st) (zi st) .none kV doc pm an cdv ct),osl⟩)
  (c:PySem.W.codeIn K cdv qual=true) (k:PySem.W.keepIn K (.ref f)=true):Fun K x qual st f (PySem.W.fnOf x qual (zD st) (zz st) (zi st) .none kV doc pm an cdv ct):=⟨⟨oc,od,kV,doc,pm,an,cdv,ct,osl,rfl,l,c⟩,k⟩
end
section
variable {X:Cx}
theorem pv (i:Nat) {x:Str} {pos:Pos} (hN:X.N[i]?=some x:=by rfl) (hv:Vis X.env.scope x:=by first | exact Or.inl rfl | exact Or.inr (Or.inl rfl) | exact Or.inr (Or.inr rfl)) (hd:(x == ("__debug__":Str))=false:=by decide)
  (hcd:(x == ("__classdict__":Str))=false:=by decide):PE X (.Name x pos) (ze i):=QF hN hv hd hcd
end
theorem vM {c A B:Prop} [Decidable c] (h1:c→A) (h2:¬ c→B):if c then A else B:=by
 by_cases h:c
 ·rw [if_pos h]
  exact h1 h
 ·rw [if_neg h]
  exact h2 h
def Same (H H':Hp):Prop:=∀ b o,H b=some o→H' b=some o
theorem Same.refl (H:Hp):Same H H:=fun _ _ h=>h
theorem Same.trans {H H1 H2:Hp} (a:Same H H1) (b:Same H1 H2):Same H H2:=fun c o h=>b c o (a c o h)
theorem Same.free {H H':Hp} (e:Same H H') {l:Addr} (h:H' l=Option.none):H l=Option.none:=by
 cases q:H l with
 | none=>rfl
 | some o =>
  rw [e l o q] at h
  cases h
end L2
namespace L2
open PySem PySem.Spec PyProof.Rows
section
variable {X:Cx}
end
section
variable {κ:Type} [DecidableEq κ]
theorem Ja {kvs:List (κ × V)} {k:κ} (h:wn kvs k=none):¬ k∈kvs.map (·.1):=by
 intro m
 obtain ⟨p,hp,e⟩:=List.mem_map.mp m
 have q:(kvs.any fun kv=>decide (kv.1=k))=true:=List.any_eq_true.mpr ⟨p,hp,decide_eq_true e⟩
 rw [kE,h] at q
 exact absurd q (by simp)
theorem W6:∀ {l:List κ} {k:κ},l.Nodup→¬ k∈l→(l ++ [k]).Nodup
 | [],k,_,_=>by simp
 | a :: r,k,h,hk=>by
  obtain ⟨h1,h2⟩:=List.nodup_cons.mp h
  show (a :: (r ++ [k])).Nodup
  refine List.nodup_cons.mpr ⟨fun m=>?_,W6 h2 fun m=>hk (List.mem_cons.mpr (Or.inr m))⟩
  rcases List.mem_append.mp m with q | q
  ·exact h1 q
  ·exact hk (List.mem_cons.mpr (Or.inl (List.mem_singleton.mp q).symm))
theorem KG {kvs:List (κ × V)} {k:κ} (v:V) (hn:(kvs.map (·.1)).Nodup) (h:wn kvs k=none):((qT kvs k v).map (·.1)).Nodup:=by
 rw [Xw v h,List.map_append]
 exact W6 hn (Ja h)
theorem Vu {p:κ × V} {r:List (κ × V)} {k:κ} (e:¬ p.1=k):Yu (p :: r) k=p :: Yu r k:=by
 unfold Yu
 rw [List.filter_cons,if_pos (by simp [e])]
theorem Jb:∀ {kvs:List (κ × V)} {k:κ},¬ k∈kvs.map (·.1)→Yu kvs k=kvs
 | [],_,_=>rfl
 | p :: r,k,h=>by
  have h':¬ k∈r.map (·.1):=fun m=>by
   obtain ⟨q,hq,e⟩:=List.mem_map.mp m
   exact h (List.mem_map.mpr ⟨q,List.mem_cons.mpr (Or.inr hq),e⟩)
  rw [Vu fun e=>h (List.mem_map.mpr ⟨p,List.mem_cons.mpr (Or.inl rfl),e⟩),Jb h']
end
end L2
set_option Elab.async false
set_option linter.all false
set_option maxRecDepth 100000
set_option maxHeartbeats 4000000
namespace L2
open PySem PySem.Spec PyProof.Rows
def Cx.comp (X:Cx) (scope:Scope) (cl:List (Str × Addr)) (C:Addr) (N:List Str) (fp:List Addr) (s:Shared) (H:Hp):Cx :=
 { X with env:=compEnvC scope cl C X.env,N:=N,s₀:=s,H₀:=H,outer:=X.stack,ex:=fp,fn:=fun _=>false,pn:=[],xe:=fun _ _=>False }
structure jQ (X:Cx) (scope:Scope) (cl:List (Str × Addr)) (ix:List Nat):Prop where
 clos:closureFor scope X.env=pure cl
 nocell:∀ y∈scope.names,y.2≠.cell
 kind:scope.kind=.function
 names:∀ y∈scope.names,y.2=.local→scope.names.lookup y.1=some .local
 sub:∀ y c,cl.lookup y=some c→X.env.cells.lookup y=some c
 has:∀ y,((relabel scope X.env).names.lookup y=some .cell∨(relabel scope X.env).names.lookup y=some .free)→∃ c,cl.lookup y=some c
 cap:∀ i∈ix,∃ y,X.N[i]?=some y∧(X.env.kindOf y=some .cell∨X.env.kindOf y=some .free)∧((relabel scope X.env).names.lookup y=some .cell∨(relabel scope X.env).names.lookup y=some .free)
def ZB (scope:Scope) (env:Env):List (Str × Addr):=scope.names.foldl (fun cs y=>if y.2 == .free then (y.1,(env.cells.lookup y.1).getD 0) :: cs else cs) []
def Jc (osc:Scope) (N:List Str) (sc:Scope) (ix:List Nat):Bool :=
 sc.kind == .function && sc.names.all (fun y=>y.2 != .cell && (y.2 != .local || sc.names.lookup y.1 == some .local) && (y.2 != .free || osc.names.lookup y.1 == some .cell || osc.names.lookup y.1 == some .free)) &&
  ix.all fun i=>match N[i]? with
   | some y=>sc.names.lookup y == some .free
   | none=>false
theorem wp {l:List (Str × NameKind)} {y:Str} {k:NameKind} (h:l.lookup y=some k):(y,k)∈l:=PySem.mem_of_lookup h
theorem vN {env:Env}:∀ {names:List (Str × NameKind)} {x:Str} {k:NameKind},(names.map fun (n,k)=>if (k == NameKind.free && env.scope.kind == .function && env.kindOf n == some .cell) then (n,NameKind.cell) else (n,k)).lookup x=some k →
  ∃ k',names.lookup x=some k'∧(k'=.free∨k'=k)
 | [],_,_,h=>by simp at h
 | (n,k') :: r,x,k,h=>by
  have ih:=@vN env r x k
  rw [List.map_cons] at h
  cases hx:x == n with
  | true =>
   by_cases hc:(k' == NameKind.free && env.scope.kind == .function && env.kindOf n == some .cell)=true
   ·have e:k'=.free:=by
     have:=(Bool.and_eq_true _ _ ▸ (Bool.and_eq_true _ _ ▸ hc).1).1
     simpa using this
    exact ⟨k',by simp [List.lookup_cons,hx],.inl e⟩
   ·simp only [if_neg hc,List.lookup_cons,hx] at h
    exact ⟨k',by simp [List.lookup_cons,hx],.inr (Option.some.inj h)⟩
  | false =>
   have h':(r.map fun (n,k)=>if (k == NameKind.free && env.scope.kind == .function && env.kindOf n == some .cell) then (n,NameKind.cell) else (n,k)).lookup x=some k:=by
    by_cases hc:(k' == NameKind.free && env.scope.kind == .function && env.kindOf n == some .cell)=true
    ·simp only [if_pos hc,List.lookup_cons,hx] at h;exact h
    ·simp only [if_neg hc,List.lookup_cons,hx] at h;exact h
   obtain ⟨q,e,r'⟩:=ih h'
   exact ⟨q,by simp only [List.lookup_cons,hx];exact e,r'⟩
theorem kF {env:Env}:∀ {names:List (Str × NameKind)} {x:Str},names.lookup x=some .free →
  ((names.map fun (n,k)=>if (k == NameKind.free && env.scope.kind == .function && env.kindOf n == some .cell) then (n,NameKind.cell) else (n,k)).lookup x=some .cell ∨
   (names.map fun (n,k)=>if (k == NameKind.free && env.scope.kind == .function && env.kindOf n == some .cell) then (n,NameKind.cell) else (n,k)).lookup x=some .free)
 | [],_,h=>by simp at h
 | (n,k') :: r,x,h=>by
  have ih:=@kF env r x
  rw [List.map_cons]
  cases hx:x == n with
  | true =>
   simp only [List.lookup_cons,hx] at h
   cases h
   by_cases hc:(NameKind.free == NameKind.free && env.scope.kind == .function && env.kindOf n == some .cell)=true
   ·left;simp only [if_pos hc,List.lookup_cons,hx]
   ·right;simp only [if_neg hc,List.lookup_cons,hx]
  | false =>
   simp only [List.lookup_cons,hx] at h
   by_cases hc:(k' == NameKind.free && env.scope.kind == .function && env.kindOf n == some .cell)=true
   ·simp only [if_pos hc,List.lookup_cons,hx];exact ih h
   ·simp only [if_neg hc,List.lookup_cons,hx];exact ih h
theorem Yy {env:Env}:∀ (l:List (Str × NameKind)) (cs:List (Str × Addr)),(∀ y∈l,y.2=.free→∃ c,env.cells.lookup y.1=some c) →
  (∀ y c,cs.lookup y=some c→env.cells.lookup y=some c)→∀ y c,(l.foldl (fun cs y=>if y.2 == .free then (y.1,(env.cells.lookup y.1).getD 0) :: cs else cs) cs).lookup y=some c→env.cells.lookup y=some c
 | [],_,_,h,y,c,e=>h y c e
 | z :: r,cs,hl,h,y,c,e=>by
  rw [List.foldl_cons] at e
  refine Yy r _ (fun y hy=>hl y (List.mem_cons_of_mem _ hy)) (fun y' c' e'=>?_) y c e
  by_cases hz:z.2=.free
  ·obtain ⟨c0,h0⟩:=hl z List.mem_cons_self hz
   have hb:(z.2 == NameKind.free)=true:=by simpa using hz
   rw [if_pos hb,h0,List.lookup_cons] at e'
   cases hq:y' == z.1 with
   | true =>
    rw [hq] at e'
    have e2:y'=z.1:=by simpa using hq
    cases e'
    rw [e2];exact h0
   | false=>rw [hq] at e';exact h _ _ e'
  ·have hb:(z.2 == NameKind.free)=false:=by simpa using hz
   rw [hb] at e'
   exact h _ _ e'
theorem Xy {env:Env}:∀ (l:List (Str × NameKind)) (cs:List (Str × Addr)) (y:Str),((∃ c,cs.lookup y=some c)∨(y,NameKind.free)∈l) →
  ∃ c,(l.foldl (fun cs y=>if y.2 == .free then (y.1,(env.cells.lookup y.1).getD 0) :: cs else cs) cs).lookup y=some c
 | [],_,_,h=>h.elim id fun z=>nomatch z
 | z :: r,cs,y,h=>by
  rw [List.foldl_cons]
  refine Xy r _ y ?_
  rcases h with ⟨c,h⟩ | h
  ·left
   by_cases hz:(z.2 == NameKind.free)=true
   ·rw [if_pos hz,List.lookup_cons]
    cases y == z.1 with
    | true=>exact ⟨_,rfl⟩
    | false=>exact ⟨c,h⟩
   ·rw [if_neg hz];exact ⟨c,h⟩
  ·rcases List.mem_cons.mp h with h | h
   ·left
    subst h
    rw [if_pos (by rfl),List.lookup_cons]
    simp
   ·exact .inr h
theorem YV {env:Env}:∀ (l:List (Str × NameKind)) (cs:List (Str × Addr)),(∀ y∈l,y.2=.free→∃ c,env.cells.lookup y.1=some c) →
  forIn (m:=Sem) l cs (fun x r=>match x with | (name,kind)=>if (kind == NameKind.free)=true then do let c ← cellOf env name;pure (ForInStep.yield ((name,c) :: r)) else pure (ForInStep.yield r)) =
   pure (l.foldl (fun cs y=>if y.2 == .free then (y.1,(env.cells.lookup y.1).getD 0) :: cs else cs) cs)
 | [],_,_=>rfl
 | (n,k) :: r,cs,h=>by
  rw [List.forIn_cons,List.foldl_cons]
  by_cases hz:(k == NameKind.free)=true
  ·obtain ⟨c,hc⟩:=h (n,k) List.mem_cons_self (by simpa using hz)
   have e:cellOf env n=pure c:=by unfold cellOf;rw [hc]
   simp only [hz,if_true,e,pure_bind]
   rw [YV r _ fun y hy=>h y (List.mem_cons_of_mem _ hy)]
   simp only [hc,Option.getD_some]
  ·simp only [hz,if_false,pure_bind]
   exact YV r _ fun y hy=>h y (List.mem_cons_of_mem _ hy)
theorem YW {X:Cx} {osc scope:Scope} {N:List Str} {ix:List Nat} (ok:X.Ok) (h:Jc osc N scope ix=true) (hs:X.env.scope=osc) (hN:X.N=N):jQ X scope (ZB scope X.env) ix:=by
 subst hs hN
 unfold Jc at h
 rw [Bool.and_eq_true,Bool.and_eq_true,List.all_eq_true,List.all_eq_true] at h
 obtain ⟨⟨h1,h2⟩,h3⟩:=h
 have p:∀ y∈scope.names,y.2≠.cell∧(y.2=.local→scope.names.lookup y.1=some .local)∧(y.2=.free→X.env.kindOf y.1=some .cell∨X.env.kindOf y.1=some .free):=fun y hy=>by
  have q:=h2 y hy
  rw [Bool.and_eq_true,Bool.and_eq_true] at q
  obtain ⟨⟨q1,q2⟩,q3⟩:=q
  refine ⟨by simpa using q1,fun e=>?_,fun e=>?_⟩
  ·rw [e] at q2;simpa using q2
  ·rw [e] at q3
   have q3':X.env.scope.names.lookup y.1=some .cell∨X.env.scope.names.lookup y.1=some .free:=by simpa using q3
   exact q3'
 have f:∀ y∈scope.names,y.2=.free→∃ c,X.env.cells.lookup y.1=some c:=fun y hy e=>ok.has y.1 ((p y hy).2.2 e)
 refine ⟨?_,fun y hy=>(p y hy).1,by simpa using h1,fun y hy=>(p y hy).2.1,fun y c e=>Yy scope.names [] f (fun _ _ z=>by simp at z) y c e,fun y hy=>?_,fun i hi=>?_⟩
 ·have e:=YV scope.names [] f
  unfold closureFor ZB
  refine Eq.trans (congrArg (fun m=>m >>= fun s=>(pure s:Sem (List (Str × Addr)))) e) ?_
  rw [pure_bind]
 ·refine Xy scope.names [] y (.inr ?_)
  rcases hy with hy | hy
  ·obtain ⟨k',e,z | z⟩:=vN hy
   ·subst z;exact wp e
   ·subst z;exact absurd rfl (p _ (wp e)).1
  ·obtain ⟨k',e,z | z⟩:=vN hy
   ·subst z;exact wp e
   ·subst z;exact wp e
 ·have q:=h3 i hi
  cases hy:X.N[i]? with
  | none=>rw [hy] at q;cases q
  | some y =>
   rw [hy] at q
   have q':scope.names.lookup y=some .free:=by simpa using q
   exact ⟨y,rfl,(p _ (wp q')).2.2 rfl,kF q'⟩
def ZC (ix:List Nat) (σ:St):St:=ix.map fun i=>(σ[i]?).getD none
def ji (ix:List Nat) (N:List Str):List Str:=ix.map fun i=>(N[i]?).getD ""
section
variable {X:Cx} {pins:List (Addr × Obj)} {σ:St} {H:Hp} {s:Shared} {scope:Scope} {cl:List (Str × Addr)} {ix:List Nat} {fp:List Addr} {C:Addr} {xs:List Str}
theorem Inv.compOk (I:Inv X pins σ H s) (S:jQ X scope cl ix) (hC:C=s.heap.objs.size) (hf:∀ b∈fp,j5 X pins H b) (hl:∀ b∈fp,b < s.heap.objs.size) (N':List Str) :
  (X.comp scope cl C N' fp s H).Ok where
 mod:=I.ok.mod
 kind:=S.kind
 glob:=I.ok.glob
 blt:=I.ok.blt
 above:=Nat.le_of_eq hC.symm
 inj:=fun x y c h1 h2=>I.ok.inj x y c (S.sub x c h1) (S.sub y c h2)
 has:=fun x hx=>S.has x hx
 cab:=fun x c h1 _=>nomatch h1
 hd:=I.ok.hd
 frames:=I.ok.frames
 stk:=.inl rfl
 exf:=fun b hb=>⟨fun z=>absurd (hl b hb) (by rw [z];show ¬ C < _;rw [hC];exact Nat.lt_irrefl _),fun x c h=>(hf b hb).2.2.2.2.1 x c (S.sub x c h)⟩
 bs:=I.bs
 bsz:=Nat.le_trans I.ok.bsz I.sz
 noex:=fun b o e hb=>by
  rcases (hf b hb).2.2.2.1 with z | z
  ·exact I.ok.noex b o e z
  ·exact absurd (Nat.lt_of_lt_of_le (Heap.lt_size e) (Nat.le_trans I.ok.bsz z)) (Nat.lt_irrefl _)
 exfs:=fun b hb z=>by
  rcases List.mem_cons.mp (I.stkSub b z) with e | e
  ·exact (hf b hb).2.1 e
  ·exact (hf b hb).2.2.1 e
 funs:=I.stack
 frf:=I.stkFree
theorem Inv.comp {h₁:Heap} {m₁:Str→Option Value} {t':Nat} (I:Inv X pins σ H s) (S:jQ X scope cl ix) (hC:C=s.heap.objs.size) (hf:∀ b∈fp,j5 X pins H b) (hl:∀ b∈fp,b < s.heap.objs.size)
  (hn:h₁.Ns C m₁) (hk:∀ b o,s.heap.get? b=some o→h₁.get? b=some o) :
  Inv (X.comp scope cl C (xs ++ ji ix X.N) fp s H) [] (List.replicate xs.length none ++ ZC ix σ) H { s with heap:=h₁,toks:=t' } where
 ok:=I.compOk S hC hf hl _
 os:=rfl
 bare:=I.bare
 base:=Un.kept hk
 loc:=by
  refine ⟨m₁,hn,fun i y v e1 e2 e3=>?_⟩
  by_cases hi:i < xs.length
  ·rw [List.getElem?_append_left (by simpa using hi),List.getElem?_replicate,if_pos hi] at e2
   cases e2
  ·have e1':(xs ++ ji ix X.N)[i]?=some y:=e1
   rw [List.getElem?_append_right (by lia)] at e1'
   rw [List.getElem?_append_right (by rw [List.length_replicate];lia),List.length_replicate] at e2
   generalize i - xs.length=j at e1' e2
   unfold ji at e1'
   unfold ZC at e2
   rw [List.getElem?_map] at e1' e2
   cases hj:ix[j]? with
   | none=>rw [hj] at e1';cases e1'
   | some k =>
    rw [hj] at e1' e2
    obtain ⟨y',c1,c2,c3⟩:=S.cap k (List.mem_of_getElem? hj)
    have ey:y'=y:=by
     have q:(X.N[k]?).getD ""=y:=Option.some.inj e1'
     rw [c1] at q
     exact q
    subst ey
    have ev:σ[k]?=some (some v):=by
     have q:(σ[k]?).getD none=some v:=Option.some.inj e2
     cases hs:σ[k]? with
     | none=>rw [hs] at q;cases q
     | some o=>rw [hs] at q;exact congrArg some q
    obtain ⟨m,hm,hv⟩:=I.loc
    obtain ⟨u,r,l⟩:=hv k y' v c1 ev (c2.elim (fun z=>.inr (.inl z)) fun z=>.inr (.inr z))
    refine ⟨u,r,.inr ⟨c3,?_⟩⟩
    rcases l with ⟨l1,_⟩ | ⟨_,c,lc,⟨o,ho,hd⟩⟩
    ·rcases c2 with z | z <;> (rw [l1] at z;cases z)
    ·obtain ⟨c',hc'⟩:=S.has y' c3
     have e:=S.sub _ _ hc'
     rw [lc] at e
     cases e
     exact ⟨c,hc',o,hk _ _ ho,hd⟩
 cell:=fun x c e=>by
  obtain ⟨v,o,ho,hd⟩:=I.cell x c (S.sub x c e)
  exact ⟨v,o,hk _ _ ho,hd⟩
 free:=I.hok.fresh (Nat.le_of_eq hC.symm)
 freeC:=fun x c e=>I.freeC x c (S.sub x c e)
 pin:=fun p hp=>absurd (show p∈([]:List (Addr × Obj)) from hp) (by simp)
 hok:=I.hok.kept hk
 len:=by
  show (List.replicate xs.length none ++ ZC ix σ).length=(xs ++ ji ix X.N).length
  rw [List.length_append,List.length_append,List.length_replicate,ZC,ji,List.length_map,List.length_map]
theorem Inv.uncomp {s':Shared} {σ':St} {H':Hp} {N':List Str} {h':Heap} (I:Inv X pins σ H s) (hC:C=s.heap.objs.size) (hf:∀ b∈fp,j5 X pins H b)
  (J:Inv (X.comp scope cl C N' fp s H) [] σ' H' s') (hb:Heap.SameBut C s'.heap h'):Inv X pins σ H' { s' with heap:=h' }:=by
 have lt:∀ b o,s.heap.get? b=some o→b≠C:=fun b o e=>by
  rw [hC];exact Nat.ne_of_lt (Heap.lt_size e)
 have B:Un (frs X.stack) fp H H' s.heap s'.heap:=J.base
 refine I.call' (s':={ s' with heap:=h' }) (ch:=fp) J.os ?_ ?_ J.bare ?_
 ·exact ⟨fun b o e n h1 h2=>(hb.2 b (lt b o e)).trans (B.keep b o e n h1 h2),fun b o e n h1 h2=>by
   obtain ⟨sl,q⟩:=B.slot b o e n h1 h2
   exact ⟨sl,(hb.2 b (lt b o e)).trans q⟩,B.free,fun b o e h1=>by
   obtain ⟨o',q⟩:=B.there b o e h1
   exact ⟨o',(hb.2 b (lt b o e)).trans q⟩,B.tups,B.frzs,B.tbls⟩
 ·intro b o e
  refine (J.hok b o e).stay (fun c u hc q=>(hb.2 c ?_).trans q) (fun _ q=>q) fun _ _ q=>q
  have hC0:H' C=none:=J.free
  rintro rfl
  rcases hc with rfl | hc
  ·rw [hC0] at e;cases e
  ·rw [hC0] at hc;cases hc
 ·intro b hb'
  obtain ⟨f0,f1,f2,f3,f4,f5⟩:=hf b hb'
  exact ⟨f3,f1,f4,f5⟩
end
def PTs (X:Cx) (ifs:List Expr) (t:TT):Prop :=
 ∀ (pins:List (Addr × Obj)) (s:Shared) (σ:St) (H:Hp) (Q:Bool→Hp→Prop),Inv X pins σ H s→t σ H Q →
  wpAny (model X.prog X.w) X.A (forIn ifs true fun c r=>if r=true then do let ok ← isTrue c X.env (eval c X.env);pure (ForInStep.yield ok) else pure (ForInStep.yield r)) (TP X pins σ Q) X.xe s
def Z8:TT:=fun _ H Q=>Q true H
theorem YX {X:Cx}:PTs X [] Z8:=fun _ _ _ H _ I h=>wpAny_tests_nil ⟨H,I,h⟩
section
variable {prog:Program} {w:World} {A:Around} {R:Result→Shared→Prop} {s:Shared}
theorem YY {elt target iter:Expr} {ifs:List Expr} {scope:Scope} {pos:Pos} {it acc:Value} {env:Env} (W:Nat→Shared→Prop) {EE:Value→Shared→Prop}
  (hE:∀ e s',EE e s'→notedBy (model prog w) A env (fun e s'=>R (.error e) s') e s')
  (turn:∀ n s,W n s→wpAny (model prog w) A (pyNext it) (fun r s₁=>match r with
   | none=>R (.ok .next) s₁
   | some v=>wpAny (model prog w) A (letOwnedTupleGo target it v) (fun _ t₁=>wpAny (model prog w) A (assign target env v) (fun _ s₂ =>
     wpAny (model prog w) A (forIn ifs true fun c r=>if r=true then do let ok ← isTrue c env (eval c env);pure (ForInStep.yield ok) else pure (ForInStep.yield r)) (fun ok s₃ =>
      if ok=true then wpAny (model prog w) A (eval elt env) (fun x s₄=>wpAny (model prog w) A (call (.builtin "list.append") [acc,x]) (fun _ s₅=>∃ m,m < n∧W m s₅) EE s₄) EE s₃
      else ∃ m,m < n∧W m s₃) EE s₂) EE t₁) EE s₁) EE s)
  (n:Nat) (h:W n s):codeAny (model prog w) A (.compLoop (.ListComp elt [⟨target,iter,ifs,0⟩] scope pos) 0 it acc env) R s:=by
 refine codeAny_loop rfl W (fun n s hW=>?_) n h
 show wpAny _ A ((compTurn (.ListComp elt [⟨target,iter,ifs,0⟩] scope pos) 0 it acc env).onRaise (fun x=>do noteFrame x env;theTreesLotGoes x)) _ _ s
 refine wpAny_noted (wpAny_mono ?_ (fun _ _ q=>q) hE)
 rw [compTurn_list]
 refine wpAny_bind (wpAny_standAt (wpAny_bind (thn (turn n s hW) fun r s₁ h₁=>?_)))
 cases r with
 | none=>exact wpAny_pure h₁
 | some v =>
  refine wpAny_bind (thn h₁ fun _ t₁ k₁=>?_)
  refine wpAny_bind (thn k₁ fun _ s₂ h₂=>wpAny_bind (thn h₂ fun ok s₃ h₃=>?_))
  cases ok with
  | false=>exact wpAny_pure ⟨rfl,h₃⟩
  | true=>exact wpAny_bind (wpAny_bind (thn h₃ fun x s₄ h₄=>wpAny_bind (thn h₄ fun _ s₅ h₅=>wpAny_pure (wpAny_pure ⟨rfl,h₅⟩))))
end
def jj (wi:TI) (g:TG) (tt:TT) (te:TE) (k:Nat) (ix:List Nat):TE:=fun σ H Q=>wi σ H fun J H1=>∀ D,H1 D=none →
 ∃ W:Nat→Nat→List V→St→Hp→Prop,(∃ m,W 0 m [] (List.replicate k none ++ ZC ix σ) (upd H1 D (.lst [])))∧∀ i m ys τ H,W i m ys τ H→H D=some (.lst ys) ∧
  ((J.stop i H∧Q (.ref D) H)∨(J.go i H∧ys.length < sizeLine∧∃ N:V→St→Hp→Prop,
   (∀ v τ' H',N v τ' H'→H' D=some (.lst ys)∧∃ m',m' < m∧W (i + 1) m' (ys ++ [v]) τ' (upd H' D (.lst (ys ++ [v]))))∧∃ Nf:St→Hp→Prop,(∀ τ' H',Nf τ' H'→∃ m',m' < m∧W (i + 1) m' ys τ' H') ∧
   ∀ x H',J.yld i H x H'→g x τ H' fun τ2 H2=>tt τ2 H2 fun b H3=>if b=true then te τ2 H3 fun v H4=>N v τ2 H4 else Nf τ2 H3))
section
variable {X:Cx} {elt iter tg:Expr} {ifs:List Expr} {scope:Scope} {pos:Pos} {cl:List (Str × Addr)} {ix:List Nat} {xs:List Str} {wi:TI} {g:TG} {tt:TT} {te:TE}
theorem Wv (S:jQ X scope cl ix) (hc:X.calm=true) (hi:PI X tg iter wi)
  (hg:∀ C fp s H,PG (X.comp scope cl C (xs ++ ji ix X.N) fp s H) tg g) (ht:∀ C fp s H,PTs (X.comp scope cl C (xs ++ ji ix X.N) fp s H) ifs tt)
  (he:∀ C fp s H,PE (X.comp scope cl C (xs ++ ji ix X.N) fp s H) elt te)
  {pins:List (Addr × Obj)} {s:Shared} {σ:St} {H:Hp} {Q:VK} (I:Inv X pins σ H s) (h:jj wi g tt te xs.length ix σ H Q) {RR:Value→Addr→Result→Shared→Prop}
  (hR:∀ v u s' C,RelV v u→(∃ H',Q v H'∧(∃ m,s'.heap.Ns C m)∧(∀ h',Heap.SameBut C s'.heap h'→Inv X pins σ H' { s' with heap:=h' })∧j5 X pins H' C)→RR u C (.ok .next) s') :
  wpAny (model X.prog X.w) X.A (eval iter X.env) (fun x s₁=>wpAny (model X.prog X.w) X.A (pyIter x) (fun it s₂=>wpAny (model X.prog X.w) X.A (newList []) (fun acc s₃ =>
   wpAny (model X.prog X.w) X.A (newFunctionEnv scope X.env.globals cl [] X.env.qual none .none (some X.env)) (fun cenv s₄ =>
    codeAny (model X.prog X.w) X.A (.compStart (.ListComp elt [⟨tg,iter,ifs,0⟩] scope pos) 0 it acc { cenv with scope:=relabel scope X.env }) (RR acc cenv.locals) s₄) X.xe s₃) X.xe s₂) X.xe s₁) X.xe s:=by
 refine thn (hi pins s σ H _ I h) fun v s1 h1=>thn h1 fun itv s2 h2=>?_
 obtain ⟨it,fp,tn,J,H2,e,I2,T,st2,f2,hW⟩:=h2
 subst e
 refine wpAny_newObj_type (wpAny_newFunctionEnv S.nocell (fun y hy=>nomatch hy) (fun h₁ hns₁ hsb₁=>?_) S.kind)
 dsimp only at hns₁ hsb₁ ⊢
 obtain ⟨W,⟨m0,w0⟩,turn⟩:=hW s2.heap.objs.size I2.fresh
 have I3:=I2.lnew (t':=s2.toks) (ys:=[]) (its:=[]) .nil (Nat.zero_le _)
 have hl3:∀ b∈fp,b < s2.heap.objs.size:=fun b hb=>by
  obtain ⟨o,e,_⟩:=T.obj _ _ st2 b hb
  exact Heap.lt_size e
 generalize hs3:({ s2 with heap:=s2.heap.push { cls:=.type "list",data:=.seq ([]:List Value).toArray },toks:=s2.toks }:Shared)=s3 at I3
 have hs3h:s3.heap=s2.heap.push { cls:=.type "list",data:=.seq ([]:List Value).toArray }:=by rw [← hs3]
 have hsz:s3.heap.objs.size=s2.heap.objs.size + 1:=by rw [hs3h,Heap.size_push]
 have f3:∀ b∈fp,j5 X pins (upd H2 s2.heap.objs.size (.lst [])) b:=fun b hb=>by
  obtain ⟨q0,q⟩:=f2 b hb
  exact ⟨by rw [zk (Nat.ne_of_lt (hl3 b hb))];exact q0,q⟩
 have hl3':∀ b∈fp,b < s3.heap.objs.size:=fun b hb=>by rw [hsz];exact Nat.lt_succ_of_lt (hl3 b hb)
 rw [← hs3h] at hns₁ hsb₁ ⊢
 have hk:∀ b o,s3.heap.get? b=some o→h₁.get? b=some o:=fun b o e=>(hsb₁.2 b (Nat.ne_of_lt (Heap.lt_size e))).trans (Heap.get?_push_of_some _ e)
 have hk2:∀ b o,s2.heap.get? b=some o→s3.heap.get? b=some o:=fun b o e=>by rw [hs3h];exact Heap.get?_push_of_some _ e
 have J0:=I3.comp (xs:=xs) (t':=s2.toks) (C:=s3.heap.objs.size) S rfl f3 hl3' hns₁ hk
 have st3:tn 0 h₁:=T.keep _ _ _ st2 fun b _ o e=>hk b o (hk2 b o e)
 have loop:∀ tk,codeAny (model X.prog X.w) X.A (.compLoop (.ListComp elt [⟨tg,iter,ifs,0⟩] scope pos) 0 (.ref it) (.ref s2.heap.objs.size) (compEnvC scope cl s3.heap.objs.size X.env))
   (RR (.ref s2.heap.objs.size) s3.heap.objs.size) { s3 with heap:=h₁,toks:=tk }:=by
  intro tk
  refine YY (EE:=fun _ _=>False) (fun n s'=>∃ i ys τ H',Inv (X.comp scope cl s3.heap.objs.size (xs ++ ji ix X.N) fp s3 (upd H2 s2.heap.objs.size (.lst []))) [] τ H' s'∧tn i s'.heap∧(∀ b∈fp,H' b=none)∧W i n ys τ H')
   (fun _ _ z=>z.elim) ?_ m0 ⟨0,[],_,_,J0.tok tk,st3,fun b hb=>(f3 b hb).1,w0⟩
  rintro n s' ⟨i,ys,τ,H',I',st',fr',w'⟩
  have stat:∀ {H':Hp},(∀ b∈fp,H' b=none)→∀ b∈fp,j5 (X.comp scope cl s3.heap.objs.size (xs ++ ji ix X.N) fp s3 (upd H2 s2.heap.objs.size (.lst []))) [] H' b:=fun hn b hb =>
   ⟨hn b hb,(I'.ok.exf b hb).1,I'.ok.exfs b hb,.inl hb,(I'.ok.exf b hb).2,fun p hp=>absurd (show p∈([]:List (Addr × Obj)) from hp) (by simp)⟩
  obtain ⟨hD,⟨stop,q⟩ | ⟨go,hz,N,hN,Nf,hNf,step⟩⟩:=turn i n ys τ H' w'
  ·refine thn (T.done (X.comp scope cl s3.heap.objs.size (xs ++ ji ix X.N) fp s3 (upd H2 s2.heap.objs.size (.lst []))) rfl rfl rfl hc i [] s' τ H' _ I' (stat fr') st' stop) fun r s4 ⟨hr,I4⟩=>?_
   subst hr
   refine hR (.ref s2.heap.objs.size) _ s4 _ rfl ⟨H',q,?_,fun h' hb=>I3.uncomp rfl f3 I4 hb,I3.fpOk (Nat.le_refl _) I4.free⟩
   obtain ⟨m,hn,_⟩:=I4.loc
   exact ⟨m,hn⟩
  ·refine thn (T.item (X.comp scope cl s3.heap.objs.size (xs ++ ji ix X.N) fp s3 (upd H2 s2.heap.objs.size (.lst []))) rfl rfl rfl hc i [] s' τ H' _ I' (stat fr') st' go) fun r s4 ⟨u,hr,h4⟩=>?_
   subst hr
   refine thn h4 fun _ s5 ⟨x,H5,I5,r5,y5,st5,fr5⟩=>?_
   have I5':=I5.pinned (stat fr5) (T.obj _ _ st5)
   refine thn (hg _ _ _ _ _ s5 τ H5 x u _ I5' r5 (step x H5 y5)) fun _ s6 ⟨τ6,H6,I6,q6⟩=>?_
   refine thn (ht _ _ _ _ _ s6 τ6 H6 _ I6 q6) fun ok s7 ⟨H7,I7,q7⟩=>?_
   have back:∀ {s8:Shared} {H8:Hp} {m:Nat} {zs:List V},Inv (X.comp scope cl s3.heap.objs.size (xs ++ ji ix X.N) fp s3 (upd H2 s2.heap.objs.size (.lst []))) ([] ++ Zm fp s5.heap) τ6 H8 s8→W (i + 1) m zs τ6 H8 →
     ∃ i ys τ H',Inv (X.comp scope cl s3.heap.objs.size (xs ++ ji ix X.N) fp s3 (upd H2 s2.heap.objs.size (.lst []))) [] τ H' s8∧tn i s8.heap∧(∀ b∈fp,H' b=none)∧W i m ys τ H':=fun {s8 H8 m zs} I8 w8=>by
    refine ⟨i + 1,zs,τ6,H8,I8.unpinned,T.keep _ _ _ st5 fun b hb o e=>(I8.pin (b,o) (List.mem_append_right _ (List.mem_append_right _ (vK hb e)))).1,fun b hb=>?_,w8⟩
    obtain ⟨o,e,d⟩:=T.obj _ _ st5 b hb
    exact (I8.pin (b,o) (List.mem_append_right _ (List.mem_append_right _ (vK hb e)))).2.1
   cases ok with
   | false =>
    rw [if_neg Bool.false_ne_true] at q7 ⊢
    obtain ⟨m',hm,w7⟩:=hNf _ _ q7
    exact ⟨m',hm,back I7 w7⟩
   | true =>
    rw [if_pos rfl] at q7 ⊢
    refine thn (he _ _ _ _ _ s7 τ6 H7 _ I7 q7) fun y s8 ⟨v8,H8,I8,r8,n8⟩=>?_
    obtain ⟨hD8,m',hm,w8⟩:=hN _ _ _ n8
    refine thn (yI _ s8 τ6 H8 (.ref s2.heap.objs.size) [v8] (.ref s2.heap.objs.size) [y] (fun _ Hn=>∃ m,m < n∧W (i + 1) m (ys ++ [v8]) τ6 Hn) I8 rfl (.cons r8 .nil) ⟨_,ys,v8,rfl,rfl,hD8,hz,m',hm,w8⟩) fun _ s9 ⟨_,H9,I9,_,m9,hm9,w9⟩=>?_
    exact ⟨m9,hm9,back I9 w9⟩
 have e3:∀ tk,({ s3 with heap:=h₁,toks:=tk }:Shared)={ s2 with heap:=h₁,toks:=tk }:=fun tk=>by rw [← hs3]
 have loop':∀ tk,codeAny (model X.prog X.w) X.A (.compLoop (.ListComp elt [⟨tg,iter,ifs,0⟩] scope pos) 0 (.ref it) (.ref s2.heap.objs.size) (compEnvC scope cl s3.heap.objs.size X.env))
   (RR (.ref s2.heap.objs.size) s3.heap.objs.size) { s2 with heap:=h₁,toks:=tk }:=fun tk=>by rw [← e3];exact loop tk
 exact codeAny_compStart_list (loop' _) (T.self _ 0 _ _ _ st3 (loop' _))
theorem YZ {osc:Scope} {N:List Str} (hc:X.calm=true) (hD:Jc osc N scope ix=true) (hi:PI X tg iter wi)
  (hg:∀ C fp s H,PG (X.comp scope (ZB scope X.env) C (xs ++ ji ix X.N) fp s H) tg g) (ht:∀ C fp s H,PTs (X.comp scope (ZB scope X.env) C (xs ++ ji ix X.N) fp s H) ifs tt)
  (he:∀ C fp s H,PE (X.comp scope (ZB scope X.env) C (xs ++ ji ix X.N) fp s H) elt te) (hsc:X.env.scope=osc:=by rfl) (hN:X.N=N:=by rfl) (hs:∀ x,foldedSetIterable iter X.env x=pure x:=by intro _;rfl) :
  PE X (.ListComp elt [⟨tg,iter,ifs,0⟩] scope pos) (jj wi g tt te xs.length ix):=by
 intro pins s σ H Q I h
 have S:=YW I.ok hD hsc hN
 rw [eval_ListComp]
 refine wpAny_comprehension_free (use:=none) rfl hs S.clos S.kind S.names (Wv S hc hi hg ht he I h (RR:=fun acc C=>compPost (model X.prog X.w) X.A X.xe none (EP X pins σ Q) acc C) ?_)
 rintro v u s' C r ⟨H',q,⟨m,hn⟩,hI,_⟩
 exact ⟨m,hn,fun h' hb=>⟨v,H',hI h' hb,r,q⟩⟩
end
end L2
namespace L2
open PySem PySem.Spec PyProof.Rows
abbrev Yz:R2:=fun x y H Q=>∃ i j,x=.str i∧y=.str j∧i.length + j.length≤sizeLine∧Q (.str (i ++ j)) H
abbrev KH:R2:=fun x y H Q=>∃ i j,x=.str i∧y=.str j∧Q (.bl (!(Builtin.Str.occurrences j i 0 j.length 1).isEmpty)) H
abbrev zaF:R2:=fun x y H Q=>∃ i j,x=.str i∧y=.str j∧Q (.bl (!(!(Builtin.Str.occurrences j i 0 j.length 1).isEmpty))) H
abbrev zbM:R2:=fun x y H Q=>∃ a b,x=.bl a∧y=.bl b∧Q (.bl (a == b)) H
abbrev zaG:R2:=fun x y H Q=>∃ a b,x=.bl a∧y=.bl b∧Q (.bl (a != b)) H
abbrev Xz:R2:=fun x y H Q=>y=.non∧Q (.bl (decide (x=.non))) H
abbrev zbh:R2:=fun x y H Q=>y=.non∧Q (.bl (!decide (x=.non))) H
abbrev RC:=List V→Hp→VK→Prop
abbrev yB (K:PySem.W.Frag):RC:=fun xs H Q=>∃ x n,xs=[x]∧xQ K x H n∧Q (.int n) H
abbrev vO (K:PySem.W.Frag):RC:=fun xs H Q=>∃ x c t b,xs=[x,c]∧j8 K H x t∧(∃ T,c=.ty T∧PySem.W.kitOne K t (.type T)=some b)∧Q (.bl b) H
abbrev Jd (K:PySem.W.Frag):RC:=fun xs H Q=>∃ (a:Addr) (bs:List Bool),xs=[.ref a]∧SqL K H a (bs.map V.bl)∧Q (.bl (bs.all id)) H
abbrev zbN:RC:=fun xs H Q=>∃ i,xs=[.int i]∧Q (.int (if i < 0 then -i else i)) H
abbrev Ww:RC:=fun xs H Q=>∃ i,xs=[.int i]∧i.natAbs.log2 < 1920∧Q (.str (toString i)) H
abbrev RM:=V→List V→Hp→VK→Prop
abbrev wx:RM:=fun x xs H Q=>∃ a b,x=.str a∧xs=[.str b]∧Q (.bl (0 + b.length≤a.length && Builtin.Str.subAt a b 0)) H
def spP (pre:List V→Hp→Prop) (post:List V→Hp→V→Hp→Prop):Sp:=fun vs H Q _=>pre vs H∧∀ r H',post vs H r H'→Same H H'→Q r H'
abbrev Je:RC:=fun xs H Q=>∃ (x:Str) (n:Int),xs=[.str x]∧PySem.intText? x=some n∧x.length≤640∧Q (.int n) H
abbrev QR:RM:=fun x xs H Q=>∃ a:Str,x=.str a∧xs=[]∧(∀ c∈a.cps.toList,c < 128)∧a.length≤sizeLine∧∀ y:Str,y.length=a.length→Q (.str y) H
theorem Ze {H:Hp} {p:Addr} {o:HO} (h:H p=none):∃ H',H'=upd H p o∧Same H H'∧H' p=some o :=
 ⟨_,rfl,fun b u e=>by rw [zk (zx e h)];exact e,zc⟩
theorem isV (p:Addr) {H:Hp} {o:HO} (h:H p=none):Same H (upd H p o):=fun b u e=>by rw [zk (zx e h)];exact e
theorem zH {n:Nat} (h:n≤100000):n≤sizeLine:=Nat.le_trans h (by decide)
theorem yM:bootBuiltins "len"=some (.builtin "len"):=by decide +kernel
theorem yc:bootBuiltins "isinstance"=some (.builtin "isinstance"):=by decide +kernel
theorem Jf:bootBuiltins "all"=some (.builtin "all"):=by decide +kernel
theorem QS:bootBuiltins "max"=some (.builtin "max"):=by decide +kernel
theorem XA:bootBuiltins "reversed"=some (.type "reversed"):=by decide +kernel
theorem Y0:bootBuiltins "enumerate"=some (.type "enumerate"):=by decide +kernel
theorem Jg:bootBuiltins "str"=some (.type "str"):=by decide +kernel
theorem ZD:bootBuiltins "int"=some (.type "int"):=by decide +kernel
theorem Y1:bootBuiltins "bool"=some (.type "bool"):=by decide +kernel
theorem KI:bootBuiltins "list"=some (.type "list"):=by decide +kernel
theorem XB:bootBuiltins "tuple"=some (.type "tuple"):=by decide +kernel
section
variable {X:Cx}
def big:Int:=10 ^ 200
def qL (_ j:Int):Prop:=0 < j∧j < big
def CMulB (i j:Int):Prop:=(-big < i∧i < big)∧(-big < j∧j < big)
theorem XC {j:Int} (h:j.natAbs < 10 ^ 200):j.natAbs.log2 < 700:=by
 by_cases h0:j.natAbs=0
 ·rw [h0];decide
 ·exact (Nat.log2_lt h0).mpr (Nat.lt_of_lt_of_le h (by decide +kernel))
theorem W7 {j:Int} (h:-big < j∧j < big):j.natAbs < 10 ^ 200:=by
 have e:big=((10 ^ 200:Nat):Int):=by decide +kernel
 rw [e] at h
 lia
theorem CMulB.ok {i j:Int} (h:CMulB i j):IntMulOk i j:=by
 have b:∀ k:Int,(-big < k∧k < big)→Builtin.Int.intBits k≤2 ^ 20:=fun k hk=>by
  have q:=XC (W7 hk)
  unfold Builtin.Int.intBits
  split <;> lia
 exact .of_bits (b i h.1) (b j h.2)
theorem KJ:OpR X (binaryOp .Mult) (rI CMulB fun i j=>.int (i * j)):=opI fun _ _ _ _ _ _ _ hc q=>mul_int q hc.ok
theorem vy:OpR X (binaryOp .FloorDiv) (rI qL fun i j=>.int (i / j)):=opI fun i j _ _ _ _ _ hc q=>by
 have h1:(0:Int) < j:=hc.1
 refine floordiv_int (by lia) ?_ (.inl (PyProof.noPylong_of_log2 (Nat.lt_trans (XC (W7 ⟨by have:=hc.2;lia,hc.2⟩)) (by decide))))
 rw [Int.fdiv_eq_ediv_of_nonneg i (by lia)]
 exact q
theorem xG:qF X (.builtin "isinstance") (vO X.K):=by
 intro pins s σ H xs us Q I r h
 obtain ⟨x,c,t,b,rfl,ty,⟨T,rfl,e⟩,q⟩:=h
 obtain ⟨u,w',rfl,r1,r2⟩:=Qs r
 cases r2
 exact Vr I r1 ty e fun tk=>⟨.bl b,H,I.tok tk,rfl,q⟩
def Its (x:Str):It:=⟨fun i _=>i < x.cps.size,fun i H v H'=>H'=H∧∃ c,x.cps[i]?=some c∧v=.str ⟨#[c]⟩,fun i _=>x.cps.size≤i⟩
theorem XD {P:Program} {w:World} {K:PySem.W.Frag} {tg:Expr} {it:Addr} {x:Str} {t:Tok} {ty:String} (hty:["enumerate","zip","dict_itemiterator","dict_reverseitemiterator","odict_iterator","itertools.zip_longest","itertools.pairwise"].contains ty=false)
  (W:∀ A:Around,A.handled=none→Walks P w A it [it] [it] x.cps.size (SignAt x) (fun i h=>h.IsStrIter it ty x t i))
  (self:∀ (A:Around) (i:Nat) (s:Shared) (Q:Value→Shared→Prop) (E:Value→Shared→Prop),s.heap.IsStrIter it ty x t i→Q (.ref it) s→wpAny (model P w) A (pyIter (.ref it)) Q E s) :
  Vm P w K tg (Its x) [it] it (fun i h=>i≤x.cps.size∧h.IsStrIter it ty x t i) where
 mem:=by simp
 obj:=fun i h st b hb=>by
  have e:b=it:=by simpa using hb
  subst e
  obtain ⟨_,o,e,c,d⟩:=st
  exact ⟨o,e,fun v z=>by rw [d] at z;cases z⟩
 keep:=fun i h h' st k=>by
  obtain ⟨hi,o,e,r⟩:=st
  exact ⟨hi,o,k it (by simp) o e,r⟩
 item:=by
  intro X hP hw hK hc i pins s σ H E I hf st hg
  subst hP hw hK
  obtain ⟨f0,f1,f2,f3,f4,f5⟩:=hf it (by simp)
  refine (W X.A (I.ok.hd hc)).item i s _ _ hg st.2 fun v h' tk hv st' kk=>?_
  obtain ⟨c,u,hc',rfl⟩:=hv
  have I1:Inv X pins σ H { s with heap:=h',toks:=tk }:=I.turned (fun b o hb e=>kk b o (by simpa using hb) e) f0 f1 f3 f4 f5
  obtain ⟨o,e,c1,d1⟩:=id st'
  exact ⟨_,rfl,WU (s:={ s with heap:=h',toks:=tk }) e c1 d1 hty ⟨.str ⟨#[c]⟩,H,I1,⟨u,rfl⟩,⟨rfl,c,hc',rfl⟩,⟨hg,st'⟩,fun b hb=>(hf b hb).1⟩⟩
 done:=by
  intro X hP hw hK hc i pins s σ H E I hf st hg
  subst hP hw hK
  obtain ⟨f0,f1,f2,f3,f4,f5⟩:=hf it (by simp)
  have e:i=x.cps.size:=Nat.le_antisymm st.1 hg
  subst e
  exact (W X.A (I.ok.hd hc)).done s _ _ st.2 fun h' tk kk=>⟨rfl,I.turned (fun b o hb e=>kk b o (by simpa using hb) e) f0 f1 f3 f4 f5⟩
 self:=fun A i s Q E st h=>self A i s Q E st.2 h
def Jh (tl:TE):TI:=fun σ H R=>tl σ H fun x H1=>∃ z,x=.str z∧R (Its z) H1
theorem Ji {l tg:Expr} {tl:TE} (hl:PE X l tl):PI X tg l (Jh tl):=by
 intro pins s σ H R I h
 refine thn (hl pins s σ H _ I h) fun v s1 ⟨x,H1,I1,r1,q1⟩=>?_
 obtain ⟨z,rfl,q⟩:=q1
 obtain ⟨t,rfl⟩:=r1
 have new:∀ b∈[s1.heap.objs.size],j5 X pins H1 b:=fun b hb=>by
  have e:b=s1.heap.objs.size:=by simpa using hb
  subst e
  exact I1.fpOk (Nat.le_refl _) (I1.hok.fresh (Nat.le_refl _))
 cases ha:z.cps.all (· < 128)
 ·refine wpAny_pyIter_wide ha ?_
  exact ⟨s1.heap.objs.size,[s1.heap.objs.size],_,_,H1,rfl,I1.kept (t':=s1.toks) fun b o e=>Heap.get?_push_of_some _ e,
   XD (t:=t) (by decide) (fun A hA=>Walks.strWide hA _ z t) fun A i s Q E st h=>wpAny_pyIter_striter_wide st h,⟨Nat.zero_le _,_,Heap.get?_push_size _ rfl,rfl,rfl⟩,new,q⟩
 ·refine wpAny_pyIter_ascii ha ?_
  exact ⟨s1.heap.objs.size,[s1.heap.objs.size],_,_,H1,rfl,I1.kept (t':=s1.toks) fun b o e=>Heap.get?_push_of_some _ e,
   XD (t:=t) (by decide) (fun A hA=>Walks.strAscii hA _ z t) fun A i s Q E st h=>wpAny_pyIter_striter_ascii st h,⟨Nat.zero_le _,_,Heap.get?_push_size _ rfl,rfl,rfl⟩,new,q⟩
theorem YA (hc:X.calm=true):qF X (.builtin "all") (Jd X.K):=by
 intro pins s σ H xs us Q I r h
 obtain ⟨a,bs,rfl,hq,q⟩:=h
 obtain ⟨u,rfl,r1⟩:=qG r
 cases r1
 obtain ⟨its,rv,p,hz⟩:=I.list hq
 have hl:=rv.length
 rw [List.length_map] at hl
 have hne:a≠s.heap.objs.size:=by
  obtain ⟨o,n,e,_⟩:=p
  exact Nat.ne_of_lt (Heap.lt_size e)
 refine call_all_walk (wpAny_pyIter_list p.isList ?_)
 refine ⟨s.heap.objs.size,_,_,its.toArray.size,fun i v=>its.toArray[i]?=some v,_,fun i=>bs.getD i false,rfl,Walks.list (A:=X.A.in1) (I.ok.hd hc) _ a hne its.toArray,?_,?_,fun h' tk k=>?_⟩
 ·refine ⟨⟨_,Heap.get?_push_size _ rfl,rfl,rfl⟩,?_⟩
  exact p.isList.at fun o e=>Heap.get?_push_of_some _ e
 ·intro i v s' Q' E' hv hQ
  have hv':its[i]?=some v:=by simpa using hv
  have hi:i < bs.length:=by
   rw [hl]
   exact (List.getElem?_eq_some_iff.mp hv').1
  obtain ⟨u',hu,ru⟩:=rv.get (i:=i) (x:=V.bl bs[i]) (by simp [hi])
  rw [hv'] at hu
  cases hu
  cases ru
  have e:bs.getD i false=bs[i]:=by simp [hi]
  have hQ':Q' (bs.getD i false) s':=hQ
  rw [e] at hQ'
  exact wpAny_truthy_bool hQ'
 ·have e:(List.range its.toArray.size).all (fun i=>bs.getD i false)=bs.all id:=by
   rw [List.size_toArray,← hl]
   have:bs.map id=(List.range bs.length).map fun i=>bs.getD i false:=by
    apply List.ext_getElem?
    intro i
    by_cases hi:i < bs.length <;> simp [hi]
   have h2:bs.all id=(bs.map id).all id:=by simp
   rw [h2,this,List.all_map]
   rfl
  rw [e]
  refine ⟨.bl (bs.all id),H,?_,rfl,q⟩
  exact I.kept fun b o e=>k b o (by
   have:=Nat.ne_of_lt (Heap.lt_size e)
   simpa using this) (Heap.get?_push_of_some _ e)
theorem Z9:MtR X "str.startswith" wx:=by
 intro pins s σ H x xs v us Q I rx rs h
 obtain ⟨a,b,rfl,rfl,q⟩:=h
 obtain ⟨t,rfl⟩:=rx
 obtain ⟨u,rfl,t',rfl⟩:=qG rs
 exact call_meets F.slot_str_startswith (typeIs_str s a t) F.entry_str_startswith (F.args_str_startswith_2 _ _) (gives_str_startswith a b t t').meets (show _ from ⟨.bl _,H,I,rfl,q⟩)
def QT:V→Option Int→Option Int→Hp→VK→Prop:=fun x lo hi H Q=>∃ z,x=.str z∧z.length≤sizeLine∧Q (.str (Txt.slice z lo hi)) H
theorem QU:SlR X QT:=by
 intro pins s σ H x v vl vu lo hi sl Q I rx hs pl pu h
 obtain ⟨z,rfl,hz,q⟩:=h
 obtain ⟨t,rfl⟩:=rx
 obtain ⟨o,ho,hc,hd⟩:=hs
 refine ⟨"str",_,F.slot_str_getitem.lookup,typeIs_str _ _ _,?_⟩
 obtain ⟨l,e1,e2⟩:∃ l:Option (Int × Tok),vl=partValue l∧lo=l.map (·.1):=by
  cases pl with
  | none=>exact ⟨none,rfl,rfl⟩
  | int i t=>exact ⟨some (i,t),rfl,rfl⟩
 obtain ⟨u,e3,e4⟩:∃ l:Option (Int × Tok),vu=partValue l∧hi=l.map (·.1):=by
  cases pu with
  | none=>exact ⟨none,rfl,rfl⟩
  | int i t=>exact ⟨some (i,t),rfl,rfl⟩
 subst e1 e2 e3 e4
 exact wpAny_getItem_str_slice (l:=l) (u:=u) (st:=none) ⟨o,ho,hc,hd⟩ rfl
  (post_val_or_str ⟨Nat.le_trans (Txt.slice_le z _ _) hz,fun t' k=>⟨.str (Txt.slice z (l.map (·.1)) (u.map (·.1))),H,I.tok k,⟨t',rfl⟩,q⟩⟩)
theorem kG:qF X (.type "int") Je:=by
 intro pins s σ H xs us Q I r h
 obtain ⟨x,n,rfl,hn,hl,q⟩:=h
 obtain ⟨u,rfl,t,rfl⟩:=qG r
 exact PySem.W.KIN.call_text hn hl ⟨.int n,H,I.tok _,⟨_,rfl⟩,q⟩
end
end L2
namespace L2
open PySem PySem.Spec PyProof.Rows
theorem Jj (o:Obj) (f):(o.mapFields f).dict=o.dict:=by obtain ⟨c,d,dt,sl⟩:=o;cases dt <;> rfl
def TrD (h base:Heap) (e:Addr) (cls a0 fl:Value) (od:Option Addr):Prop :=
 ∃ oe vs T oT ts,h.get? e=some oe∧((oe.cls=cls∧vs[0]?=some a0)∧oe.dict=od)∧oe.data=.fields vs∧vs[1]?=some (.ref T)∧base.get? T=none∧T≠e∧h.get? T=some oT∧oT.data=.fields ts∧ts[3]?=some fl
section
variable {M:Model} {A:Around} {E:Value→Shared→Prop} {s:Shared} {base:Heap} {env:Env} {outer:List Env} {L e:Addr} {cls a0:Value} {od:Option Addr} {Q:Unit→Shared→Prop}
def TrK (s:Shared) (base:Heap) (l:List Env) (e:Addr) (cls a0 fl:Value) (od:Option Addr) (g:Heap):Prop:=base.StaysIn g∧g.FunFrames base l∧TrD g base e cls a0 fl od∧s.heap.UpToSlots g
theorem Jk {oe:Obj} {vs:Array Value} {head:Value} {hn:Bool} (fr:A.frames=some (env :: outer)) (ff:s.heap.FunFrames base (env :: outer)) (fl:env.frame=some L) (he:s.heap.get? e=some oe) (kb:base.StaysIn s.heap) (nb:base.get? e=none)
  (dt:oe.data=.fields vs) (sz:1 < vs.size) (v0:vs[0]?=some a0) (h:∀ g,TrK s base (env :: outer) e oe.cls a0 (rawInt L) oe.dict g→Q () { s with heap:=g }) :
  wpAny M A (do let a ← frameOf env;let pl ← entryPlaceOf L hn;let b ← EntryCells.newEntry head a .none (rawInt L) .none pl;setField (.ref e) 1 b) Q E s:=by
 have nf:e ∉ (env :: outer).filterMap (·.frame):=fun hm=>by
  obtain ⟨_,o,ho,z⟩:=ff.mem hm;rw [he] at ho;injection ho with ho;subst ho;exact z vs dt
 refine wpAny_bind (wpAny_frameOf_fun fr ff fl fun g1 so=>wpAny_bind (wpAny_entryPlaceOf fun pl hpl=>?_));unfold EntryCells.newEntry newFields
 refine wpAny_bind (wpAny_newObj_type ?_ (hpl.sizeOk5 _ _ _ _ _))
 have e1:g1.get? e=some oe:=(so.2.1 e nf).trans he
 have k1:base.StaysIn g1:=fun b o q=>(so.2.1 b fun hm=>by rw [(ff.mem hm).1] at q;cases q).trans (kb b o q)
 generalize hO:({ cls:=.type "traceback",dict:=none,data:=.fields ([head,.ref L,.none,rawInt L,.none] ++ (if pl.isEmpty then List.replicate 6 Value.none else pl)).toArray }:Obj)=nO
 have dO:nO.data=.fields ([head,.ref L,.none,rawInt L,.none] ++ (if pl.isEmpty then List.replicate 6 Value.none else pl)).toArray:=by rw [← hO]
 have e2:=Heap.get?_push_of_some (h:=g1) nO e1
 refine wpAny_setField e2 dt sz (h _ ?_)
 have nT:g1.objs.size≠e:=Nat.ne_of_gt (Heap.lt_size e1)
 have d3:=Obj.data_mapFields dt (·.setIfInBounds 1 (Value.ref g1.objs.size))
 have e3:=Heap.get?_update_self (Obj.mapFields (·.setIfInBounds 1 (Value.ref g1.objs.size))) e2 (Obj.isFreed_of_fields d3)
 have t3:=(Heap.get?_update_other (g1.push nO) (Obj.mapFields (·.setIfInBounds 1 (Value.ref g1.objs.size))) (Ne.symm nT)).trans (Heap.get?_push_size g1 (Obj.isFreed_of_fields dO))
 have kp:∀ b o,b≠e→g1.get? b=some o→((g1.push nO).update e (Obj.mapFields (·.setIfInBounds 1 (Value.ref g1.objs.size)))).get? b=some o:=fun b o n q=>by
  rw [Heap.get?_update_other _ _ (Ne.symm n)];exact Heap.get?_push_of_some _ q
 have nr:∀ b o,s.heap.get? b=some o→(∀ vs,o.data≠.fields vs)→b≠e:=fun b o q z w=>by rw [w,he] at q;injection q with q;subst q;exact z vs dt
 refine ⟨fun b o q=>kp b o (fun w=>by rw [w,nb] at q;cases q) (k1 b o q),ff.of_keeps fun b o q z=>?_,?_,fun b o q z=>?_⟩
 ·obtain ⟨sl,w⟩:=so.2.2 b o q;exact ⟨_,kp b _ (nr b o q z) w,rfl⟩
 ·exact ⟨_,_,g1.objs.size,_,_,e3,⟨⟨Obj.cls_mapFields _ _,by rw [Array.getElem?_setIfInBounds_ne (by decide)];exact v0⟩,Jj _ _⟩,d3,by simp [sz],k1.fresh,nT,t3,dO,by first | (simp;done) | (rcases hpl with rfl | ⟨_,_,_,_,_,_,_,rfl⟩ <;> simp)⟩
 ·obtain ⟨sl,w⟩:=so.2.2 b o q;exact ⟨sl,kp b _ (nr b o q z) w⟩
theorem QV {l:List Env} {fl:Value} (kb:base.StaysIn s.heap) (ff:s.heap.FunFrames base l) (t:TrD s.heap base e cls a0 fl od) (h:∀ g,TrK s base l e cls a0 .none od g→Q () { s with heap:=g }):wpAny M A (setFlight (.ref e) none) Q E s:=by
 obtain ⟨oe,vs,T,oT,ts,he,hc,dt,v1,nT,Te,hT,dT,t3⟩:=t
 have sz:3 < ts.size:=(Array.getElem?_eq_some_iff.mp t3).1
 have ot:∀ b,b≠T→(s.heap.update T (Obj.mapFields (·.setIfInBounds 3 ((none:Option Addr).elim Value.none fun f=>rawInt f)))).get? b=s.heap.get? b:=fun b q=>Heap.get?_update_other _ _ (Ne.symm q)
 have nr:∀ b o,s.heap.get? b=some o→(∀ vs,o.data≠.fields vs)→b≠T:=fun b o q z w=>by rw [w,hT] at q;injection q with q;subst q;exact z ts dT
 unfold setFlight;refine wpAny_bind (wpAny_field he dt v1 ?_);rw [if_pos (show (Value.ref T != Value.none)=true from by simp)]
 refine wpAny_setField hT dT sz (h _ ⟨fun b o q=>(ot b fun w=>by rw [w,nT] at q;cases q).trans (kb b o q),ff.of_keeps fun b o q z=>⟨o,(ot b (nr b o q z)).trans q,rfl⟩,?_,fun b o q z=>⟨o.slots,(ot b (nr b o q z)).trans q⟩⟩)
 exact ⟨oe,vs,T,_,_,(ot e (Ne.symm Te)).trans he,hc,dt,v1,nT,Te,Heap.get?_update_self _ hT (Obj.isFreed_of_fields (Obj.data_mapFields dT _)),Obj.data_mapFields dT _,by simp [sz]⟩
theorem QW {oe:Obj} {vs:Array Value} (fr:A.frames=some (env :: outer)) (ff:s.heap.FunFrames base (env :: outer)) (fl:env.frame=some L) (he:s.heap.get? e=some oe) (kb:base.StaysIn s.heap) (nb:base.get? e=none)
  (dt:oe.data=.fields vs) (v1:vs[1]?=some .none) (v0:vs[0]?=some a0) (h:∀ g,TrK s base (env :: outer) e oe.cls a0 (rawInt L) oe.dict g→Q () { s with heap:=g }):wpAny M A (noteFrame (.ref e) env) Q E s:=by
 unfold noteFrame;simp only [fl];refine wpAny_bind (wpAny_field he dt v1 ?_);rw [if_neg (by decide)]
 exact Jk fr ff fl he kb nb dt (Array.getElem?_eq_some_iff.mp v1).1 v0 h
theorem Jl (fr:A.frames=some (env :: outer)) (ff:s.heap.FunFrames base (env :: outer)) (fl:env.frame=some L) (t:TrD s.heap base e cls a0 .none od) (kb:base.StaysIn s.heap) (nb:base.get? e=none)
  (h:∀ g,TrK s base (env :: outer) e cls a0 (rawInt L) od g→Q () { s with heap:=g }):wpAny M A (noteFrame (.ref e) env) Q E s:=by
 obtain ⟨oe,vs,T,oT,ts,he,⟨⟨hcl,v0⟩,hod⟩,dt,v1,nT,Te,hT,dT,t3⟩:=t
 subst hcl hod
 unfold noteFrame;simp only [fl];refine wpAny_bind (wpAny_field he dt v1 ?_);rw [if_pos (show (Value.ref T != Value.none)=true from by simp)]
 refine wpAny_bind (wpAny_field hT dT t3 ?_);rw [if_neg (show ¬ ((Value.none == rawInt L)=true) from by simp [rawInt])]
 refine wpAny_bind (wpAny_setField hT dT (Array.getElem?_eq_some_iff.mp t3).1 ?_)
 have ot:∀ b,b≠T→(s.heap.update T (Obj.mapFields (·.setIfInBounds 3 Value.none))).get? b=s.heap.get? b:=fun b q=>Heap.get?_update_other _ _ (Ne.symm q)
 have nr:∀ b o,s.heap.get? b=some o→(∀ vs,o.data≠.fields vs)→b≠T:=fun b o q z w=>by rw [w,hT] at q;injection q with q;subst q;exact z ts dT
 refine Jk fr (ff.of_keeps fun b o q z=>⟨o,(ot b (nr b o q z)).trans q,rfl⟩) fl ((ot e (Ne.symm Te)).trans he) (fun b o q=>(ot b fun w=>by rw [w,nT] at q;cases q).trans (kb b o q)) nb dt (Array.getElem?_eq_some_iff.mp v1).1 v0 fun g ⟨x1,x2,x3,x4⟩=>h g ⟨x1,x2,x3,fun b o q z=>x4 b o ((ot b (nr b o q z)).trans q) z⟩
theorem Jm (x:∀ {Q:Unit→Shared→Prop},(∀ g,TrK s base (env :: outer) e cls a0 (rawInt L) od g→Q () { s with heap:=g })→wpAny M A (noteFrame (.ref e) env) Q E s)
  (h:∀ g,TrK s base (env :: outer) e cls a0 .none od g→Q () { s with heap:=g }):wpAny M A (leaving env (.ref e)) Q E s:=by
 unfold leaving
 refine wpAny_bind (x fun g ⟨x1,x2,x3,x4⟩=>QV x1 x2 x3 fun g' ⟨y1,y2,y3,y4⟩=>h g' ⟨y1,y2,y3,x4.trans y4⟩)
end
end L2
namespace L2
open PySem PySem.Spec PyProof.Rows
theorem ObjOk.there {P:Program} {w:World} {H:Hp} {h:Heap} {a:Addr} {o:HO} (x:ObjOk P w H h a o):∃ u,h.get? a=some u:=by
 cases o with
 | lst xs=>obtain ⟨_,_,_,_,e⟩:=x;exact ⟨_,e⟩
 | tup xs=>obtain ⟨_,_,_,o,e,_⟩:=x;exact ⟨_,e⟩
 | dK kvs=>obtain ⟨_,_,_,_,o,_,_,e,_⟩:=x;exact ⟨_,e⟩
 | dT kvs=>obtain ⟨_,_,_,_,o,_,_,e,_⟩:=x;exact ⟨_,e⟩
 | set S n=>obtain ⟨o,_,_,_,e,_⟩:=x;exact ⟨_,e⟩
 | ins C dx fs=>obtain ⟨_,_,_,e,_⟩:=x;exact ⟨_,e⟩
 | own y=>exact x
 | xd fs=>obtain ⟨_,⟨o,_,_,e,_⟩,_⟩:=x;exact ⟨_,e⟩
 | rng lo hi=>obtain ⟨_,_,_,e⟩:=x;exact ⟨_,e⟩
 | frz ob u=>obtain ⟨e,_⟩:=x;exact ⟨_,e⟩
 | tbl ps=>exact ⟨_,(show h.get? a=some _ from x)⟩
 | met f y=>exact ⟨_,(show h.get? a=some _ from x)⟩
 | ext φ=>obtain ⟨_,e,_⟩:=x;exact e
def XF (g h:Heap) (H:Hp) (e:Addr) (cls:Value) (od:Option Addr):Prop :=
 ∃ oe vs a0 T oT ts,h.get? e=some oe∧(oe.cls=cls∧vs[0]?=some a0)∧oe.data=.fields vs∧vs[1]?=some (.ref T)∧T≠e∧h.get? T=some oT∧oT.data=.fields ts∧ts[3]?=some .none ∧
  g.get? e=none∧g.get? T=none∧H e=none∧H T=none∧oe.dict=od
def CX1 (P:Program) (w:World):CXT:=fun outer H s E ev s'=>∃ e cls od H',ev=.ref e∧s'.os=s.os∧AllBare s'.gens∧Un (frs outer) [] H H' s.heap s'.heap∧HOk P w H' s'.heap∧XF s.heap s'.heap H' e cls od∧E cls od H'
theorem jR {g h:Heap} (k:∀ b o,g.get? b=some o→∃ o',h.get? b=some o') {b:Addr} (e:h.get? b=none):g.get? b=none:=by
 cases q:g.get? b with
 | none=>rfl
 | some o =>
  obtain ⟨o',z⟩:=k b o q
  rw [e] at z;cases z
theorem XF.older {g g' h:Heap} {H:Hp} {e:Addr} {cls:Value} {od:Option Addr} (x:XF g h H e cls od) (k:∀ b o,g'.get? b=some o→∃ o',g.get? b=some o'):XF g' h H e cls od:=by
 obtain ⟨oe,vs,a0,T,oT,ts,h1,h2,h3,h4,h5,h6,h7,h8,h9,h10,h11,h12⟩:=x
 exact ⟨oe,vs,a0,T,oT,ts,h1,h2,h3,h4,h5,h6,h7,h8,jR k h9,jR k h10,h11,h12⟩
section
variable {X:Cx} {pins:List (Addr × Obj)} {σ:St} {H:Hp} {s:Shared}
theorem Inv.stackFields (J:Inv X pins σ H s) {b:Addr} (hb:b∈frs X.stack):∃ o,s.heap.get? b=some o∧∀ vs,o.data≠.fields vs:=(J.stack.mem hb).2
theorem Inv.there0 (hex:X.ex=[]) (J:Inv X pins σ H s):∀ b o,X.s₀.heap.get? b=some o→∃ o',s.heap.get? b=some o':=fun b o e=>J.base.there b o e (by rw [hex];simp)
theorem Inv.behind {h2:Heap} {cs:List Addr} (hex:X.ex=[]) (J:Inv X pins σ H s) (hcs:∀ b∈cs,H b=none∧X.s₀.heap.get? b=none)
  (hB:∀ b o,s.heap.get? b=some o→b ∉ frs X.stack→b ∉ cs→h2.get? b=some o) (hF:∀ b o,s.heap.get? b=some o→b∈frs X.stack→∃ sl,h2.get? b=some { o with slots:=sl }) :
  Un X.fs [] X.H₀ H X.s₀.heap h2∧HOk X.prog X.w H h2:=by
 have B:Un X.fs [] X.H₀ H X.s₀.heap s.heap:=by have:=J.base;rw [hex] at this;exact this
 have nL:∀ b o,X.s₀.heap.get? b=some o→b≠X.env.locals:=fun b o e=>Nat.ne_of_lt (Nat.lt_of_lt_of_le (Heap.lt_size e) J.ok.above)
 have nC:∀ b o,X.s₀.heap.get? b=some o→b ∉ cs:=fun b o e z=>by rw [(hcs b z).2] at e;cases e
 have any:∀ b o,s.heap.get? b=some o→b ∉ cs→∃ sl,h2.get? b=some { o with slots:=sl }:=fun b o e n=>by
  by_cases hb:b∈frs X.stack
  ·exact hF b o e hb
  ·exact ⟨o.slots,hB b o e hb n⟩
 refine ⟨⟨fun b o e n h1 _=>?_,fun b o e n h1 _=>?_,B.free,fun b o e h1=>?_,B.tups,B.frzs,B.tbls⟩,fun b u e=>?_⟩
 ·refine hB b o (B.keep b o e n h1 (by simp)) (fun z=>?_) (nC b o e)
  rcases List.mem_cons.mp (J.stkSub b z) with q | q
  ·exact nL b o e q
  ·exact h1 q
 ·obtain ⟨sl,q⟩:=B.slot b o e n h1 (by simp)
  obtain ⟨sl',q'⟩:=any b _ q (nC b o e)
  exact ⟨sl',q'⟩
 ·obtain ⟨o',q⟩:=B.there b o e (by simp)
  obtain ⟨sl,q'⟩:=any b o' q (nC b o e)
  exact ⟨_,q'⟩
 ·refine (J.hok b u e).stay (fun c v hc q=>?_) (fun _ q=>q) fun _ _ q=>q
  have hn:H c≠none:=by
   rcases hc with rfl | hc
   ·rw [e];simp
   ·rw [hc];simp
  exact hB c v q (fun z=>hn (J.stkFree c z)) fun z=>hn (hcs c z).1
theorem Inv.flown {B h2:Heap} {cs:List Addr} {e:Addr} {cls a0:Value} {od:Option Addr} (hex:X.ex=[]) (J:Inv X pins σ H s) (hcs:∀ b∈cs,H b=none∧X.s₀.heap.get? b=none)
  (hB:∀ b o,s.heap.get? b=some o→b ∉ frs X.stack→b ∉ cs→B.get? b=some o) (hF:∀ b o,s.heap.get? b=some o→b∈frs X.stack→∃ sl,h2.get? b=some { o with slots:=sl })
  (he:H e=none) (he0:X.s₀.heap.get? e=none) (kb:B.StaysIn h2) (tr:TrD h2 B e cls a0 .none od) :
  Un X.fs [] X.H₀ H X.s₀.heap h2∧HOk X.prog X.w H h2∧XF X.s₀.heap h2 H e cls od:=by
 have hk:=J.behind (h2:=h2) hex hcs (fun b o q n1 n2=>kb b o (hB b o q n1 n2)) hF
 refine ⟨hk.1,hk.2,?_⟩
 obtain ⟨oe,vs,T,oT,ts,h1,h2',h3,h4,h5,h6,h7,h8,h9⟩:=tr
 have noT:∀ o,s.heap.get? T=some o→T∈cs:=fun o q=>by
  by_cases hb:T∈frs X.stack
  ·obtain ⟨o',q',nf⟩:=J.stackFields hb
   obtain ⟨sl,z⟩:=hF T o' q' hb
   rw [h7] at z
   have z':oT={ o' with slots:=sl }:=Option.some.inj z
   exact absurd (by rw [← h8,z']) (nf ts)
  ·by_cases hc:T∈cs
   ·exact hc
   ·rw [hB T o q hb hc] at h5;cases h5
 refine ⟨oe,vs,a0,T,oT,ts,h1,h2'.1,h3,h4,h6,h7,h8,h9,he0,?_,he,?_,h2'.2⟩
 ·cases q:X.s₀.heap.get? T with
  | none=>rfl
  | some o =>
   obtain ⟨o',q'⟩:=J.there0 hex T o q
   rw [(hcs T (noT o' q')).2] at q;cases q
 ·cases q:H T with
  | none=>rfl
  | some u =>
   obtain ⟨o,z⟩:=(J.hok T u q).there
   rw [(hcs T (noT o z)).1] at q;cases q
theorem YB {e:Addr} {oe:Obj} {vs:Array Value} {a0:Value} {E:XK} {EE:Value→Shared→Prop} (hst:X.stack=X.env :: X.outer∧X.env.frame=some X.env.locals) (hex:X.ex=[]) (J:Inv X pins σ H s) (he:s.heap.get? e=some oe) (dt:oe.data=.fields vs) (v1:vs[1]?=some .none) (v0:vs[0]?=some a0)
  (hn:H e=none) (h0:X.s₀.heap.get? e=none) (hE:E oe.cls oe.dict H):wpAny (model X.prog X.w) X.A (leaving X.env (.ref e)) (fun _ s2=>CX1 X.prog X.w X.outer X.H₀ X.s₀ E (.ref e) s2) EE s:=by
 have fr:s.heap.FunFrames (PySem.W.hideAll s.heap (frs X.stack ++ [e])) (X.env :: X.outer):=by
  have q:=PySem.W.funFrames_hide (as:=frs X.stack ++ [e]) J.stack fun env he a ha=>List.mem_append_left _ (List.mem_filterMap.mpr ⟨env,he,ha⟩)
  rw [hst.1] at q ⊢
  exact q
 refine Jm (fun h=>QW (by rw [J.ok.frames,hst.1]) fr hst.2 he (fun b o q=>PySem.W.of_hideAll _ q) (PySem.W.hideAll_none _ (List.mem_append_right _ (by simp))) dt v1 v0 h) fun h2 ⟨f1,f2,f4,hup⟩=>?_
 have hF:∀ b o,s.heap.get? b=some o→b∈frs X.stack→∃ sl,h2.get? b=some { o with slots:=sl }:=fun b o q hb=>by
  obtain ⟨o',q',nf⟩:=J.stackFields hb
  rw [q] at q';cases q'
  exact hup b o q nf
 obtain ⟨r1,r2,r3⟩:=J.flown (cs:=[e]) hex (fun b z=>by rw [List.mem_singleton.mp z];exact ⟨hn,h0⟩) (fun b o q n n2=>PySem.W.hideAll_get _ q fun z=>(List.mem_append.mp z).elim n n2) hF hn h0 f1 f4
 exact ⟨e,oe.cls,oe.dict,H,rfl,J.os,J.bare,r1,r2,r3,hE⟩
theorem Vv {h':Heap} {e:Addr} {cls:Value} {vs:List Value} {E:XK} {EE:Value→Shared→Prop} (hst:X.stack=X.env :: X.outer∧X.env.frame=some X.env.locals) (hex:X.ex=[]) (J:Inv X pins σ H s) (hx:Heap.MadeExcOf s.heap h' e cls vs) (hE:E cls none H) :
  wpAny (model X.prog X.w) X.A (leaving X.env (.ref e)) (fun _ s2=>CX1 X.prog X.w X.outer X.H₀ X.s₀ E (.ref e) s2) EE { s with heap:=h' }:=by
 obtain ⟨t,he,htn,ht⟩:=hx.there
 refine YB hst hex (J.kept (t':=s.toks) hx.keeps) he rfl rfl rfl ?_ (jR (J.there0 hex) hx.new) hE
 cases q:H e with
 | none=>rfl
 | some u =>
  obtain ⟨o,z⟩:=(J.hok e u q).there
  rw [hx.new] at z;cases z
theorem Jn {e:Addr} {cls:Value} {od:Option Addr} {E:XK} {EE:Value→Shared→Prop} (hst:X.stack=X.env :: X.outer∧X.env.frame=some X.env.locals) (hex:X.ex=[]) (J:Inv X pins σ H s) (xf:XF X.s₀.heap s.heap H e cls od) (hE:E cls od H) :
  wpAny (model X.prog X.w) X.A (leaving X.env (.ref e)) (fun _ s2=>CX1 X.prog X.w X.outer X.H₀ X.s₀ E (.ref e) s2) EE s:=by
 obtain ⟨oe,vs,a0,T,oT,ts,h1,h2,h3,h4,h5,h6,h7,h8,h9,h10,h11,h12,h13⟩:=id xf
 have fr:s.heap.FunFrames (PySem.W.hideAll s.heap (frs X.stack ++ [e,T])) (X.env :: X.outer):=by
  have q:=PySem.W.funFrames_hide (as:=frs X.stack ++ [e,T]) J.stack fun env he a ha=>List.mem_append_left _ (List.mem_filterMap.mpr ⟨env,he,ha⟩)
  rw [hst.1] at q ⊢
  exact q
 refine Jm (fun h=>Jl (by rw [J.ok.frames,hst.1]) fr hst.2 ⟨oe,vs,T,oT,ts,h1,⟨h2,h13⟩,h3,h4,PySem.W.hideAll_none _ (List.mem_append_right _ (by simp)),h5,h6,h7,h8⟩ (fun b o q=>PySem.W.of_hideAll _ q) (PySem.W.hideAll_none _ (List.mem_append_right _ (by simp))) h) fun h2' ⟨f1,f2,f4,hup⟩=>?_
 have hF:∀ b o,s.heap.get? b=some o→b∈frs X.stack→∃ sl,h2'.get? b=some { o with slots:=sl }:=fun b o q hb=>by
  obtain ⟨o',q',nf⟩:=J.stackFields hb
  rw [q] at q';cases q'
  exact hup b o q nf
 obtain ⟨r1,r2,r3⟩:=J.flown (cs:=[e,T]) hex (fun b z=>by
   have z':b=e∨b=T:=by simpa using z
   rcases z' with rfl | rfl
   ·exact ⟨h11,h9⟩
   ·exact ⟨h12,h10⟩) (fun b o q n n2=>PySem.W.hideAll_get _ q fun z=>(List.mem_append.mp z).elim n n2) hF h11 h9 f1 f4
 exact ⟨e,cls,od,H,rfl,J.os,J.bare,r1,r2,r3,hE⟩
end
def Jo (X:Cx) (E:XK):Prop:=∀ (pins:List (Addr × Obj)) (σ:St) (H:Hp) (s:Shared) (h':Heap) (e:Addr) (cls:Value) (vs:List Value),Inv X pins σ H s→Heap.MadeExcOf s.heap h' e cls vs→E cls none H→X.xe (.ref e) { s with heap:=h' }
section
variable {P:Program} {w:World} {K:PySem.W.Frag} {mg:Str→Option Value} {base:Heap} {N:List Str} {qual:Str} {scope:Scope} {f:Addr} {cd:Value} {A:Around} {outer:List Env} {s₀:Shared} {H₀:Hp} {E:XK}
theorem wq:vL (CX1 P w) (jU (CX1 P w) P w K mg base N qual scope f cd A outer s₀ H₀ E) E:=by
 intro pins σ H s ev s' I hcx
 obtain ⟨e,cls,od,H',rfl,os,bare,un,hok,xf,hE⟩:=hcx
 have J:=I.call' (ch:=[]) os un hok bare (fun b z=>nomatch z)
 exact Jn (X:=jU (CX1 P w) P w K mg base N qual scope f cd A outer s₀ H₀ E) ⟨rfl,rfl⟩ rfl J (xf.older (I.there0 rfl)) hE
theorem Zg:Jo (jU (CX1 P w) P w K mg base N qual scope f cd A outer s₀ H₀ E) E:=by
 intro pins σ H s h' e cls vs I hx hE
 exact Vv (X:=jU (CX1 P w) P w K mg base N qual scope f cd A outer s₀ H₀ E) ⟨rfl,rfl⟩ rfl I hx hE
theorem QX:PassesOwn (model P w) (jU (CX1 P w) P w K mg base N qual scope f cd A outer s₀ H₀ E).A (jU (CX1 P w) P w K mg base N qual scope f cd A outer s₀ H₀ E).env (jU (CX1 P w) P w K mg base N qual scope f cd A outer s₀ H₀ E).xe:=PassesOwn.leaving
end
abbrev qM:List Value:=[.type "ValueError",.type "Exception",.type "BaseException",.type "object"]
abbrev wU:String:="ValueError.__new__"
def vP (C:Addr) (ta:TA) (E:XK):TS:=fun _ σ H=>ta σ H fun vs H1=>vs.length≤sizeLine∧E (.ref C) none H1
theorem KK {K:PySem.W.Frag} {h:Heap} {C:Addr} {bmB:List Value} {newId:String} (X:K.In h) (q:PySem.W.excIn K C bmB newId=true) :
  ∃ bm N nm qn bs hdct sn sub ab col dd k0 k1 k2 k3 k5 mN,h.get? C=some (excClassObj nm qn C N bs bm hdct sn sub ab col dd k0 k1 k2 k3 k5 newId)∧h.Ns N mN∧mN "__init__"=none∧OwnTail h bmB bm:=by
 unfold PySem.W.excIn at q
 split at q
 case h_2=>cases q
 rename_i dd cd sl ho
 split at q
 case h_2=>cases q
 rename_i C' bm k0 k1 k2 k3 n k5 hm hs
 rw [Bool.and_eq_true,Bool.and_eq_true,Bool.and_eq_true,Bool.and_eq_true,Bool.and_eq_true] at q
 obtain ⟨⟨⟨⟨⟨q1,q2⟩,q3⟩,q4⟩,q5⟩,q6⟩:=q
 obtain rfl:C'=C:=by simpa using q1
 obtain rfl:n=newId:=by simpa using q2
 obtain ⟨nm,bs,mro,ns,qn,hd,sn,sub,ab,col,del⟩:=cd
 have hdel:del=false:=by simpa using q3
 have hm':mro=.ref C' :: bm:=hm
 subst hdel hm'
 have hsl:sl=#[k0,k1,k2,k3,some (.builtin n),k5]:=by
  apply Array.ext'
  exact hs
 subst hsl
 exact ⟨bm,ns,nm,qn,bs,hd,sn,sub,ab,col,dd,k0,k1,k2,k3,k5,_,X _ _ ho,.of_isNs (PySem.W.isNs_of_in X q5),PySem.W.nsMap_none_of_in X q5 (by simpa using q6),PySem.W.tail_of_in X q4⟩
section
variable {X:Cx} {x:Str} {C:Addr} {np cpos pos:Pos} {e₀:Expr} {rest:List Expr} {ta:TA} {E:XK}
theorem kH (hc:X.calm=true) (q:PySem.W.excIn X.K C qM wU=true) (hr:Jo X E) (hg:Gl X x) (hm:X.mg x=some (.ref C)) (ha:PA X (e₀ :: rest) ta)
  (he:starEach (e₀ :: rest) X.env=(false,eval e₀ X.env) :: starEach rest X.env:=by rfl) (hp:(backTo cpos (starEach rest X.env)).any (·.1)=false:=by rfl) (hd:(x == ("__debug__":Str))=false:=by decide) :
  PS X (.Raise (some (.Call (.Name x np) (e₀ :: rest) [] cpos)) none pos) (vP C ta E):=by
 intro pins s σ H D I h
 obtain ⟨tl,N,nm,qn,bs,hdct,sn,sub,ab,col,dd,k0,k1,k2,k3,k5,mN,hC,hN,hni,T⟩:=KK I.ok.mod.kin q
 refine wpAny_Raise_call_subT (C:=C) (nm:=nm) (q:=qn) (N:=N) (bs:=bs) (bm:=tl) (hdct:=hdct) (sn:=sn) (sub:=sub) (ab:=ab) (col:=col) (dd:=dd) (k0:=k0) (k1:=k1) (k2:=k2) (k3:=k3) (k5:=k5) (newId:=wU)
  PySem.F.excBase_ValueError (mN:=mN) (T.hasType PySem.F.excBase_ValueError.hasBase) (I.ok.hd hc) (by rw [he];exact hp) hni (vd I hg hm ⟨rfl,?_⟩ hd)
 have hA:=ha cpos pins s σ H _ I h
 rw [he] at hA ⊢
 refine Calls.evalArgs_plain (thn hA fun us s2 ⟨vs,H2,I2,r2,z2,q2⟩=>?_)
 exact ⟨rfl,by rw [← r2.length];exact z2,I2.bk _ _ hC,hN.keeps I2.bk,T.keeps I2.bk,fun h' e hm=>hr pins σ H2 s2 h' e _ _ I2 hm q2⟩
end
def Asc (x:Str):Prop:=∀ c∈x.cps.toList,c < 128
section
variable {X:Cx} {e:Expr} {te:TE} {a:Str} {j:Nat} {p1 p2 p3:Pos}
def XE (te:TE):TE:=fun σ H Q=>te σ H fun v H1=>∃ x:Str,v=.str x∧x.length≤100000∧Asc x∧∀ y:Str,Q (.str y) H1
theorem W8 (he:PE X e te) (hl:a.length≤1000:=by decide +kernel):PE X (.JoinedStr [.Constant (.str a) j p1,.FormattedValue e 114 none p2] p3) (XE te):=by
 intro pins s σ H Q I h
 refine wpAny_JoinedStr ?_
 show wpAny _ _ (eval (.Constant (.str a) j p1) X.env) _ _ s
 have e0:(Str.empty ++ a).length=a.length:=by rw [Str.length_append];simp [Str.empty,Str.length]
 refine Calls.Constant_str ⟨a,_,rfl,by rw [e0];exact zH (by lia),?_⟩
 show wpAny _ _ (eval (.FormattedValue e 114 none p2) X.env) _ _ _
 refine wpAny_FormattedValue_repr (thn (he pins _ σ H _ (I.tok _) h) fun v s1 ⟨x,H1,I1,r1,z,ex,hz,hA,q⟩=>?_)
 subst ex
 obtain ⟨t,rfl⟩:=r1
 have hr:(reprText z).length≤10 * z.length + 2:=StrLaws.reprText_len z fun c hc=>Nat.lt_trans (hA c hc) (by decide)
 have hs:sizeLine=16777216:=sizeLine_eq
 refine wpAny_pyReprObj_gives (typeIs_str _ z t) PySem.F.slot_str_repr PySem.F.entry_str_repr (PySem.F.args_str_repr_1 _) (gives_str_repr z t) ?_ rfl (by lia)
 have fin:∀ (t':Tok) (tk:Nat),∃ y u,Value.str (reprText z) t'=Value.str y u∧(Str.empty ++ a ++ y).length≤sizeLine∧Joins (model X.prog X.w) X.A X.xe (evalEach [] X.env) (Str.empty ++ a ++ y) (fun out s₁=>out.length≤sizeLine∧EP X pins σ Q (.str out s₁.toks) { s₁ with toks:=s₁.toks + 1 }) { s1 with toks:=tk }:=fun t' tk=>by
  have hz2:(Str.empty ++ a ++ reprText z).length≤sizeLine:=by rw [Str.length_append,e0];lia
  exact ⟨_,_,rfl,hz2,hz2,.str _,H1,I1.tok _,⟨_,rfl⟩,q _⟩
 exact wpAny_formatField_str (fin _ _) (fin _ _) (by lia)
def zbi (te:TE):TE:=fun σ H Q=>te σ H fun v H1=>∃ x:Str,v=.str x∧x.length≤100000∧∀ y:Str,Q (.str y) H1
end
end L2
namespace L2
open PySem PySem.Spec PyProof.Rows
structure ExC (K:PySem.W.Frag) (C:Addr):Prop where
 ga:PySem.W.findIn K (.ref C) "__getattribute__"=some (some (.builtin "BaseException.__getattribute__"))
 gx:PySem.W.findIn K (.ref C) "__getattr__"=some none
 cl:PySem.W.findIn K (.ref C) "__class__"=some (some (.builtin "object.__class__"))
 ob:PySem.W.mroIn K C (.type "object")=some true
 be:PySem.W.mroIn K C (.type "BaseException")=some true
 ge:PySem.W.specialIn K (.builtin "object.__class__") "__get__"=some (some (.builtin "getset_descriptor.__get__"))
 tk:PySem.W.takesIn K (.builtin "object.__class__")=some true
section
variable {prog:Program} {w:World} {A:Around} {E:Value→Shared→Prop} {K:PySem.W.Frag} {e C:Addr} {s:Shared}
open PySem.Builtin PySem.Builtin.Getset_descriptor in
end
end L2
namespace L2
open PySem PySem.Spec PyProof.Rows
section
variable {X:Cx} {pins:List (Addr × Obj)} {σ:St} {H:Hp} {s:Shared}
theorem Inv.land {h2:Heap} {cs:List Addr} (hex:X.ex=[]) (I:Inv X pins σ H s) (hcs:∀ b∈cs,H b=none∧X.s₀.heap.get? b=none) (hcp:∀ b∈cs,∀ p∈X.pn ++ pins,p.1≠b)
  (hB:∀ b o,s.heap.get? b=some o→b ∉ frs X.stack→b ∉ cs→h2.get? b=some o) (sm:s.heap.UpToSlots h2):Inv X pins σ H { s with heap:=h2 }:=by
 have hF:∀ b o,s.heap.get? b=some o→b∈frs X.stack→∃ sl,h2.get? b=some { o with slots:=sl }:=fun b o q hb=>by
  obtain ⟨o',q',nf⟩:=I.stackFields hb
  rw [q] at q';cases q'
  exact sm b o q nf
 obtain ⟨r1,r2⟩:=I.behind hex hcs hB hF
 have ce:∀ c v,s.heap.IsCell c v→h2.IsCell c v:=fun c v ⟨o,ho,hd⟩=>by
  obtain ⟨sl,q⟩:=sm c o ho fun vs z=>by rw [hd] at z;cases z
  exact ⟨_,q,hd⟩
 refine ⟨I.ok,I.os,I.bare,by rw [hex];exact r1,?_,fun x c e=>?_,I.free,I.freeC,fun p hp=>?_,r2,I.len⟩
 ·obtain ⟨m,hn,hl⟩:=I.loc
  refine ⟨m,sm.ns hn,fun i x v e1 e2 e3=>?_⟩
  obtain ⟨u,r,l⟩:=hl i x v e1 e2 e3
  refine ⟨u,r,?_⟩
  rcases l with l | ⟨k,c,e,z⟩
  ·exact .inl l
  ·exact .inr ⟨k,c,e,ce c _ z⟩
 ·obtain ⟨v,z⟩:=I.cell x c e
  exact ⟨v,ce c v z⟩
 ·obtain ⟨e,n,ne,nf,d⟩:=I.pin p hp
  exact ⟨hB _ _ e (fun z=>(List.mem_cons.mp (I.stkSub _ z)).elim ne nf) fun z=>hcp _ z p hp rfl,n,ne,nf,d⟩
theorem Inv.track {e:Addr} {φ:Heap→Prop} (I:Inv X pins σ H s) (hn:H e=none) (h0:X.s₀.heap.get? e=none) (hex:X.ex=[]) (hL:e≠X.env.locals) (hc:∀ x c,X.env.cells.lookup x=some c→c≠e) (hp:∀ p∈X.pn ++ pins,p.1≠e)
  (ok:φ s.heap∧(∃ o,s.heap.get? e=some o)∧∀ h1 h2:Heap,φ h1→(∀ o,h1.get? e=some o→h2.get? e=some o)→φ h2):Inv X pins σ (upd H e (.ext φ)) s:=by
 have ne:∀ b u,H b=some u→b≠e:=fun b u q z=>by rw [z,hn] at q;cases q
 have B:=I.base
 refine ⟨I.ok,I.os,I.bare,⟨B.keep,B.slot,fun b o q n x=>?_,B.there,fun b xs q=>?_,fun b o u q=>?_,fun b ps q=>?_⟩,I.loc,I.cell,?_,fun x c q=>?_,fun p q=>?_,fun b u q=>?_,I.len⟩
 ·rw [zk fun z=>by rw [z,h0] at q;cases q];exact B.free b o q n x
 ·have z:=B.tups b xs q
  rw [zk (ne _ _ z)];exact z
 ·have z:=B.frzs b o u q
  rw [zk (ne _ _ z)];exact z
 ·obtain ⟨m,z⟩:=B.tbls b ps q
  exact ⟨m,by rw [zk (ne _ _ z)];exact z⟩
 ·rw [zk (Ne.symm hL)];exact I.free
 ·rw [zk (hc x c q)];exact I.freeC x c q
 ·obtain ⟨z1,z2,z3,z4,z5⟩:=I.pin p q
  exact ⟨z1,by rw [zk (hp p q)];exact z2,z3,z4,z5⟩
 ·by_cases hb:b=e
  ·subst hb
   rw [zc] at q;cases q
   exact ok
  ·rw [zk hb] at q
   exact (I.hok b u q).stay (fun c v _ z=>z) (fun c z=>by rw [zk (ne _ _ z)];exact z) fun c xs z=>by rw [zk (ne _ _ z)];exact z
theorem Inv.forget {h':Heap} {t':Nat} {i:Nat} {n:Str} {m:Str→Option Value} {v:Option Value} (I:Inv X pins σ H s) (hN:X.N.Nodup) (hi:X.N[i]?=some n)
  (hm:s.heap.Ns X.env.locals m) (hl:∀ (i:Nat) (x:Str) (v:V),X.N[i]?=some x→σ[i]?=some (some v)→Vis X.env.scope x→∃ u,RelV v u∧zah X.env s.heap m x u)
  (hn:h'.Ns X.env.locals (fun x=>if x=n then v else m x)) (hs:Heap.SameBut X.env.locals s.heap h'):Inv X pins (σ.set i none) H { s with heap:=h',toks:=t' }:=by
 have nL:∀ b o,X.s₀.heap.get? b=some o→b≠X.env.locals:=fun b o e=>Nat.ne_of_lt (Nat.lt_of_lt_of_le (Heap.lt_size e) I.ok.above)
 have hiσ:i < σ.length:=by rw [I.len];exact (List.getElem?_eq_some_iff.mp hi).1
 refine ⟨I.ok,I.os,I.bare,⟨fun b o e n hb hx=>(hs.2 b (nL b o e)).trans (I.base.keep b o e n hb hx),fun b o e n hb hx=>?_,I.base.free,fun b o e hx=>?_,I.base.tups,I.base.frzs,I.base.tbls⟩,⟨_,hn,fun j y w e1 e2 e3=>?_⟩,fun y c e=>?_,I.free,I.freeC,fun p hp=>?_,fun b u e=>?_,by simpa using I.len⟩
 ·obtain ⟨sl,e1⟩:=I.base.slot b o e n hb hx
  exact ⟨sl,(hs.2 b (nL b o e)).trans e1⟩
 ·obtain ⟨o',e1⟩:=I.base.there b o e hx
  exact ⟨o',(hs.2 b (nL b o e)).trans e1⟩
 ·by_cases hj:j=i
  ·subst hj
   rw [List.getElem?_set_self hiσ] at e2
   cases e2
  ·rw [List.getElem?_set_ne (Ne.symm hj)] at e2
   obtain ⟨u,r,q⟩:=hl j y w e1 e2 e3
   refine ⟨u,r,?_⟩
   rcases q with ⟨k,e⟩ | ⟨k,c,e,z⟩
   ·have:y≠n:=fun e=>hj (Zk hN e1 (e ▸ hi))
    exact .inl ⟨k,by simp [this,e]⟩
   ·exact .inr ⟨k,c,e,z.sameBut hs (I.cne y c e)⟩
 ·obtain ⟨w',z⟩:=I.cell y c e
  exact ⟨w',z.sameBut hs (I.cne y c e)⟩
 ·obtain ⟨e,n,ne,nf,d⟩:=I.pin p hp
  exact ⟨(hs.2 p.1 ne).trans e,n,ne,nf,d⟩
 ·refine (I.hok b u e).stay (fun c w' hc q=>(hs.2 c ?_).trans q) (fun _ q=>q) fun _ _ q=>q
  rintro rfl
  rcases hc with rfl | hc
  ·rw [I.free] at e;cases e
  ·rw [I.free] at hc;cases hc
end
def exO (e C:Addr):HO:=.ext fun h=>∃ o,h.get? e=some o∧o.cls=.ref C
abbrev Cx.sub (X:Cx) (e:Addr):Cx:={ X with A:=X.A.mark (some (.ref e)),calm:=false,xe:=fun _ _=>False }
section
variable {X:Cx} {pins:List (Addr × Obj)} {σ:St} {H:Hp} {s:Shared} {e:Addr}
theorem Inv.toSub (I:Inv X pins σ H s):Inv (X.sub e) pins σ H s :=
 ⟨⟨I.ok.mod,I.ok.kind,I.ok.glob,I.ok.blt,I.ok.above,I.ok.inj,I.ok.has,I.ok.cab,(fun z=>nomatch z),I.ok.frames,I.ok.stk,I.ok.exf,I.ok.bs,I.ok.bsz,I.ok.noex,I.ok.exfs,I.ok.funs,I.ok.frf⟩,I.os,I.bare,I.base,I.loc,I.cell,I.free,I.freeC,I.pin,I.hok,I.len⟩
theorem Inv.ofSub {J:Inv X pins σ H s} {σ':St} {H':Hp} {s':Shared} (I:Inv (X.sub e) pins σ' H' s'):Inv X pins σ' H' s' :=
 ⟨J.ok,I.os,I.bare,I.base,I.loc,I.cell,I.free,I.freeC,I.pin,I.hok,I.len⟩
end
abbrev EXK:=Value→St→Hp→Prop
section
variable {X:Cx} {k:Nat} {f:Addr} {fd:FuncData} {ps:List Str} {sp:Sp} {x:Str} {p pos:Pos} {e:Expr} {es:List Expr} {t:TA}
def zaQ (sp:Sp) (ta:TA) (EX:EXK):TE:=fun σ H Q=>ta σ H fun vs H1=>sp (vs ++ []) H1 Q fun cls _ H2=>EX cls σ H2
end
section
variable {X:Cx} {ex:Expr} {tx:EXK→TE} {pos p1:Pos} {i:Nat} {y:Str}
def zaR (tx:EXK→TE) (EX:EXK):TS:=fun D σ H=>tx EX σ H fun _ H1=>D.nx σ H1
def zbj (tx:EXK→TE) (EX:EXK):TS:=fun D σ H=>tx EX σ H D.rt
def zbk (tx:EXK→TE) (i:Nat) (EX:EXK):TS:=fun D σ H=>tx EX σ H fun v H1=>D.nx (σ.set i (some v)) H1
end
structure ExK (K:PySem.W.Frag) (C:Addr):Prop extends ExC K C where
 has:(PySem.W.clsIn K C).isSome=true
def XG (i:Nat) (D:j4):j4:={ nx:=fun σ H=>D.nx (σ.set i none) H,rt:=D.rt,bk:=fun σ H=>D.bk (σ.set i none) H,ct:=fun σ H=>D.ct (σ.set i none) H }
def zbO (K:PySem.W.Frag) (tb:EXK→TS) (C0:Addr) (i:Nat) (th:TS):TS:=fun D σ H=>tb (fun cls σ1 H1=>∃ C,cls=.ref C∧ExK K C∧PySem.W.exmOne K (.ref C) (.ref C0)=some true ∧
 ∀ e,H1 e=none→th (XG i D) (σ1.set i (some (.ref e))) (upd H1 e (exO e C))) D σ H
section
variable {X:Cx} {st b₀:Stmt} {suite:List Stmt} {tb:EXK→TS} {th:TS} {c n:Str} {C0:Addr} {i:Nat} {np hpos pos:Pos}
end
end L2
namespace L2
open PySem PySem.Spec PyProof.Rows
def zaS:V→Option Value
 | .ty T=>some (.type T)
 | .ref D=>some (.ref D)
 | _=>none
abbrev zbP (K:PySem.W.Frag):RC:=fun xs H Q=>∃ a C c cv b,xs=[.ref a,c]∧H a=some (exO a C)∧ExK K C∧zaS c=some cv∧PySem.W.kitOne K (.ref C) cv=some b∧Q (.bl b) H
abbrev zbl (K:PySem.W.Frag):RC:=fun xs H Q=>∃ a C p,∃ cs:List Addr,∃ b,xs=[.ref a,.ref p]∧H a=some (exO a C)∧ExK K C∧H p=some (.tup (cs.map V.ref))∧PySem.W.kitAny K (.ref C) (cs.map Value.ref)=some b∧Q (.bl b) H
section
variable {X:Cx}
end
theorem zR {P:Program} {w:World} {X:Cx}:vL (CX1 P w) X E0:=fun _ _ _ _ _ _ _ h=>by
 obtain ⟨_,_,_,_,_,_,_,_,_,_,z⟩:=h
 exact z.elim
section
variable {P:Program} {w:World} {K:PySem.W.Frag} {mg:Str→Option Value} {base:Heap}
theorem Fun.ok1 {x qual:Str} {st:Stmt} {f:Addr} {fd:FuncData} {N ps:List Str} {k:Nat} {sp:Sp} (F:Fun K x qual st f fd) (S:zC N ps (zi st)) (len:∀ vs H Q E,sp vs H Q E→vs.length=ps.length)
  (hbody:∀ (cdv:Value) (A:Around) (outer:List Env) (s:Shared) (H:Hp) (vs:List V) (Q:VK) (E:XK),Room k (A.deeper (envOfC qual (zi st) s.heap.objs.size f cdv))→sp vs H Q E →
   ∃ t,PSs (jU (CX1 P w) P w K mg base N qual (zi st) f cdv A outer s H E) (zz st) t∧t { nx:=fun _ H'=>Q .non H',rt:=Q } (start N vs) H):FnOk P w K mg base (CX1 P w) (k + 1) f fd ps sp:=by
 obtain ⟨oc,od,kV,doc,pm,an,cdv,ct,osl,rfl,lk,hcd⟩:=F.ex
 exact zak lk hcd S len fun A outer s H vs Q E hr hsp=>hbody cdv A outer s H vs Q E hr hsp
theorem Fun.ok0 {x qual:Str} {st:Stmt} {f:Addr} {fd:FuncData} {N ps:List Str} {k:Nat} {sp:Sp} (F:Fun K x qual st f fd) (S:zC N ps (zi st)) (len:∀ vs H Q E,sp vs H Q E→vs.length=ps.length)
  (hbody:∀ (cdv:Value) (A:Around) (outer:List Env) (s:Shared) (H:Hp) (vs:List V) (Q:VK) (E:XK),Room k (A.deeper (envOfC qual (zi st) s.heap.objs.size f cdv))→sp vs H Q E →
   ∃ t,PSs (jU (CX1 P w) P w K mg base N qual (zi st) f cdv A outer s H E).nox (zz st) t∧t { nx:=fun _ H'=>Q .non H',rt:=Q } (start N vs) H):FnOk P w K mg base (CX1 P w) (k + 1) f fd ps sp :=
 F.ok1 S len fun cdv A outer s H vs Q E hr h=>let ⟨t,a,b⟩:=hbody cdv A outer s H vs Q E hr h;⟨t,a.nox,b⟩
end
theorem walk_ofX {l:PySem.W.OpenLaw} {n k:Nat} {q:Program} {loose:List Str} {XP:(Str→Option Value)→Heap→Prop} {YP:World→Heap→Prop} {d:DefRec} {K:Params→PySem.W.Frag} {sp:PySem.W.Frag→Sp} {x:Str}
  (hn:l.most=some n) (hn2:n≤sizeLine) (hdf:d.params.defaults=[]) (hr:Room k callerA)
  (hY:∀ (w:World) (h:Heap),YP w h→(K w.params).In h)
  (F:∀ (w:World) (mg:Str→Option Value) (fa:Addr) (h:Heap),(K w.params).In h→h.Ns mainGlobals mg→mg d.name=some (.ref fa) →
   ∃ fd:FuncData,(∀ (s:Shared) (u:Value),BindsTo s fd ⟨[u],[]⟩ [(x,u)]) ∧
    ∀ base:Heap,(K w.params).In base→base.Ns mainGlobals mg→FnOk l.prog w (K w.params) mg base (CX1 l.prog w) k fa fd [x] (sp (K w.params)))
  (hsp:∀ (K:PySem.W.Frag) (H:Hp) (a:Addr) (ns:List Int),ns.length≤n→Wu H→SqL K H a (ns.map V.int)→sp K [.ref a] H (fun v _=>v=.bl true) fun _ _ _=>False) :
  PySem.W.WalkO q loose XP YP l.row.toRowW d [] (fun f vs=>PySem.call f vs) :=
 W5 (K:=K) (CX:=fun w=>CX1 l.prog w) (sp:=fun w=>sp (K w.params)) hn hn2 hdf hr hY F (fun w H a ns h1 h2 h3=>hsp (K w.params) H a ns h1 h2 h3) fun _ _ _ _ _ z=>by
  obtain ⟨_,_,_,_,_,_,_,_,_,_,y⟩:=z
  exact y
end L2
namespace L2
open PySem
section
variable {σ:St} {H:Hp} {nx:St→Hp→Prop} {B:V→St→Hp→(St→Hp→Prop)→Prop}
theorem ZE {lo:Int} {n:Nat} (Pv:Nat→St→Hp→Prop) (h0:Pv 0 σ H) (hs:∀ i σ H,i < n→Pv i σ H→B (.int (lo + i)) σ H (Pv (i + 1))) (hd:∀ σ H,Pv n σ H→nx σ H) :
  ∃ W:Nat→Nat→St→Hp→Prop,(∃ m,W 0 m σ H)∧∀ i m σ H,W i m σ H→((Itr lo n).stop i H∧nx σ H)∨((Itr lo n).go i H∧∃ N:St→Hp→Prop,(∀ σ' H',N σ' H'→∃ m',m' < m∧W (i + 1) m' σ' H')∧∀ x H',(Itr lo n).yld i H x H'→B x σ H' N):=by
 refine ⟨fun i m σ H=>m=n - i∧i≤n∧Pv i σ H,⟨n,by simp,Nat.zero_le _,h0⟩,?_⟩
 rintro i m σ H ⟨rfl,hi,p⟩
 by_cases hlt:i < n
 ·refine .inr ⟨hlt,Pv (i + 1),fun σ' H' p'=>⟨n - (i + 1),by lia,rfl,hlt,p'⟩,?_⟩
  rintro x H' ⟨rfl,rfl⟩
  exact hs i σ _ hlt p
 ·obtain rfl:i=n:=by lia
  exact .inl ⟨Nat.le_refl _,hd σ H p⟩
theorem YC {K:PySem.W.Frag} {a:Addr} (xs:List V) (Pv:Nat→St→Hp→Prop) (h0:Pv 0 σ H) (hl:∀ i σ H,Pv i σ H→SqL K H a xs) (hs:∀ i x σ H,xs[i]?=some x→Pv i σ H→B x σ H (Pv (i + 1))) (hd:∀ σ H,Pv xs.length σ H→nx σ H) :
  ∃ W:Nat→Nat→St→Hp→Prop,(∃ m,W 0 m σ H)∧∀ i m σ H,W i m σ H→((Itl K a).stop i H∧nx σ H)∨((Itl K a).go i H∧∃ N:St→Hp→Prop,(∀ σ' H',N σ' H'→∃ m',m' < m∧W (i + 1) m' σ' H')∧∀ x H',(Itl K a).yld i H x H'→B x σ H' N):=by
 refine ⟨fun i m σ H=>m=xs.length - i∧i≤xs.length∧Pv i σ H,⟨xs.length,by simp,Nat.zero_le _,h0⟩,?_⟩
 rintro i m σ H ⟨rfl,hi,p⟩
 have q:=hl i σ H p
 by_cases hlt:i < xs.length
 ·refine .inr ⟨⟨xs,xs[i],q,by simp [hlt]⟩,Pv (i + 1),fun σ' H' p'=>⟨xs.length - (i + 1),by lia,rfl,hlt,p'⟩,?_⟩
  rintro x H' ⟨rfl,y⟩
  exact hs i x σ _ (y xs q) p
 ·obtain rfl:i=xs.length:=by lia
  exact .inl ⟨⟨xs,q,Nat.le_refl _⟩,hd σ H p⟩
end
theorem ZF {J:It} {D:Addr} {τ₀:St} {H1:Hp} {Q:Hp→Prop} {B:V→St→Hp→(V→St→Hp→Prop)→(St→Hp→Prop)→Prop} (n:Nat) (hn:n≤1000000) (C:St→Prop) (R:Nat→V→Prop) (hC:C τ₀)
  (go:∀ i H,Same H1 H→i < n→J.go i H) (stop:∀ H,Same H1 H→J.stop n H) (hD:H1 D=none)
  (hs:∀ i x τ H H',C τ→Same H1 H→i < n→J.yld i H x H'→B x τ H' (fun v τ' H4=>C τ'∧R i v∧Same H H4) (fun _ _=>False))
  (hd:∀ ys H,ys.length=n→(∀ i v,ys[i]?=some v→R i v)→Same H1 H→H D=some (.lst ys)→Q H) :
  ∃ W:Nat→Nat→List V→St→Hp→Prop,(∃ m,W 0 m [] τ₀ (upd H1 D (.lst [])))∧∀ i m ys τ H,W i m ys τ H→H D=some (.lst ys) ∧
  ((J.stop i H∧Q H)∨(J.go i H∧ys.length < sizeLine∧∃ N:V→St→Hp→Prop,
   (∀ v τ' H',N v τ' H'→H' D=some (.lst ys)∧∃ m',m' < m∧W (i + 1) m' (ys ++ [v]) τ' (upd H' D (.lst (ys ++ [v]))))∧∃ Nf:St→Hp→Prop,(∀ τ' H',Nf τ' H'→∃ m',m' < m∧W (i + 1) m' ys τ' H') ∧
   ∀ x H',J.yld i H x H'→B x τ H' N Nf)):=by
 have ext:∀ {H:Hp} {o:HO},Same H1 H→Same H1 (upd H D o):=fun {H o} h b u e=>by
  rw [zk (zx e hD)];exact h b u e
 refine ⟨fun i m ys τ H=>m=n - i∧i≤n∧ys.length=i∧(∀ j v,ys[j]?=some v→R j v)∧Same H1 H∧H D=some (.lst ys)∧C τ,⟨n,by simp,Nat.zero_le _,rfl,by simp,ext (Same.refl _),zc,hC⟩,?_⟩
 rintro i m ys τ H ⟨rfl,hi,hl,hR,hS,hy,hc⟩
 refine ⟨hy,?_⟩
 by_cases hlt:i < n
 ·refine .inr ⟨go i H hS hlt,Nat.lt_of_le_of_lt (by lia:ys.length≤1000000) (by decide),(fun v τ' H4=>C τ'∧R i v∧Same H H4),?_,(fun _ _=>False),fun _ _ z=>z.elim,fun x H' y=>hs i x τ H H' hc hS hlt y⟩
  rintro v τ' H4 ⟨c4,r4,s4⟩
  refine ⟨s4 _ _ hy,n - (i + 1),by lia,rfl,hlt,by simp [hl],fun j u hj=>?_,ext (hS.trans s4),zc,c4⟩
  rcases Nat.lt_trichotomy j ys.length with h | h | h
  ·exact hR j u (by rwa [List.getElem?_append_left h] at hj)
  ·subst h
   simp at hj
   subst hj
   rw [hl];exact r4
  ·rw [List.getElem?_eq_none (by simp;lia)] at hj;cases hj
 ·obtain rfl:i=n:=by lia
  exact .inl ⟨stop H hS,hd ys H hl hR hS hy⟩
theorem Y2 (n d:Nat) (v:Int):max (0:Int) (min (if v < 0 then v + n else v) n)=((HT.sIx n d (some v):Nat):Int):=by
 show _=(((if v < 0 then (v + (n:Int)).toNat else min v.toNat n):Nat):Int)
 by_cases hv:v < 0
 ·simp only [if_pos hv];lia
 ·simp only [if_neg hv];lia
theorem KL (a b:Nat):sliceRange (a:Int) (b:Int) 1=(List.range (b - a)).map fun k=>a + k:=by
 simp only [sliceRange,show ((1:Int) > 0)=True from by simp,if_true]
 by_cases hlt:(a:Int) < b
 ·have e3:(((b:Int) - a + 1 - 1) / 1).toNat=b - a:=by rw [Int.ediv_one];lia
  simp only [hlt,if_true,e3]
  refine List.map_congr_left fun k _=>?_
  lia
 ·have:b - a=0:=by lia
  simp [hlt,this]
theorem Jp (lo hi:Option Int) (n:Nat):Builtin.Str.strSliceIndices lo hi 1 n=(List.range (HT.sIx n n hi - HT.sIx n 0 lo)).map fun k=>HT.sIx n 0 lo + k:=by
 rw [← KL]
 unfold Builtin.Str.strSliceIndices
 simp only [show ((1:Int) > 0)=True from by simp,if_true]
 cases lo with
 | none =>
  cases hi with
  | none=>rfl
  | some v=>simp only [Y2 n n v];rfl
 | some u =>
  cases hi with
  | none=>simp only [Y2 n 0 u];rfl
  | some v=>simp only [Y2 n n v,Y2 n 0 u]
theorem Vw (x:Str) (lo hi:Option Int):(Txt.slice x lo hi).cps.toList=(x.cps.toList.drop (HT.sIx x.length 0 lo)).take (HT.sIx x.length x.length hi - HT.sIx x.length 0 lo):=by
 have hb:=HT.sIx_le x.length x.length (Nat.le_refl _) hi
 have hn:x.cps.toList.length=x.length:=by simp [Str.length]
 unfold Txt.slice
 rw [Jp]
 split
 ·rename_i h
  have h':HT.sIx x.length x.length hi - HT.sIx x.length 0 lo=x.length:=by simpa using h
  have e0:HT.sIx x.length 0 lo=0∨x.length=0:=by lia
  rcases e0 with e0 | e0
  ·rw [e0,List.drop_zero,List.take_of_length_le]
   lia
  ·rw [List.eq_nil_of_length_eq_zero (by lia:x.cps.toList.length=0)];simp
 ·by_cases hab:HT.sIx x.length 0 lo≤HT.sIx x.length x.length hi
  ·have h:=StrLaws.picks x.cps.toList (HT.sIx x.length x.length hi - HT.sIx x.length 0 lo) (HT.sIx x.length 0 lo) (by lia)
   simpa using h
  ·have:HT.sIx x.length x.length hi - HT.sIx x.length 0 lo=0:=by lia
   rw [this];simp
theorem Wx (x:Str) (k:Nat):(Txt.slice x (some (k:Int)) none).cps.toList=x.cps.toList.drop k:=by
 rw [Vw,HT.sIx_none,HT.sIx_nat]
 have hn:x.cps.toList.length=x.length:=by simp [Str.length]
 by_cases h:k≤x.length
 ·rw [Nat.min_eq_left h,List.take_of_length_le (by rw [List.length_drop];lia)]
 ·rw [List.drop_eq_nil_of_le (by lia:x.cps.toList.length≤k),Nat.min_eq_right (by lia),List.drop_eq_nil_of_le (by lia)];simp
theorem vQ {x y:Str} (h:x.cps.toList=y.cps.toList):x=y:=by
 obtain ⟨a⟩:=x
 obtain ⟨b⟩:=y
 have:a=b:=Array.toList_inj.mp h
 rw [this]
theorem W9 (x y:Str):(x ++ y).cps.toList=x.cps.toList ++ y.cps.toList:=by
 show (x.cps ++ y.cps).toList=_
 simp
theorem Vx (x y:Str):(0 + y.length≤x.length && Builtin.Str.subAt x y 0)=(x.cps.toList.take y.length == y.cps.toList):=by
 rw [StrLaws.subAt_eq,List.drop_zero]
 have hn:x.cps.toList.length=x.length:=by simp [Str.length]
 have hm:y.cps.toList.length=y.length:=by simp [Str.length]
 by_cases h:y.length≤x.length
 ·simp [h]
 ·have e:(x.cps.toList.take y.length == y.cps.toList)=false:=by
   rw [beq_eq_false_iff_ne]
   intro e
   have:=congrArg List.length e
   rw [List.length_take] at this
   lia
  rw [e];simp
open PySem.NumText in
section
def yC (w:Int):Str:=Str.ofString (toString w)
def dg (m:Nat):List Nat:=(Nat.toDigits 10 m).map Char.toNat
theorem yP {m:Nat} (h:m < 10):dg m=[48 + m]:=by
 unfold dg
 rw [Nat.toDigits_of_lt_base h]
 have:∀ d:Nat,d < 10→(Nat.digitChar d).toNat=48 + d:=by decide
 simp [this m h]
theorem jS {m:Nat} (h:10≤m):dg m=dg (m / 10) ++ [48 + m % 10]:=by
 have hm:m % 10 < 10:=Nat.mod_lt m (by decide)
 have t:Nat.toDigits 10 (m / 10) ++ Nat.toDigits 10 (m % 10)=Nat.toDigits 10 (10 * (m / 10) + m % 10):=Nat.toDigits_append_toDigits (by decide) (by lia) hm
 rw [Nat.div_add_mod] at t
 rw [← yP hm]
 unfold dg
 rw [← t,List.map_append]
theorem ka (m:Nat):AllDigits (dg m):=by
 induction m using Nat.strongRecOn with
 | _ m ih =>
  by_cases h:m < 10
  ·rw [yP h]
   intro c hc
   have e:c=48 + m:=by simpa using hc
   lia
  ·rw [jS (by lia)]
   intro c hc
   rcases List.mem_append.mp hc with hc | hc
   ·exact ih (m / 10) (by lia) c hc
   ·have e:c=48 + m % 10:=by simpa using hc
    lia
theorem XH (m:Nat):dg m≠[]:=by
 by_cases h:m < 10
 ·rw [yP h];simp
 ·rw [jS (by lia)];simp
theorem Jq (m:Nat):digitsVal (dg m)=m:=by
 induction m using Nat.strongRecOn with
 | _ m ih =>
  by_cases h:m < 10
  ·rw [yP h]
   show 0 * 10 + (48 + m - 48)=m
   lia
  ·rw [jS (by lia),digitsVal_snoc,ih (m / 10) (by lia)]
   lia
theorem ZG:∀ (k m:Nat),m < 10 ^ (k + 1)→(dg m).length≤k + 1
 | 0,m,h=>by rw [yP (by simpa using h)];simp
 | k + 1,m,h=>by
  by_cases hm:m < 10
  ·rw [yP hm];simp
  ·rw [jS (by lia),List.length_append]
   have:=ZG k (m / 10) (by rw [Nat.pow_succ] at h;lia)
   simp only [List.length_cons,List.length_nil]
   lia
theorem y6 (m:Nat):(yC (m:Int)).cps.toList=dg m:=by
 unfold yC
 rw [Str.ofString_eq_toList]
 show (Nat.repr m).toList.map Char.toNat=_
 rw [Nat.toList_repr]
 rfl
theorem wr {m:Nat} (h:0 < m):(yC (-(m:Int))).cps.toList=45 :: dg m:=by
 obtain ⟨k,rfl⟩:∃ k,m=k + 1:=⟨m - 1,by lia⟩
 have e:(-((k + 1:Nat):Int))=Int.negSucc k:=by lia
 rw [e]
 unfold yC
 rw [Str.ofString_eq_toList]
 show (("-" ++ Nat.repr (k + 1)):String).toList.map Char.toNat=_
 rw [String.toList_append,List.map_append,Nat.toList_repr]
 rfl
theorem kI (x:Str):x.length=x.cps.toList.length:=by simp [Str.length]
theorem Jr {w:Int} {k:Nat} (h:w.natAbs < 10 ^ (k + 1)):(yC w).length≤k + 2:=by
 rw [kI]
 rcases Int.lt_or_le w 0 with h0 | h0
 ·obtain ⟨m,rfl,hm⟩:∃ m:Nat,w=-(m:Int)∧0 < m:=⟨w.natAbs,by lia,by lia⟩
  rw [wr hm,List.length_cons]
  have:=ZG k m (by lia)
  lia
 ·obtain ⟨m,rfl⟩:∃ m:Nat,w=(m:Int):=⟨w.natAbs,by lia⟩
  rw [y6]
  have:=ZG k m (by lia)
  lia
theorem Wy {w:Int} (h:w.natAbs < 10 ^ 100):intText? (yC w)=some w:=by
 have hl:(yC w).length≤4300:=Nat.le_trans (Jr (k:=99) h) (by decide)
 rcases Int.lt_or_le w 0 with h0 | h0
 ·obtain ⟨m,rfl,hm⟩:∃ m:Nat,w=-(m:Int)∧0 < m:=⟨w.natAbs,by lia,by lia⟩
  rw [intText_neg (wr hm) (ka m) (XH m) hl,Jq]
 ·obtain ⟨m,rfl⟩:∃ m:Nat,w=(m:Int):=⟨w.natAbs,by lia⟩
  rw [intText_digits (by rw [y6];exact ka m) (by rw [y6];exact XH m) hl,y6,Jq]
def inF (c:Nat):Bool:=!(Builtin.Str.occurrences "0123456789" ⟨#[c]⟩ 0 (Str.length "0123456789") 1).isEmpty
theorem KM (c:Nat):inF c=true↔48≤c∧c≤57:=by
 unfold inF
 rw [StrLaws.found_one]
 have e:(Str.ofString "0123456789").cps.toList=[48,49,50,51,52,53,54,55,56,57]:=by decide +kernel
 rw [e]
 simp only [decide_eq_true_eq,List.mem_cons,List.not_mem_nil,or_false]
 omega
def vg (x:Str):Bool:=!decide (x="") && x.cps.toList.all inF
theorem qd (x:Str):vg x=true↔x.cps.toList≠[]∧AllDigits x.cps.toList:=by
 unfold vg
 rw [Bool.and_eq_true,Bool.not_eq_true',decide_eq_false_iff_not,List.all_eq_true]
 refine and_congr ⟨fun h e=>h (vQ (by rw [e];decide +kernel)),fun h e=>h (by rw [e];decide +kernel)⟩ ?_
 exact forall_congr' fun c=>forall_congr' fun _=>KM c
def inW (i:Int):Bool:=decide (-1000000000000000000000000000000≤i∧i≤1000000000000000000000000000000)
def yZ (x:Str):Str:=if (x.cps.toList.take 1 == [45])=true then Txt.slice x (some 1) none else x
theorem xS (x:Str):(∃ cs,x.cps.toList=45 :: cs∧(yZ x).cps.toList=cs)∨((∀ cs,x.cps.toList≠45 :: cs)∧yZ x=x):=by
 unfold yZ
 cases h:x.cps.toList with
 | nil=>exact .inr ⟨(fun cs e=>nomatch e),if_neg (by simp)⟩
 | cons c cs =>
  by_cases hc:c=45
  ·subst hc
   refine .inl ⟨cs,rfl,?_⟩
   rw [if_pos (by simp)]
   have:=Wx x 1
   rw [h] at this
   exact this
  ·refine .inr ⟨fun ds e=>hc (List.cons.inj e).1,?_⟩
   rw [if_neg (by simp [hc])]
def xH (x:Str):Int:=(intText? x).getD 0
theorem ZH {x:Str} (h:vg (yZ x)=true) (hl:x.length≤4300):intText? x=some (xH x):=by
 obtain ⟨h1,h2⟩:=(qd _).mp h
 unfold xH
 rcases xS x with ⟨cs,e,ef⟩ | ⟨_,ef⟩
 ·rw [ef] at h1 h2
  rw [intText_neg e h2 h1 hl];rfl
 ·rw [ef] at h1 h2
  rw [intText_digits h2 h1 hl];rfl
def xp (x:Str):Bool:=!(decide (31 < (yZ x).length) || !vg (yZ x)) && (inW (xH x) && decide (yC (xH x)=x))
theorem qe (x:Str):x.length≤(yZ x).length + 1:=by
 rw [kI,kI]
 rcases xS x with ⟨cs,e,ef⟩ | ⟨_,ef⟩
 ·rw [e,ef];simp
 ·rw [ef];lia
theorem Js (x:Str):(yZ x).length≤x.length:=by
 unfold yZ
 split
 ·exact Txt.slice_le x _ _
 ·exact Nat.le_refl _
theorem vR {w:Int} (h:inW w=true):xp (yC w)=true∧xH (yC w)=w∧(yC w).length≤40:=by
 have hw:-1000000000000000000000000000000≤w∧w≤1000000000000000000000000000000:=of_decide_eq_true h
 have hr:=Wy (w:=w) (Nat.lt_of_le_of_lt (by lia:w.natAbs≤1000000000000000000000000000000) (by decide +kernel))
 have hv:xH (yC w)=w:=by unfold xH;rw [hr];rfl
 have hf:(yZ (yC w)).length≤31∧vg (yZ (yC w))=true:=by
  rw [qd,kI]
  rcases Int.lt_or_le w 0 with h0 | h0
  ·obtain ⟨m,rfl,hm⟩:∃ m:Nat,w=-(m:Int)∧0 < m:=⟨w.natAbs,by lia,by lia⟩
   rcases xS (yC (-(m:Int))) with ⟨cs,e,ef⟩ | ⟨e,_⟩
   ·rw [wr hm] at e
    rw [ef,← (List.cons.inj e).2]
    exact ⟨ZG 30 m (by lia),XH m,ka m⟩
   ·exact absurd (wr hm) (e _)
  ·obtain ⟨m,rfl⟩:∃ m:Nat,w=(m:Int):=⟨w.natAbs,by lia⟩
   rcases xS (yC (m:Int)) with ⟨cs,e,ef⟩ | ⟨_,ef⟩
   ·have:=ka m 45 (by rw [← y6,e];simp)
    lia
   ·rw [ef,y6]
    exact ⟨ZG 30 m (by lia),XH m,ka m⟩
 refine ⟨?_,hv,Nat.le_trans (qe _) (by lia)⟩
 unfold xp
 rw [hv,hf.2,h,decide_eq_false (by lia:¬ 31 < (yZ (yC w)).length),decide_eq_true rfl]
 rfl
end
end L2
namespace L2
open PySem PySem.Spec PyProof.Rows
def zan (x y:Str):Int:=match Builtin.Str.occurrences x y 0 x.length 1 with | i :: _=>(i:Int) | []=>-1
abbrev zaf:RM:=fun x xs H Q=>∃ a b,x=.str a∧xs=[.str b]∧Q (.int (zan a b)) H
def Va (sep:Str):List Str→Str
 | [p]=>p
 | l=>Builtin.Str.glued sep l
def Jt (sep:Str) (ls:List Str):Nat:=ls.foldl (fun n p=>n + p.length + sep.length) 0
abbrev wK (K:PySem.W.Frag):RM:=fun x xs H Q=>∃ sep a ls,x=.str sep∧xs=[.ref a]∧SqL K H a (ls.map V.str)∧Jt sep ls≤sizeLine∧Q (.str (Va sep ls)) H
theorem Y3 (sep:Str):∀ (ls:List Str) (k:Nat),ls.foldl (fun n p=>n + p.length + sep.length) k=k + (ls.map (·.length)).sum + ls.length * sep.length
 | [],k=>by simp
 | p :: r,k=>by
  rw [List.foldl_cons,Y3 sep r,List.map_cons,List.sum_cons,List.length_cons,Nat.add_mul,Nat.one_mul]
  lia
theorem Vy (sep:Str) (ls:List Str):(Va sep ls).length≤Jt sep ls:=by
 unfold Jt
 rw [Y3]
 have g:(Builtin.Str.glued sep ls).length≤0 + (ls.map (·.length)).sum + ls.length * sep.length:=by
  rw [size_glued]
  have:(ls.length - 1) * sep.length≤ls.length * sep.length:=Nat.mul_le_mul_right _ (by lia)
  lia
 unfold Va
 split
 ·simp only [List.map_cons,List.map_nil,List.sum_cons,List.sum_nil,List.length_cons,List.length_nil];lia
 ·exact g
theorem YD:∀ {ls:List Str} {us:List Value},Vals (ls.map V.str) us→∃ l:List (Str × Tok),us=strValues l∧l.map (·.1)=ls
 | [],_,.nil=>⟨[],rfl,rfl⟩
 | x :: r,_,.cons h t=>by
  obtain ⟨l,rfl,e⟩:=YD t
  obtain ⟨k,rfl⟩:=h
  exact ⟨(x,k) :: l,rfl,by rw [List.map_cons,e]⟩
def zaT (x:Str) (n:Int):Str:=if n < 1 then Str.empty else if (n == 1 || x.length == 0)=true then x else ⟨(List.replicate n.toNat x.cps).foldl (· ++ ·) #[]⟩
abbrev zbm:R2:=fun x y H Q=>∃ a n,x=.str a∧y=.int n∧(n < 1000000∧-1000000 < n∧a.length * n.toNat≤1000000)∧Q (.str (zaT a n)) H
section
variable {X:Cx}
theorem KN:MtR X "str.join" (wK X.K):=by
 intro pins s σ H x xs v us Q I rx rs h
 obtain ⟨sep,a,ls,rfl,rfl,hq,hl,q⟩:=h
 obtain ⟨t,rfl⟩:=rx
 obtain ⟨u,rfl,r1⟩:=qG rs
 cases r1
 obtain ⟨its,rv,p,hz⟩:=I.list hq
 obtain ⟨l,rfl,e⟩:=YD rv
 have tl:Builtin.Str.tooLong ((l.map (·.1)).toArray.foldl (· + ·.length + sep.length) 0)=false:=by
  rw [e,List.foldl_toArray]
  unfold Builtin.Str.tooLong
  exact decide_eq_false (by unfold Jt at hl;lia)
 have jl:=Vy sep ls
 refine call_meets F.slot_str_join (typeIs_str s sep t) F.entry_str_join (F.args_str_join_2 _ _) (meets_str_join_list sep t a l tl) ⟨p.isList,?_⟩
 subst e
 match l,q,jl,hl with
 | [],q,jl,hl=>exact ⟨Nat.le_trans jl hl,.str _,H,I.tok _,⟨_,rfl⟩,q⟩
 | [p],q,jl,hl=>exact ⟨.str p.1,H,I,⟨_,rfl⟩,q⟩
 | p :: p' :: r,q,jl,hl=>exact ⟨Nat.le_trans jl hl,.str _,H,I.tok _,⟨_,rfl⟩,q⟩
end
theorem Asc.num (w:Int):Asc (yC w):=fun c hc=>by
 have d:∀ (m c:Nat),c∈dg m→c < 128:=fun m c h=>by have:=ka m c h;lia
 rcases Int.lt_or_le w 0 with h0 | h0
 ·obtain ⟨m,rfl,hm⟩:∃ m:Nat,w=-(m:Int)∧0 < m:=⟨w.natAbs,by lia,by lia⟩
  rw [wr hm] at hc
  rcases List.mem_cons.mp hc with rfl | hc
  ·decide
  ·exact d m c hc
 ·obtain ⟨m,rfl⟩:∃ m:Nat,w=(m:Int):=⟨w.natAbs,by lia⟩
  rw [y6] at hc
  exact d m c hc
theorem Vb (x y:Str):(x ++ y).length=x.length + y.length:=Str.length_append x y
end L2
namespace L2
open PySem PySem.Spec PyProof.Rows
section
open PySem.NumText
theorem KO:∀ {v:Nat} {r:List Nat},dg v=48 :: r→v=0:=by
 intro v
 induction v using Nat.strongRecOn with
 | _ v ih =>
  intro r h
  by_cases hv:v < 10
  ·rw [yP hv] at h
   have:=(List.cons.inj h).1
   lia
  ·rw [jS (by lia)] at h
   cases e:dg (v / 10) with
   | nil=>exact absurd e (XH _)
   | cons a l =>
    rw [e] at h
    have ha:a=48:=(List.cons.inj h).1
    subst ha
    have:=ih (v / 10) (by lia) e
    lia
theorem Qt:∀ (n:Nat) {d:List Nat},d.length=n→AllDigits d→d≠[]→d.head?≠some 48→dg (digitsVal d)=d
 | 0,d,hn,_,h2,_=>absurd (List.eq_nil_of_length_eq_zero hn) h2
 | n + 1,d,hn,h1,h2,h3=>by
  obtain ⟨e,c,rfl⟩:∃ e c,d=e ++ [c]:=⟨d.dropLast,d.getLast h2,(List.dropLast_concat_getLast h2).symm⟩
  have hc:=h1 c (by simp)
  rw [digitsVal_snoc]
  by_cases he:e=[]
  ·subst he
   show dg (0 * 10 + (c - 48))=[c]
   rw [yP (by lia)]
   congr 1
   lia
  ·have hh:e.head?≠some 48:=fun z=>h3 (by rw [List.head?_append,z];rfl)
   have ih:=Qt n (d:=e) (by simpa using hn) (fun x hx=>h1 x (List.mem_append_left _ hx)) he hh
   have h0:digitsVal e≠0:=fun z=>by
    rw [z,yP (by decide)] at ih
    exact hh (by rw [← ih];rfl)
   rw [jS (by lia)]
   have e1:(digitsVal e * 10 + (c - 48)) / 10=digitsVal e:=by lia
   have e2:48 + (digitsVal e * 10 + (c - 48)) % 10=c:=by lia
   rw [e1,e2,ih]
def fig (x:Str):List Nat:=(yZ x).cps.toList
theorem zero_cps:(Str.ofString "0").cps.toList=[48]:=by decide +kernel
theorem KP {x:Str} (hl:x.length≤1000) (h1:AllDigits (fig x)) (h2:fig x≠[]):xH x=if x=yZ x then (digitsVal (fig x):Int) else -(digitsVal (fig x):Int):=by
 unfold fig at *
 unfold xH
 rcases xS x with ⟨cs,e,ef⟩ | ⟨_,ef⟩
 ·rw [ef] at h1 h2
  rw [ef,intText_neg e h1 h2 (by lia),if_neg]
  ·rfl
  ·intro z
   have:=congrArg (fun y:Str=>y.cps.toList.length) z
   simp only [ef] at this
   rw [e,List.length_cons] at this
   lia
 ·rw [ef] at h1 h2
  rw [ef,if_pos rfl,intText_digits h1 h2 (by lia)]
  rfl
theorem KQ {x:Str} (hl:x.length≤1000):xp x=true↔(fig x≠[]∧(fig x).length≤31∧AllDigits (fig x)∧¬ ((fig x).head?=some 48∧x≠"0")∧digitsVal (fig x)≤1000000000000000000000000000000):=by
 have A:xp x=true↔((fig x).length≤31∧(fig x≠[]∧AllDigits (fig x))∧inW (xH x)=true∧yC (xH x)=x):=by
  unfold xp fig
  rw [Bool.and_eq_true,Bool.and_eq_true,Bool.not_eq_true',Bool.or_eq_false_iff,decide_eq_false_iff_not,decide_eq_true_eq,Bool.not_eq_false',qd,kI,Nat.not_lt,and_assoc]
 rw [A]
 have key:fig x≠[]→AllDigits (fig x)→((inW (xH x)=true∧yC (xH x)=x)↔(¬ ((fig x).head?=some 48∧x≠"0")∧digitsVal (fig x)≤1000000000000000000000000000000)):=fun h2 h1=>by
  have hv:=KP hl h1 h2
  have dgo:(fig x).head?≠some 48→dg (digitsVal (fig x))=fig x:=Qt _ rfl h1 h2
  have dgb:dg (digitsVal (fig x))=fig x→(fig x).head?=some 48→fig x=[48]:=fun e z=>by
   cases hd:fig x with
   | nil=>exact absurd hd h2
   | cons a r =>
    rw [hd] at z
    have:a=48:=by simpa using z
    subst this
    have v0:=KO (e.trans hd)
    rw [v0,yP (by decide)] at e
    rw [← hd,← e]
  have inw:inW (xH x)=true↔digitsVal (fig x)≤1000000000000000000000000000000:=by
   unfold inW
   rw [decide_eq_true_eq,hv]
   split <;> lia
  rw [inw,and_comm]
  refine and_congr_left fun _=>?_
  unfold fig at *
  rcases xS x with ⟨cs,e,ef⟩ | ⟨_,ef⟩
  ·have hne:¬ x=yZ x:=fun z=>by
    have:=congrArg (fun y:Str=>y.cps.toList.length) z
    simp only [ef] at this
    rw [e,List.length_cons] at this
    lia
   rw [hv,if_neg hne]
   rw [ef] at dgo dgb ⊢
   have x0:x≠"0":=fun z=>by
    have:=e.symm.trans ((congrArg (fun y:Str=>y.cps.toList) z).trans zero_cps)
    cases this
   constructor
   ·intro h z
    by_cases v0:digitsVal cs=0
    ·rw [v0] at h
     have:=(y6 0).symm.trans (congrArg (fun y:Str=>y.cps.toList) h)
     rw [e,yP (by decide)] at this
     cases this
    ·have:=(wr (m:=digitsVal cs) (by lia)).symm.trans (congrArg (fun y:Str=>y.cps.toList) h)
     rw [e] at this
     have q:=(List.cons.inj this).2
     have q2:=dgb q z.1
     rw [q2] at v0
     exact v0 rfl
   ·intro h
    have hh:cs.head?≠some 48:=fun z=>h ⟨z,x0⟩
    have q:=dgo hh
    have v0:digitsVal cs≠0:=fun z=>by
     rw [z,yP (by decide)] at q
     exact hh (by rw [← q];rfl)
    exact vQ (by rw [wr (by lia),e,q])
  ·rw [hv,if_pos ef.symm]
   rw [ef] at dgo dgb ⊢
   constructor
   ·intro h z
    have:=(y6 _).symm.trans (congrArg (fun y:Str=>y.cps.toList) h)
    have q:=dgb this z.1
    exact z.2 (vQ (q.trans zero_cps.symm))
   ·intro h
    refine vQ ?_
    rw [y6]
    by_cases z:x.cps.toList.head?=some 48
    ·have:x="0":=Classical.not_not.mp fun w=>h ⟨z,w⟩
     rw [this,zero_cps]
     decide +kernel
    ·exact dgo z
 constructor
 ·rintro ⟨a,⟨b,c⟩,d⟩
  have:=(key b c).mp d
  exact ⟨b,a,c,this.1,this.2⟩
 ·rintro ⟨b,a,c,d,e⟩
  exact ⟨a,⟨b,c⟩,(key b c).mpr ⟨d,e⟩⟩
end
end L2
namespace L2
open PySem PySem.Spec PyProof.Rows
section
variable {X:Cx}
abbrev zbn:RC:=fun xs H Q=>∃ b:Bool,xs=[.bl b]∧Q (.int (if b then 1 else 0)) H
end
theorem XI {k:Nat} {A:Around} (r:Room k A):A.units + 64 < cLine:=by have:=r.un;lia
def jb:V→PyData
 | .non=>.none
 | .bl b=>.bool b
 | .int i=>.int i
 | .str x=>.str x
 | _=>.none
def yF:V→Bool
 | .non=>true
 | .bl _=>true
 | .int _=>true
 | .str x=>PyData.strOk x
 | _=>false
def QY:V→V→Bool
 | .bl _,.int _=>false
 | .int _,.bl _=>false
 | _,_=>true
def Y4:List V→List V→Bool
 | x :: xs,y :: ys=>QY x y && Y4 xs ys
 | _,_=>true
theorem wV:∀ {xs:List V} {us:List Value},xs.all yF=true→Vals xs us→CarriedAll us (xs.map jb)
 | [],_,_,.nil=>.nil
 | x :: r,_,h,.cons rx t=>by
  rw [List.all_cons,Bool.and_eq_true] at h
  refine .cons ?_ (wV h.2 t)
  cases x with
  | non=>cases rx;exact .none
  | bl b=>cases rx;exact .bool b
  | int i=>obtain ⟨t,rfl⟩:=rx;exact .int i t
  | str x=>obtain ⟨t,rfl⟩:=rx;exact .str x t
  | byt b=>exact absurd h.1 (by simp [yF])
  | flt b=>exact absurd h.1 (by simp [yF])
  | ref a=>exact absurd h.1 (by simp [yF])
  | ty n=>exact absurd h.1 (by simp [yF])
theorem Ju {x y:V} (hx:yF x=true) (hy:yF y=true):PySem.Spec.same (jb x) (jb y)=decide (x=y):=by
 cases x <;> cases y <;> simp_all [yF,jb,PySem.Spec.same] <;> (rename_i a b;by_cases e:a=b <;> simp [e])
theorem jk:∀ {xs ys:List V},xs.all yF=true→ys.all yF=true→PySem.Spec.sameAll (xs.map jb) (ys.map jb)=decide (xs=ys)
 | [],[],_,_=>by simp [PySem.Spec.sameAll]
 | [],_ :: _,_,_=>by simp [PySem.Spec.sameAll]
 | _ :: _,[],_,_=>by simp [PySem.Spec.sameAll]
 | x :: r,y :: t,hx,hy=>by
  rw [List.all_cons,Bool.and_eq_true] at hx hy
  rw [List.map_cons,List.map_cons,PySem.Spec.sameAll,Ju hx.1 hy.1,jk hx.2 hy.2]
  by_cases a:x=y <;> by_cases b:r=t <;> simp [a,b]
theorem Vz {x y:V} (hx:yF x=true) (hy:yF y=true) (h:QY x y=true):SeqAt.noMix (jb x) (jb y)=true:=by
 cases x <;> cases y <;> simp_all [yF,jb,SeqAt.noMix,QY]
theorem vS:∀ {xs ys:List V},xs.all yF=true→ys.all yF=true→Y4 xs ys=true→SeqAt.noMixAll (xs.map jb) (ys.map jb)=true
 | [],[],_,_,_=>by simp [SeqAt.noMixAll]
 | [],_ :: _,_,_,_=>by simp [SeqAt.noMixAll]
 | _ :: _,[],_,_,_=>by simp [SeqAt.noMixAll]
 | x :: r,y :: t,hx,hy,h=>by
  rw [List.all_cons,Bool.and_eq_true] at hx hy
  rw [Y4,Bool.and_eq_true] at h
  rw [List.map_cons,List.map_cons,SeqAt.noMixAll,Vz hx.1 hy.1 h.1,vS hx.2 hy.2 h.2]
  rfl
theorem vT {xs:List V} (h:xs.all yF=true):SeqAt.shaped (.list (xs.map jb))=true∧SeqAt.shaped (.tuple (xs.map jb))=true:=by
 have a:∀ x,yF x=true→(jb x).canLay0=true∧(jb x).depth=0:=fun x=>by cases x <;> simp [jb,PyData.canLay0,PyData.depth,yF]
 have l:∀ ys:List V,ys.all yF=true→PyData.canLayAll0 (ys.map jb)=true∧PyData.depthAll (ys.map jb)=0:=by
  intro ys
  induction ys with
  | nil=>exact fun _=>⟨rfl,rfl⟩
  | cons y r ih =>
   intro h
   rw [List.all_cons,Bool.and_eq_true] at h
   exact ⟨by rw [List.map_cons,PyData.canLayAll0,(a y h.1).1,(ih h.2).1];rfl,by rw [List.map_cons,PyData.depthAll,(a y h.1).2,(ih h.2).2];rfl⟩
 exact ⟨by simp [SeqAt.shaped,PyData.canLay0,PyData.depth,(l xs h).1,(l xs h).2],by simp [SeqAt.shaped,PyData.canLay0,PyData.depth,(l xs h).1,(l xs h).2]⟩
abbrev zao (K:PySem.W.Frag) (neg:Bool):R2:=fun x y H Q=>∃ a b xs ys,x=.ref a∧y=.ref b∧SqL K H a xs∧SqL K H b ys∧(xs.all yF=true∧ys.all yF=true∧Y4 xs ys=true)∧Q (.bl (if neg then !decide (xs=ys) else decide (xs=ys))) H
section
variable {X:Cx}
theorem QZ (hu:X.A.units + 64 < cLine):OpR X (compareOp .Eq) (zao X.K false):=by
 intro pins s σ H x y v u Q I rx ry h
 obtain ⟨a,b,xs,ys,rfl,rfl,ha,hb,⟨f1,f2,f3⟩,q⟩:=h
 cases rx
 cases ry
 obtain ⟨us,r1,p1,_⟩:=I.list ha
 obtain ⟨ws,r2,p2,_⟩:=I.list hb
 refine eq_dataH_same (reads_newData p1.isList (wV f1 r1)) (reads_newData p2.isList (wV f2 r2)) (vT f1).1 (vT f2).1 hu (by rw [SeqAt.noMix];exact vS f1 f2 f3) ?_
 rw [PySem.Spec.same,jk f1 f2]
 exact ⟨.bl _,H,I,rfl,q⟩
theorem Q0 (hu:X.A.units + 64 < cLine):OpR X (compareOp .NotEq) (zao X.K true):=by
 intro pins s σ H x y v u Q I rx ry h
 obtain ⟨a,b,xs,ys,rfl,rfl,ha,hb,⟨f1,f2,f3⟩,q⟩:=h
 cases rx
 cases ry
 obtain ⟨us,r1,p1,_⟩:=I.list ha
 obtain ⟨ws,r2,p2,_⟩:=I.list hb
 refine ne_dataH_same (reads_newData p1.isList (wV f1 r1)) (reads_newData p2.isList (wV f2 r2)) (vT f1).1 (vT f2).1 hu (by rw [SeqAt.noMix];exact vS f1 f2 f3) ?_
 rw [PySem.Spec.same,jk f1 f2]
 exact ⟨.bl _,H,I,rfl,q⟩
abbrev kc (K:PySem.W.Frag):R2:=fun x y H Q=>∃ a b xs,x=.ref a∧y=.ref b∧SqL K H a xs∧SqL K H b []∧Q (.bl (decide (xs=[]))) H
theorem ZI (hu:X.A.units + 64 < cLine):OpR X (compareOp .Eq) (kc X.K):=by
 intro pins s σ H x y v u Q I rx ry h
 obtain ⟨a,b,xs,rfl,rfl,ha,hb,q⟩:=h
 by_cases e:xs=[]
 ·subst e
  exact QZ hu pins s σ H _ _ v u Q I rx ry ⟨a,b,[],[],rfl,rfl,ha,hb,⟨rfl,rfl,rfl⟩,q⟩
 ·cases rx
  cases ry
  obtain ⟨us,r1,p1,_⟩:=I.list ha
  obtain ⟨ws,r2,p2,_⟩:=I.list hb
  cases r2
  have e1:=r1.length
  have e2:xs.length≠0:=fun z=>e (List.eq_nil_of_length_eq_zero z)
  refine PySem.SeqAt.eq_list_lengthsAt p1.isList p2.isList (by simp;intro z;rw [z] at e1;exact e2 e1) (by lia) ?_
  rw [decide_eq_false e] at q
  exact ⟨.bl false,H,I,rfl,q⟩
end
end L2
namespace L2
open PySem PySem.Spec PyProof.Rows
abbrev zr:RM:=yu
abbrev xu:RM:=Wt
def jw:List V:=[.str "plus",.str "minus",.str "times",.str "over",.str "rest",.str "under",.str "same"]
def isJ (v:V):Bool:=inV v jw
inductive Er where
 | nought | great | stuck
 deriving DecidableEq
def Jv (w:Str) (a b:Int):Int :=
 if w="plus" then a + b else if w="minus" then a - b else if w="times" then a * b else if w="under" then (if a < b then 1 else 0) else if w="same" then (if a=b then 1 else 0) else if w="over" then a.fdiv b else a.fmod b
def Vc (w:Str):Prop:=¬ w="plus"∧¬ w="minus"∧¬ w="times"∧¬ w="under"∧¬ w="same"
instance (w:Str):Decidable (Vc w):=by unfold Vc;infer_instance
def Qu (w:Str) (a b:Int):Except Er Int:=if Vc w∧b=0 then .error .nought else if inW (Jv w a b)=true then .ok (Jv w a b) else .error .great
def zap (kvs:List (Key × V)):V→Int
 | .int i=>i
 | .str x=>(match wn kvs (.inr x) with | some (.int i)=>i | _=>0)
 | _=>0
def Jw (kvs:List (Key × V)) (st:List Int) (v:V):Except Er (List Int) :=
 if isJ v=true then (match v,st.reverse with | .str w,b :: a :: r=>(match Qu w a b with | .ok c=>.ok (r.reverse ++ [c]) | .error e=>.error e) | _,_=>.error .stuck) else .ok (st ++ [zap kvs v])
def Jx (kvs:List (Key × V)):List V→List Int→Except Er (List Int)
 | [],st=>.ok st
 | v :: r,st=>match Jw kvs st v with | .ok st'=>Jx kvs r st' | .error e=>.error e
section
variable {kvs:List (Key × V)}
def zaU (kvs:List (Key × V)) (ps:List V) (r:Except Er Int):Prop:=(∀ st,Jx kvs ps st=match r with | .ok i=>.ok (st ++ [i]) | .error e=>.error e)∧r≠.error .stuck
end
def Y5 (v:V):Prop:=(∃ i,v=.int i∧inW i=true)∨∃ x:Str,v=.str x∧x.length≤1000
def Zh (kvs:List (Key × V)):Prop:=∀ k v,wn kvs k=some v→∃ i,v=.int i∧inW i=true
theorem Jy {kvs:List (Key × V)} (h:Zh kvs) {v:V} (hv:Y5 v):inW (zap kvs v)=true:=by
 rcases hv with ⟨i,rfl,hi⟩ | ⟨x,rfl,_⟩
 ·exact hi
 ·show inW (match wn kvs (.inr x) with | some (.int i)=>i | _=>0)=true
  cases e:wn kvs (.inr x) with
  | none=>rfl
  | some u =>
   obtain ⟨i,rfl,hi⟩:=h _ _ e
   exact hi
theorem inW_iff {i:Int}:inW i=true↔-1000000000000000000000000000000≤i∧i≤1000000000000000000000000000000:=by unfold inW;rw [decide_eq_true_eq]
theorem KR (w:Str):isJ (.str w)=true↔(w="plus"∨w="minus"∨w="times"∨w="over"∨w="rest"∨w="under"∨w="same"):=by
 unfold isJ inV jw
 simp only [List.any_cons,List.any_nil,eqV,Bool.or_false,Bool.or_eq_true,beq_iff_eq]
 constructor
 ·rintro (h | h | h | h | h | h | h) <;> simp [← h]
 ·rintro (h | h | h | h | h | h | h) <;> simp [h]
end L2
namespace L2
open PySem PySem.Spec PyProof.Rows
def Itv (K:PySem.W.Frag) (a:Addr) (xs:List V):It:=⟨fun i H=>i < xs.length∧SqL K H a xs,fun i H x H'=>H'=H∧xs[xs.length - 1 - i]?=some x,fun i _=>xs.length≤i⟩
theorem Jz {P:Program} {w:World} {K:PySem.W.Frag} {tg:Expr} (a it:Addr) (xs:List V):Vm P w K tg (Itv K a xs) [it] it (fun i h=>i≤xs.length∧h.IsRevIter it a ((xs.length:Int) - 1 - (i:Int))) where
 mem:=by simp
 obj:=fun i h st b hb=>by
  have e:b=it:=by simpa using hb
  subst e
  obtain ⟨_,o,e,c,d⟩:=st
  exact ⟨o,e,fun v z=>by rw [d] at z;cases z⟩
 keep:=fun i h h' st k=>⟨st.1,st.2.at fun o e=>k it (by simp) o e⟩
 item:=by
  intro X hP hw hK hc i pins s σ H E I hf st hg
  subst hP hw hK
  obtain ⟨hi,hq⟩:=hg
  obtain ⟨its,rv,p,hz⟩:=I.list hq
  have hl:=rv.length
  obtain ⟨u,hu,ru⟩:=rv.get (i:=xs.length - 1 - i) (x:=xs[xs.length - 1 - i]'(by lia)) (List.getElem?_eq_getElem (by lia))
  obtain ⟨f0,f1,f2,f3,f4,f5⟩:=hf it (by simp)
  have st2:=st.2
  have e1:(xs.length:Int) - 1 - (i:Int)=((xs.length - 1 - i:Nat):Int):=by lia
  rw [e1] at st2
  refine wpAny_pyNext_rev_item st2 p.isList (x:=u) (by simpa using hu) fun h' st' sb=>?_
  have I1:Inv X pins σ H { s with heap:=h' }:=I.turned (t':=s.toks) (fun b o hb e=>(sb.2 b hb).trans e) f0 f1 f3 f4 f5
  have e2:((xs.length - 1 - i:Nat):Int) - 1=(xs.length:Int) - 1 - ((i + 1:Nat):Int):=by lia
  rw [e2] at st'
  obtain ⟨o,e,c,d⟩:=id st'
  exact ⟨u,rfl,WU (s:={ s with heap:=h' }) e c d (by decide) ⟨_,H,I1,ru,⟨rfl,List.getElem?_eq_getElem (by lia)⟩,⟨hi,st'⟩,fun b hb=>(hf b hb).1⟩⟩
 done:=by
  intro X hP hw hK hc i pins s σ H E I hf st hg
  subst hP hw hK
  obtain ⟨f0,f1,f2,f3,f4,f5⟩:=hf it (by simp)
  have hi:i=xs.length:=Nat.le_antisymm st.1 hg
  have st2:=st.2
  rw [hi,show (xs.length:Int) - 1 - (xs.length:Int)=-1 by lia] at st2
  exact wpAny_pyNext_rev_end (I.ok.hd hc) st2 fun h' eb=>⟨rfl,I.turned (t':=s.toks) (fun b o hb e=>eb b o hb e) f0 f1 f3 f4 f5⟩
 self:=fun _ _ _ _ _ st h=>wpAny_pyIter_revIter st.2 h
def VA (K:PySem.W.Frag) (ta:TA):TI:=fun σ H R=>ta σ H fun vs H1=>∃ a xs,vs=[.ref a]∧SqL K H1 a xs∧R (Itv K a xs) H1
section
variable {X:Cx} {tg:Expr}
theorem Q1 {a:Expr} {ta:TA} {p pos:Pos} (hg:Gl X "reversed") (hm:X.mg "reversed"=none) (ha:PA X [a] ta) (hs:starEach [a] X.env=[(false,eval a X.env)]:=by rfl):PI X tg (.Call (.Name "reversed" p) [a] [] pos) (VA X.K ta):=by
 intro pins s σ H R I h
 refine Call_ (k9 I hg hm XA (PyProof.Rows.callWith_type1 (thn (ha pos pins s σ H _ I h) fun us s1 ⟨vs,H1,I1,r1,q1⟩=>?_) hs rfl))
 obtain ⟨b,xs,e,hq,q⟩:=q1
 subst e
 cases r1 with
 | cons r rr =>
  cases rr
  cases r
  obtain ⟨its,rv,pl,hz⟩:=I1.list hq
  have hl:=rv.length
  refine call_reversed_list pl.isList ?_
  have st:(s1.heap.push (revObj b ((its.toArray.size:Int) - 1))).IsRevIter s1.heap.objs.size b ((xs.length:Int) - 1 - ((0:Nat):Int)):=⟨_,Heap.get?_push_size _ rfl,rfl,by
   show Data.fields _=_
   rw [show ((its.toArray.size:Nat):Int) - 1=(xs.length:Int) - 1 - ((0:Nat):Int) by simp;lia]⟩
  refine wpAny_pyIter_revIter (s:={ s1 with heap:=_ }) st ?_
  refine ⟨s1.heap.objs.size,[s1.heap.objs.size],_,_,H1,rfl,I1.kept (t':=s1.toks) fun b o e=>Heap.get?_push_of_some _ e,Jz b _ xs,⟨Nat.zero_le _,st⟩,fun c hc=>?_,q⟩
  have e:c=s1.heap.objs.size:=by simpa using hc
  subst e
  exact I1.fpOk (Nat.le_refl _) (I1.hok.fresh (Nat.le_refl _))
end
section
variable {σ:St} {H:Hp} {nx:St→Hp→Prop} {B:V→St→Hp→(St→Hp→Prop)→Prop}
theorem JA {K:PySem.W.Frag} {a:Addr} (xs:List V) (Pv:Nat→St→Hp→Prop) (h0:Pv 0 σ H) (hl:∀ i σ H,Pv i σ H→SqL K H a xs) (hs:∀ i x σ H,i < xs.length→xs[xs.length - 1 - i]?=some x→Pv i σ H→B x σ H (Pv (i + 1))) (hd:∀ σ H,Pv xs.length σ H→nx σ H) :
  ∃ W:Nat→Nat→St→Hp→Prop,(∃ m,W 0 m σ H)∧∀ i m σ H,W i m σ H→((Itv K a xs).stop i H∧nx σ H)∨((Itv K a xs).go i H∧∃ N:St→Hp→Prop,(∀ σ' H',N σ' H'→∃ m',m' < m∧W (i + 1) m' σ' H')∧∀ x H',(Itv K a xs).yld i H x H'→B x σ H' N):=by
 refine ⟨fun i m σ H=>m=xs.length - i∧i≤xs.length∧Pv i σ H,⟨xs.length,by simp,Nat.zero_le _,h0⟩,?_⟩
 rintro i m σ H ⟨rfl,hi,p⟩
 by_cases hlt:i < xs.length
 ·refine .inr ⟨⟨hlt,hl i σ H p⟩,Pv (i + 1),fun σ' H' p'=>⟨xs.length - (i + 1),by lia,rfl,hlt,p'⟩,?_⟩
  rintro x H' ⟨rfl,y⟩
  exact hs i x σ _ hlt y p
 ·obtain rfl:i=xs.length:=by lia
  exact .inl ⟨Nat.le_refl _,hd σ H p⟩
end
end L2
namespace L2
open PySem PySem.Spec PyProof.Rows
abbrev zbQ (K:PySem.W.Frag):RC:=fun xs H Q=>∃ p ys,xs=[.ref p]∧(SqL K H p ys∨SqT K H p ys)∧∀ l,H l=none→Q (.ref l) (upd H l (.lst ys))
abbrev zbR:RC:=fun xs H Q=>∃ i j,xs=[.int i,.int j]∧Q (.int (if j < i then j else i)) H
def inL (c:Nat):Bool:=!(Builtin.Str.occurrences "abcdefghijklmnopqrstuvwxyz" ⟨#[c]⟩ 0 (Str.length "abcdefghijklmnopqrstuvwxyz") 1).isEmpty
def wl:List V:=[.str "take",.str "give",.str "let",.str "say",.str "off",.str "if",.str "else",.str "end",.str "as"]
def yr (x:Str):Bool:=!(decide (x="") || decide (6 < x.length)) && !(inV (.str x) jw || inV (.str x) wl) && x.cps.toList.all inL
theorem KS (c:Nat):inL c=true→97≤c∧c≤122:=by
 unfold inL
 rw [StrLaws.found_one]
 have e:(Str.ofString "abcdefghijklmnopqrstuvwxyz").cps.toList=[97,98,99,100,101,102,103,104,105,106,107,108,109,110,111,112,113,114,115,116,117,118,119,120,121,122]:=by decide +kernel
 rw [e]
 rw [decide_eq_true_eq]
 intro h
 exact (by decide:∀ c∈[97,98,99,100,101,102,103,104,105,106,107,108,109,110,111,112,113,114,115,116,117,118,119,120,121,122],97≤c∧c≤122) c h
theorem Ya {x:Str} {c:Nat} (hx:x.length≤1000) (hc:c∈x.cps.toList) (h:97≤c):xp x=false:=by
 refine Bool.eq_false_iff.mpr fun z=>?_
 have d:=((KQ hx).mp z).2.2.1
 unfold fig at d
 rcases xS x with ⟨cs,e,ef⟩ | ⟨_,ef⟩
 ·rw [e] at hc
  rw [ef] at d
  rcases List.mem_cons.mp hc with rfl | hc
  ·lia
  ·have:=d c hc;lia
 ·rw [ef] at d
  have:=d c hc;lia
theorem vU {x:Str} (h:yr x=true):x.cps.toList≠[]∧x.length≤6∧isJ (.str x)=false∧x.cps.toList.all inL=true:=by
 unfold yr at h
 rw [Bool.and_eq_true,Bool.and_eq_true,Bool.not_eq_true',Bool.not_eq_true',Bool.or_eq_false_iff,Bool.or_eq_false_iff,decide_eq_false_iff_not,decide_eq_false_iff_not] at h
 refine ⟨fun z=>h.1.1.1 (vQ (by rw [z];decide +kernel)),by lia,h.1.2.1,h.2⟩
theorem Yb {x:Str} (h:yr x=true):xp x=false:=by
 obtain ⟨h1,h2,_,h3⟩:=vU h
 obtain ⟨c,r,e⟩:=List.exists_cons_of_ne_nil h1
 exact Ya (c:=c) (by lia) (by rw [e];simp) (KS c (List.all_eq_true.mp h3 c (by rw [e];simp))).1
theorem KT {x:Str} (h:isJ (.str x)=true):yr x=false∧xp x=false:=by
 refine ⟨Bool.eq_false_iff.mpr fun z=>?_,?_⟩
 ·rw [(vU z).2.2.1] at h;cases h
 ·rcases (KR x).mp h with rfl | rfl | rfl | rfl | rfl | rfl | rfl <;> decide +kernel
def jm (w:Str):Option V:=if yr w=true then some (.str w) else if xp w=true then some (.int (xH w)) else none
inductive Tw where
 | leaf (w:Str) | node (w:Str) (a b:Tw)
def pre:Tw→List Str
 | .leaf w=>[w]
 | .node w a b=>w :: (pre a ++ pre b)
def wfT:Tw→Prop
 | .leaf w=>isJ (.str w)=false
 | .node w a b=>isJ (.str w)=true∧wfT a∧wfT b
def okT:Tw→Bool
 | .leaf w=>(jm w).isSome
 | .node _ a b=>okT a && okT b
def pvw (w:Str):V:=(jm w).getD (.str w)
def pst:Tw→List V
 | .leaf w=>[pvw w]
 | .node w a b=>pst a ++ pst b ++ [.str w]
def yk:List Str→Nat→Option Nat
 | _,0=>some 0
 | [],_ + 1=>none
 | w :: r,d + 1=>(yk r (if isJ (.str w)=true then d + 2 else d)).map (· + 1)
theorem qf:∀ (l:List Str) (d n:Nat),yk l d=some n→∃ Ts:List Tw,Ts.length=d∧(∀ T∈Ts,wfT T)∧l.take n=(Ts.map pre).flatten∧n≤l.length
 | l,0,n,h=>by
  have:n=0:=by cases l <;> (unfold yk at h;cases h;rfl)
  subst this
  exact ⟨[],rfl,(fun _ z=>nomatch z),by simp,Nat.zero_le _⟩
 | [],d + 1,n,h=>by unfold yk at h;cases h
 | w :: r,d + 1,n,h=>by
  unfold yk at h
  obtain ⟨m,hm,rfl⟩:=Option.map_eq_some_iff.mp h
  by_cases hj:isJ (.str w)=true
  ·rw [if_pos hj] at hm
   obtain ⟨Ts,h1,h2,h3,h4⟩:=qf r (d + 2) m hm
   match Ts,h1,h2,h3 with
   | a :: b :: Ts',h1,h2,h3 =>
    refine ⟨.node w a b :: Ts',by simpa using h1,fun T hT=>?_,?_,by rw [List.length_cons];lia⟩
    ·rcases List.mem_cons.mp hT with rfl | hT
     ·exact ⟨hj,h2 a (by simp),h2 b (by simp)⟩
     ·exact h2 T (List.mem_cons_of_mem _ (List.mem_cons_of_mem _ hT))
    ·rw [List.take_succ_cons,h3]
     simp [pre]
  ·rw [if_neg hj] at hm
   obtain ⟨Ts,h1,h2,h3,h4⟩:=qf r d m hm
   refine ⟨.leaf w :: Ts,by simpa using h1,fun T hT=>?_,?_,by rw [List.length_cons];lia⟩
   ·rcases List.mem_cons.mp hT with rfl | hT
    ·exact Bool.eq_false_iff.mpr hj
    ·exact h2 T hT
   ·rw [List.take_succ_cons,h3]
    simp [pre]
def xI (st:List (List V)) (w:Str):Except Bool (List (List V)) :=
 if isJ (.str w)=true then (match st.reverse with | a :: b :: r=>.ok (r.reverse ++ [a ++ b ++ [.str w]]) | _=>.error false) else (match jm w with | some v=>.ok (st ++ [[v]]) | none=>.error true)
def wy:List Str→List (List V)→Except Bool (List (List V))
 | [],st=>.ok st
 | w :: r,st=>match xI st w with | .ok st'=>wy r st' | .error e=>.error e
theorem jo:∀ (p q:List Str) (st:List (List V)),wy (p ++ q) st=match wy p st with | .ok st'=>wy q st' | .error e=>.error e
 | [],q,st=>rfl
 | v :: r,q,st=>by
  show (match xI st v with | .ok st'=>wy (r ++ q) st' | .error e=>.error e)=match (match xI st v with | .ok st'=>wy r st' | .error e=>.error e) with | .ok st'=>wy q st' | .error e=>.error e
  cases xI st v with
  | error e=>rfl
  | ok st'=>exact jo r q st'
theorem jT:∀ {T:Tw},wfT T→∀ st,wy (pre T).reverse st=if okT T=true then .ok (st ++ [pst T]) else .error true
 | .leaf w,h,st=>by
  show (match xI st w with | .ok st'=>wy [] st' | .error e=>.error e)=_
  unfold xI okT pst pvw
  rw [if_neg (by rw [show isJ (.str w)=false from h];decide)]
  cases jm w with
  | none=>rfl
  | some v=>rfl
 | .node w a b,h,st=>by
  have e:(pre (.node w a b)).reverse=(pre b).reverse ++ ((pre a).reverse ++ [w]):=by simp [pre]
  rw [e,jo,jT h.2.2,show okT (.node w a b)=(okT a && okT b) from rfl]
  cases hb:okT b with
  | false=>rw [Bool.and_false];rfl
  | true =>
   rw [if_pos rfl]
   show wy ((pre a).reverse ++ [w]) (st ++ [pst b])=_
   rw [jo,jT h.2.1]
   cases ha:okT a with
   | false=>rfl
   | true =>
    rw [if_pos rfl]
    show (match xI (st ++ [pst b] ++ [pst a]) w with | .ok st'=>wy [] st' | .error e=>.error e)=.ok (st ++ [pst (.node w a b)])
    unfold xI
    rw [if_pos h.1]
    simp [wy,pst]
theorem XJ {ps:List Str} {i:Nat} {st:List (List V)} {e:Bool} (h:wy (ps.take i) st=.error e):wy ps st=.error e:=by
 have:=jo (ps.take i) (ps.drop i) st
 rw [List.take_append_drop,h] at this
 exact this
theorem JB {ps:List Str} {i:Nat} {st st0:List (List V)} {v:Str} (h:wy (ps.take i) st0=.ok st) (hv:ps[i]?=some v):wy (ps.take (i + 1)) st0=xI st v:=by
 rw [List.take_add_one,hv]
 show wy (ps.take i ++ [v]) st0=_
 rw [jo,h]
 show (match xI st v with | .ok st'=>wy [] st' | .error e=>.error e)=_
 cases xI st v <;> rfl
def xw (ws:List Str) (at_:Nat):Option (List V × Nat):=match yk (ws.drop at_) 1 with
 | some n=>if n≤60 then (match wy ((ws.drop at_).take n).reverse [] with | .ok [ps]=>some (ps,at_ + n) | _=>none) else none
 | none=>none
theorem Wz {ws:List Str} {k n:Nat} (h:yk (ws.drop k) 1=some n):∃ T,wfT T∧(ws.drop k).take n=pre T∧k + n≤ws.length∧(pre T).length=n:=by
 obtain ⟨Ts,h1,h2,h3,h4⟩:=qf _ _ _ h
 obtain ⟨T,rfl⟩:=List.length_eq_one_iff.mp h1
 have h3':(ws.drop k).take n=pre T:=by rw [h3];simp
 have hn:(pre T).length=n:=by rw [← h3',List.length_take];lia
 have hp:1≤(pre T).length:=by cases T <;> simp [pre]
 rw [List.length_drop] at h4
 exact ⟨T,h2 T (by simp),h3',by lia,hn⟩
theorem ZJ {ws:List Str} {k n:Nat} {T:Tw} (h:yk (ws.drop k) 1=some n) (hn:n≤60) (hw:wfT T) (ht:(ws.drop k).take n=pre T):xw ws k=if okT T=true then some (pst T,k + n) else none:=by
 unfold xw
 rw [h]
 show (if n≤60 then (match wy ((ws.drop k).take n).reverse [] with | .ok [ps]=>some (ps,k + n) | _=>none) else none)=_
 rw [if_pos hn,ht,jT hw]
 cases okT T <;> rfl
end L2
namespace L2
open PySem PySem.Spec PyProof.Rows
abbrev zbS:RC:=fun xs H Q=>∃ a kvs,xs=[.ref a]∧H a=some (.dK kvs)∧∀ p,H p=none→Q (.ref p) (upd H p (.dK kvs))
abbrev zbT:R2:=fun x y H Q=>∃ a b kvs,x=.ref a∧y=.ref b∧H a=some (.dK kvs)∧H b=some (.dK kvs)∧(∀ p∈kvs,∃ i,p.2=V.int i)∧Q (.bl false) H
section
variable {X:Cx}
end
end L2
namespace L2
open PySem PySem.Spec PyProof.Rows
section
variable {P:Program} {w:World} {A:Around} {E:Value→Shared→Prop} {s:Shared}
end
section
variable {P:Program} {w:World} {A:Around} {E:Value→Shared→Prop} {s:Shared}
end
section
variable {P:Program} {w:World} {A:Around} {E:Value→Shared→Prop} {s:Shared}
end
theorem Inv.turnedL {X:Cx} {pins:List (Addr × Obj)} {σ:St} {H:Hp} {s:Shared} {h':Heap} {t':Nat} {ch:List Addr} (I:Inv X pins σ H s) (k:∀ b o,b ∉ ch→s.heap.get? b=some o→h'.get? b=some o) (hf:∀ b∈ch,j5 X pins H b) :
  Inv X pins σ H { s with heap:=h',toks:=t' }:=by
 have nit:∀ b u,H b=some u→b ∉ ch:=fun b u e z=>by rw [(hf b z).1] at e;cases e
 refine I.step (g':=s.gens) (d':=s.drawn) (ch:=ch) (fun b hb=>?_) (fun b o _ _ hc e _=>k b o hc e) (fun b o _ _ hc e _=>⟨o.slots,k b o hc e⟩) (fun _ _ _ _ n=>n) (fun b o hc e=>⟨o,k b o hc e⟩) (fun _ _ e=>e) (fun _ _ _ e=>e) (fun b ps e=>⟨#[],by rw [e];simp⟩) (fun m hm=>?_) (fun b u e=>?_) I.bare
 ·obtain ⟨f0,f1,f2,f3,f4,f5⟩:=hf b hb
  exact ⟨f3,f1,f4,f5⟩
 ·obtain ⟨o,es,ep,ho,r⟩:=hm
  exact ⟨o,es,ep,k _ o (fun z=>(hf _ z).2.1 rfl) ho,r⟩
 ·refine (I.hok b u e).stay (fun c v hc q=>k c v ?_ q) (fun _ q=>q) fun _ _ q=>q
  rcases hc with z | z
  ·rw [z];exact nit b u e
  ·exact nit c _ z
def Itz (K:PySem.W.Frag) (p q:Addr) (xs ys:List V):It:=⟨fun i H=>i < xs.length∧SqT K H p xs∧SqT K H q ys,fun i H x H'=>∃ T u v,x=.ref T∧H T=none∧H'=upd H T (.tup [u,v])∧xs[i]?=some u∧ys[i]?=some v,fun i H=>xs.length≤i∧SqT K H p xs∧SqT K H q ys⟩
def zbU (K:PySem.W.Frag) (ta:TA):TI:=fun σ H R=>ta σ H fun vs H1=>∃ p q xs ys,vs=[.ref p,.ref q]∧SqT K H1 p xs∧SqT K H1 q ys∧xs.length=ys.length∧R (Itz K p q xs ys) H1
section
variable {X:Cx}
end
section
variable {σ:St} {H:Hp} {nx:St→Hp→Prop} {B:V→St→Hp→(St→Hp→Prop)→Prop}
end
abbrev zbV (K:PySem.W.Frag):RC:=fun xs H Q=>∃ p ys,xs=[.ref p]∧((SqL K H p ys∧∀ l,H l=none→Q (.ref l) (upd H l (.tup ys)))∨(SqT K H p ys∧Q (.ref p) H))
theorem ZK:∀ {T:Tw},wfT T→∀ (r:List Str) (d:Nat),yk (pre T ++ r) (d + 1)=(yk r d).map (· + (pre T).length)
 | .leaf w,h,r,d=>by
  show (yk r (if isJ (.str w)=true then d + 2 else d)).map (· + 1)=_
  rw [if_neg (by rw [show isJ (.str w)=false from h];decide)]
  rfl
 | .node w a b,h,r,d=>by
  have e:pre (.node w a b) ++ r=w :: (pre a ++ (pre b ++ r)):=by simp [pre]
  rw [e]
  show (yk (pre a ++ (pre b ++ r)) (if isJ (.str w)=true then d + 2 else d)).map (· + 1)=_
  rw [if_pos h.1,ZK h.2.1,ZK h.2.2,Option.map_map,Option.map_map]
  refine congrArg (fun f=>Option.map f (yk r d)) (funext fun n=>?_)
  show n + (pre b).length + (pre a).length + 1=n + (pre (.node w a b)).length
  simp [pre];lia
theorem Q2 (l:List Str):yk l 0=some 0:=by cases l <;> (unfold yk;rfl)
theorem xT {A B:List Str} {T:Tw} (hw:wfT T) (ho:okT T=true) (hl:(pre T).length≤60):xw (A ++ pre T ++ B) A.length=some (pst T,A.length + (pre T).length):=by
 have e:(A ++ pre T ++ B).drop A.length=pre T ++ B:=by rw [List.append_assoc,List.drop_left]
 have h:yk ((A ++ pre T ++ B).drop A.length) 1=some (pre T).length:=by
  rw [e,ZK hw,Q2]
  show some (0 + (pre T).length)=_
  rw [Nat.zero_add]
 rw [ZJ h hl hw (by rw [e,List.take_left]),if_pos ho]
def Vd (st:List (List V)) (v:V):Option (List (List V)):=if isJ v=true then (match st.reverse with | b :: a :: r=>some (r.reverse ++ [v :: (a ++ b)]) | _=>none) else some (st ++ [[v]])
def WA:List V→List (List V)→Option (List (List V))
 | [],st=>some st
 | v :: r,st=>(Vd st v).bind (WA r)
theorem JC:∀ (p q:List V) (st:List (List V)),WA (p ++ q) st=(WA p st).bind (WA q)
 | [],q,st=>rfl
 | v :: r,q,st=>by
  show (Vd st v).bind (WA (r ++ q))=((Vd st v).bind (WA r)).bind (WA q)
  cases Vd st v with
  | none=>rfl
  | some st'=>exact JC r q st'
end L2
namespace L2
open PySem PySem.W PyProof.Rows
section
variable {α β:Type} {lt:Nat→Nat→Bool} {n:Nat}
def kOk (lt:Nat→Nat→Bool) (n:Nat):KasT α→(α→Prop)→Prop
 | .ret a,R=>R a
 | .ask i j k,R=>i < n∧j < n∧i≠j∧kOk lt n (k (lt i j)) R
theorem JD:∀ {t:KasT α} {f:α→KasT β} {R:β→Prop},kOk lt n t (fun a=>kOk lt n (f a) R)→kOk lt n (t.bind f) R
 | .ret _,_,_,h=>h
 | .ask _ _ _,_,_,h=>⟨h.1,h.2.1,h.2.2.1,JD h.2.2.2⟩
theorem JE:∀ {t:KasT α} {R R':α→Prop},kOk lt n t R→(∀ a,R a→R' a)→kOk lt n t R'
 | .ret _,_,_,h,m=>m _ h
 | .ask _ _ _,_,_,h,m=>⟨h.1,h.2.1,h.2.2.1,JE h.2.2.2 m⟩
structure SO (lt:Nat→Nat→Bool) (n:Nat):Prop where
 irr:∀ i,i < n→lt i i=false
 trans:∀ i j k,i < n→j < n→k < n→lt i j=true→lt j k=true→lt i k=true
 tot:∀ i j,i < n→j < n→i≠j→lt i j=false→lt j i=true
def PP (n:Nat) (p:Array Nat):Prop:=p.Perm (List.range n).toArray
def gt (p:Array Nat) (k:Nat):Nat:=p.getD k 0
theorem JF {p:Array Nat} {k:Nat} (h:k < p.size):p[k]?=some (gt p k):=by
 unfold gt
 rw [Array.getD_eq_getD_getElem?,Array.getElem?_eq_getElem h]
 rfl
theorem PP.size {p:Array Nat} (h:PP n p):p.size=n:=by
 have:=h.size_eq
 simpa using this
theorem PP.blt {p:Array Nat} (h:PP n p) {k:Nat} (hk:k < n):gt p k < n:=by
 have hs:=h.size
 have m:gt p k∈p:=Array.mem_of_getElem? (JF (by lia))
 have m2:gt p k∈(List.range n).toArray:=(Array.Perm.mem_iff h).mp m
 simpa using m2
theorem PP.inj {p:Array Nat} (h:PP n p) {i j:Nat} (hi:i < n) (hj:j < n) (e:gt p i=gt p j):i=j:=by
 have hs:=h.size
 have nd:p.toList.Nodup:=by
  have:p.toList.Perm (List.range n):=by
   have:=Array.perm_iff_toList_perm.mp h
   simpa using this
  exact this.nodup_iff.mpr List.nodup_range
 have e1:=JF (p:=p) (k:=i) (by lia)
 have e2:=JF (p:=p) (k:=j) (by lia)
 rw [← e] at e2
 have e1':p.toList[i]?=some (gt p i):=by simpa using e1
 have e2':p.toList[j]?=some (gt p i):=by simpa using e2
 obtain ⟨a1,b1⟩:=List.getElem?_eq_some_iff.mp e1'
 obtain ⟨a2,b2⟩:=List.getElem?_eq_some_iff.mp e2'
 exact (List.getElem_inj nd).mp (b1.trans b2.symm)
def zaV (lt:Nat→Nat→Bool) (p:Array Nat) (m:Nat):Prop:=∀ i j,i < j→j < m→lt (gt p i) (gt p j)=true
theorem XL (S:SO lt n) {p:Array Nat} (hp:PP n p) {k:Nat} (hk:k < n) (hr:zaV lt p k):∀ (f l r:Nat),l≤r→r≤k→r - l≤f→(∀ i,i < l→lt (gt p i) (gt p k)=true)→(∀ i,r≤i→i < k→lt (gt p k) (gt p i)=true) →
  kOk lt n (kas_place p k f l r) fun m=>m≤k∧(∀ i,i < m→lt (gt p i) (gt p k)=true)∧∀ i,m≤i→i < k→lt (gt p k) (gt p i)=true
 | 0,l,r,h1,h2,h3,h4,h5=>⟨by lia,h4,fun i hi hik=>h5 i (by lia) hik⟩
 | f + 1,l,r,h1,h2,h3,h4,h5=>by
  unfold kas_place
  by_cases c:l ≥ r
  ·rw [if_pos c]
   exact ⟨by lia,h4,fun i hi hik=>h5 i (by lia) hik⟩
  ·rw [if_neg c]
   refine ⟨hp.blt (by lia),hp.blt (by lia),(fun z=>by have:=hp.inj (by lia) (by lia) z;lia),?_⟩
   show kOk lt n (if lt (gt p k) (gt p ((l + r) / 2))=true then _ else _) _
   by_cases d:lt (gt p k) (gt p ((l + r) / 2))=true
   ·rw [if_pos d]
    refine XL S hp hk hr f l ((l + r) / 2) (by lia) (by lia) (by lia) h4 fun i hi hik=>?_
    by_cases e:i=(l + r) / 2
    ·rw [e];exact d
    ·exact S.trans _ _ _ (hp.blt (by lia)) (hp.blt (by lia)) (hp.blt (by lia)) d (hr _ i (by lia) hik)
   ·rw [if_neg d]
    have up:lt (gt p ((l + r) / 2)) (gt p k)=true:=S.tot _ _ (hp.blt (by lia)) (hp.blt (by lia)) (fun z=>by have:=hp.inj (by lia) (by lia) z;lia) (Bool.eq_false_iff.mpr d)
    refine XL S hp hk hr f ((l + r) / 2 + 1) r (by lia) (by lia) (by lia) (fun i hi=>?_) h5
    by_cases e:i=(l + r) / 2
    ·rw [e];exact up
    ·exact S.trans _ _ _ (hp.blt (by lia)) (hp.blt (by lia)) (hp.blt (by lia)) (hr i _ (by lia) (by lia)) up
end
end L2
namespace L2
open PySem PySem.W PyProof.Rows
section
variable {P:Program} {w:World} {A:Around} {E:Value→Shared→Prop} {s:Shared}
end
end L2
namespace L2
open PySem PySem.W PyProof.Rows
def Zi (a b:Str × Int):Bool:=if a.1=b.1 then decide (a.2 < b.2) else decide (a.1.cps.toList < b.1.cps.toList)
section
variable {P:Program} {w:World} {A:Around} {E:Value→Shared→Prop} {s:Shared}
end
end L2
namespace L2
open PySem
section
variable {P:Program} {w:World} {A:Around} {E:Value→Shared→Prop} {s:Shared}
end
end L2
namespace L2
open PySem PySem.Spec PyProof.Rows
section
open PySem.SeqAt
open PySem.AutoSeq1 (wpAny_loadPart')
open PySem.MeetsSeq PySem.MeetsSeq2 PySem.MeetsSeq3
end
end L2
namespace L2
open PySem PySem.Spec PyProof.Rows
section
variable {P:Program} {w:World} {A:Around} {E:Value→Shared→Prop} {s:Shared}
end
end L2
namespace L2
open PySem PySem.Spec PyProof.Rows
def kJ (q:Str × Int):List Key:=[.inr q.1,.inl q.2]
abbrev zbo:RC:=fun xs H Q=>∃ (a:Addr) (kvs:List (List Key × V)) (qs:List (Str × Int)),xs=[.ref a]∧H a=some (.dT kvs)∧kvs.map (·.1)=qs.map kJ∧kvs.length < 64 ∧
 ∀ (l:Addr) (ps:List (Addr × (Str × Int))),H l=none→(ps.map (·.2)).Perm qs→(ps.map (·.2)).Pairwise (fun a b=>Zi a b=true)→(∀ n∈ps,H n.1=some (.tup [.str n.2.1,.int n.2.2]))→Q (.ref l) (upd H l (.lst (ps.map fun n=>V.ref n.1)))
theorem WB {α β:Type} {F:α→β→Prop}:∀ {l₁:List α} {l₂:List β},Paired F l₁ l₂→∀ {i:Nat} {a:α} {b:β},l₁[i]?=some a→l₂[i]?=some b→F a b
 | _,_,.nil,i,a,b,h,_=>by simp at h
 | _,_,.cons x r,0,a,b,h1,h2=>by
  simp only [List.getElem?_cons_zero,Option.some.injEq] at h1 h2
  subst h1 h2
  exact x
 | _,_,.cons x r,i + 1,a,b,h1,h2=>WB r (by simpa using h1) (by simpa using h2)
section
variable {X:Cx}
end
end L2
namespace L2
open PySem PySem.Spec PyProof.Rows
def Itd (a:Addr) (o:Obj) (kvs:List (List Key × V)):It :=
 ⟨fun i H=>H a=some (.frz o (.dT kvs))∧i < kvs.length,fun i H x H'=>H'=H∧∃ k v p,kvs[i]?=some (k,v)∧x=.ref p∧H p=some (.tup (k.map kV)),fun i H=>H a=some (.frz o (.dT kvs))∧kvs.length≤i⟩
section
variable {X:Cx}
def iDT (tl:TE):TI:=fun σ H R=>tl σ H fun x H1=>∃ a o kvs,x=.ref a∧H1 a=some (.frz o (.dT kvs))∧R (Itd a o kvs) H1
end
section
variable {σ:St} {H:Hp} {nx:St→Hp→Prop} {B:V→St→Hp→(St→Hp→Prop)→Prop}
end
end L2
namespace L2
open PySem PySem.Spec PyProof.Rows
mutual
inductive Dat (K:PySem.W.Frag) (H:Hp):V→PyData→Prop
 | non:Dat K H .non .none
 | bl (b:Bool):Dat K H (.bl b) (.bool b)
 | int (i:Int):Dat K H (.int i) (.int i)
 | str (x:Str):Dat K H (.str x) (.str x)
 | lst {a:Addr} {xs:List V} {ds:List PyData}:SqL K H a xs→DatAll K H xs ds→Dat K H (.ref a) (.list ds)
 | tup {a:Addr} {xs:List V} {ds:List PyData}:SqT K H a xs→DatAll K H xs ds→Dat K H (.ref a) (.tuple ds)
inductive DatAll (K:PySem.W.Frag) (H:Hp):List V→List PyData→Prop
 | nil:DatAll K H [] []
 | cons {x:V} {d:PyData} {xs:List V} {ds:List PyData}:Dat K H x d→DatAll K H xs ds→DatAll K H (x :: xs) (d :: ds)
end
section
variable {X:Cx} {pins:List (Addr × Obj)} {σ:St} {H:Hp} {s:Shared}
mutual
theorem Dat.reads (I:Inv X pins σ H s):∀ {x:V} {d:PyData} {u:Value},Dat X.K H x d→RelV x u→∃ as,Reads s.heap u d as
 | _,_,_,.non,r=>by cases r;exact ⟨_,.none⟩
 | _,_,_,.bl b,r=>by cases r;exact ⟨_,.bool b⟩
 | _,_,_,.int i,r=>by obtain ⟨t,rfl⟩:=r;exact ⟨_,.int i t⟩
 | _,_,_,.str x,r=>by obtain ⟨t,rfl⟩:=r;exact ⟨_,.str x t⟩
 | _,_,_,.lst hq ha,r=>by
  cases r
  obtain ⟨its,rv,⟨o,n,e,c,_,d⟩,_⟩:=I.list hq
  obtain ⟨as,ra⟩:=DatAll.reads I ha rv
  exact ⟨_,.list e c d (by simpa using ra)⟩
 | _,_,_,.tup hq ha,r=>by
  cases r
  obtain ⟨its,rv,⟨o,e,c,n,d⟩,_⟩:=I.tuple hq
  obtain ⟨as,ra⟩:=DatAll.reads I ha rv
  exact ⟨_,.tuple e c d (by simpa using ra)⟩
theorem DatAll.reads (I:Inv X pins σ H s):∀ {xs:List V} {ds:List PyData} {us:List Value},DatAll X.K H xs ds→Vals xs us→∃ as,ReadsAll s.heap us ds as
 | _,_,_,.nil,r=>by cases r;exact ⟨_,.nil⟩
 | _,_,_,.cons hx ht,r=>by
  cases r with
  | cons r1 rr =>
   obtain ⟨as,ra⟩:=Dat.reads I hx r1
   obtain ⟨bs,rb⟩:=DatAll.reads I ht rr
   exact ⟨_,.cons ra rb⟩
end
end
section
variable {K:PySem.W.Frag} {H H':Hp}
theorem SqL.mono {a:Addr} {xs:List V} (k:Same H H') (h:SqL K H a xs):SqL K H' a xs:=by
 rcases h with (h | ⟨o,h⟩) | h
 ·exact .inl (.inl (k _ _ h))
 ·exact .inl (.inr ⟨o,k _ _ h⟩)
 ·exact .inr h
end
section
variable {X:Cx} {pins:List (Addr × Obj)} {σ:St} {H:Hp} {s:Shared}
end
mutual
def zN:PyData→Bool
 | .none=>true
 | .int _=>true
 | .str x=>PyData.strOk x
 | .list xs=>yn xs
 | .tuple xs=>yn xs
 | .bool _=>false
 | .dict _=>false
def yn:List PyData→Bool
 | []=>true
 | x :: xs=>zN x && yn xs
end
mutual
theorem YE:∀ {d:PyData},zN d=true→d.canLay0=true
 | .none,_=>by simp [PyData.canLay0]
 | .int _,_=>by simp [PyData.canLay0]
 | .str x,h=>by simpa [PyData.canLay0,zN] using h
 | .list xs,h=>by rw [PyData.canLay0];exact ke (by simpa [zN] using h)
 | .tuple xs,h=>by rw [PyData.canLay0];exact ke (by simpa [zN] using h)
 | .bool _,h=>by simp [zN] at h
 | .dict _,h=>by simp [zN] at h
theorem ke:∀ {ds:List PyData},yn ds=true→PyData.canLayAll0 ds=true
 | [],_=>by simp [PyData.canLayAll0]
 | x :: xs,h=>by
  rw [yn,Bool.and_eq_true] at h
  rw [PyData.canLayAll0,YE h.1,ke h.2];rfl
end
mutual
theorem YF:∀ {d e:PyData},zN d=true→zN e=true→(PyData.eqv d e=true↔d=e)
 | .list xs,.list ys,h,h'=>by
  rw [PyData.eqv,kg (by simpa [zN] using h) (by simpa [zN] using h'),PyData.list.injEq]
 | .tuple xs,.tuple ys,h,h'=>by
  rw [PyData.eqv,kg (by simpa [zN] using h) (by simpa [zN] using h'),PyData.tuple.injEq]
 | .bool _,_,h,_=>by simp [zN] at h
 | .dict _,_,h,_=>by simp [zN] at h
 | .none,.bool _,_,h=>by simp [zN] at h
 | .int _,.bool _,_,h=>by simp [zN] at h
 | .str _,.bool _,_,h=>by simp [zN] at h
 | .list _,.bool _,_,h=>by simp [zN] at h
 | .tuple _,.bool _,_,h=>by simp [zN] at h
 | .none,.dict _,_,h=>by simp [zN] at h
 | .int _,.dict _,_,h=>by simp [zN] at h
 | .str _,.dict _,_,h=>by simp [zN] at h
 | .list _,.dict _,_,h=>by simp [zN] at h
 | .tuple _,.dict _,_,h=>by simp [zN] at h
 | .none,.none,_,_ | .none,.int _,_,_ | .none,.str _,_,_ | .none,.list _,_,_ | .none,.tuple _,_,_=>by simp [PyData.eqv]
 | .int _,.none,_,_ | .int _,.int _,_,_ | .int _,.str _,_,_ | .int _,.list _,_,_ | .int _,.tuple _,_,_=>by simp [PyData.eqv]
 | .str _,.none,_,_ | .str _,.int _,_,_ | .str _,.str _,_,_ | .str _,.list _,_,_ | .str _,.tuple _,_,_=>by simp [PyData.eqv]
 | .list _,.none,_,_ | .list _,.int _,_,_ | .list _,.str _,_,_ | .list _,.tuple _,_,_=>by simp [PyData.eqv]
 | .tuple _,.none,_,_ | .tuple _,.int _,_,_ | .tuple _,.str _,_,_ | .tuple _,.list _,_,_=>by simp [PyData.eqv]
theorem kg:∀ {xs ys:List PyData},yn xs=true→yn ys=true→(PyData.eqvAll xs ys=true↔xs=ys)
 | [],[],_,_=>by simp [PyData.eqvAll]
 | [],_ :: _,_,_=>by simp [PyData.eqvAll]
 | _ :: _,[],_,_=>by simp [PyData.eqvAll]
 | x :: xs,y :: ys,h,h'=>by
  rw [yn,Bool.and_eq_true] at h h'
  rw [PyData.eqvAll,Bool.and_eq_true,YF h.1 h'.1,kg h.2 h'.2,List.cons.injEq]
end
abbrev WC (K:PySem.W.Frag) (neg:Bool):R2:=fun x y H Q=>∃ d e,Dat K H x d∧Dat K H y e∧(zN d=true∧zN e=true∧d.depth≤64∧e.depth≤64)∧∀ b:Bool,(b=true↔d=e)→Q (.bl (if neg then !b else b)) H
section
variable {X:Cx}
theorem kK {d:PyData} (h:zN d=true) (h':d.depth≤64):SeqAt.shaped d=true:=by
 unfold SeqAt.shaped
 rw [YE h,decide_eq_true h'];rfl
theorem JG (hu:X.A.units + 64 < cLine):OpR X (compareOp .Eq) (WC X.K false):=by
 intro pins s σ H x y v u Q I rx ry h
 obtain ⟨d,e,hd,he,⟨p1,p2,l1,l2⟩,q⟩:=h
 obtain ⟨as,ra⟩:=hd.reads I rx
 obtain ⟨bs,rb⟩:=he.reads I ry
 exact eq_dataH ra rb (kK p1 l1) (kK p2 l2) hu ⟨.bl _,H,I,rfl,q _ (YF p1 p2)⟩
end
end L2
namespace L2
open PySem PySem.Spec PyProof.Rows
abbrev zbW:R2:=fun x y H Q=>∃ i j,x=.str i∧y=.str j∧Q (.bl (decide (j.cps.toList < i.cps.toList))) H
abbrev zbX (neg:Bool):R2:=fun x y H Q=>∃ a o,y=.ref a∧QP H a x o∧Q (.bl (if neg then !o.isSome else o.isSome)) H
section
variable {X:Cx}
end
end L2
namespace L2
open PySem
abbrev Pl:=Str × Int
abbrev Row:=Pl × Int
def kL:List Row→Pl→Option Int
 | [],_=>none
 | r :: t,p=>(kL t p).or (if r.1=p then some r.2 else none)
def zaq (kvs:List (List Key × V)) (q:Row):List (List Key × V):=qT kvs (kJ q.1) (.int q.2)
def dOf (rows:List Row):List (List Key × V):=rows.foldl zaq []
def OkKv (kvs:List (List Key × V)):Prop:=(kvs.map (·.1)).Nodup∧∀ kv∈kvs,∃ (p:Pl) (w:Int),kv=(kJ p,.int w)
theorem OkKv.put {kvs:List (List Key × V)} (h:OkKv kvs) (p:Pl) (w:Int):OkKv (qT kvs (kJ p) (.int w)):=by
 cases e:wn kvs (kJ p) with
 | none =>
  refine ⟨KG _ h.1 e,fun kv hk=>?_⟩
  rw [Xw _ e] at hk
  rcases List.mem_append.mp hk with hk | hk
  ·exact h.2 kv hk
  ·exact ⟨p,w,List.mem_singleton.mp hk⟩
 | some v =>
  have q:(kvs.any fun kv=>decide (kv.1=kJ p))=true:=by rw [kE,e];rfl
  unfold qT
  rw [if_pos q]
  constructor
  ·rw [List.map_map]
   have:((fun x:List Key × V=>x.1) ∘ fun kv:List Key × V=>if kv.1=kJ p then (kv.1,V.int w) else kv)=fun x=>x.1:=by
    funext kv
    show (if kv.1=kJ p then (kv.1,V.int w) else kv).1=kv.1
    split <;> rfl
   rw [this];exact h.1
  ·intro kv hk
   obtain ⟨z,hz,rfl⟩:=List.mem_map.mp hk
   by_cases e:z.1=kJ p
   ·exact ⟨p,w,by rw [if_pos e,e]⟩
   ·rw [if_neg e];exact h.2 z hz
def WD (l:List Row):Prop:=l.Pairwise fun a b=>Zi a.1 b.1=true
def zar (rows out:List Row):Prop:=WD out∧∀ p w,(p,w)∈out↔kL rows p=some w∧w≠0
theorem VB {p:Pl}:∀ {l:List Row},(∀ r∈l,r.1≠p)→kL l p=none
 | [],_=>rfl
 | r :: t,h=>by
  rw [kL,VB fun r hr=>h r (List.mem_cons_of_mem _ hr),if_neg (h r List.mem_cons_self)];rfl
end L2
namespace L2
open PySem PySem.Spec PyProof.Rows
def zas (K:PySem.W.Frag) (p q:Addr) (xs ys:List V):It:=⟨fun i H=>i < xs.length∧SqL K H p xs∧SqL K H q ys,fun i H x H'=>∃ T u v,x=.ref T∧H T=none∧H'=upd H T (.tup [u,v])∧xs[i]?=some u∧ys[i]?=some v,fun i H=>xs.length≤i∧SqL K H p xs∧SqL K H q ys⟩
def zbp (K:PySem.W.Frag) (ta:TA):TI:=fun σ H R=>ta σ H fun vs H1=>∃ p q xs ys,vs=[.ref p,.ref q]∧SqL K H1 p xs∧SqL K H1 q ys∧xs.length=ys.length∧R (zas K p q xs ys) H1
section
variable {X:Cx}
end
section
variable {σ:St} {H:Hp} {nx:St→Hp→Prop} {B:V→St→Hp→(St→Hp→Prop)→Prop}
end
end L2
namespace L2
open PySem PySem.Spec PyProof.Rows
section
variable {X:Cx} {A:Around} {R:Result→Shared→Prop}
def Y6 (H:Hp) (v:V) (q:Row):Prop:=∃ r p,v=.ref r∧H r=some (.tup [.ref p,.int q.2])∧H p=some (.tup [.str q.1.1,.int q.1.2])
end
end L2
namespace L2
open PySem PySem.Spec PyProof.Rows
section
variable {prog:Program} {w:World} {A:Around} {E:Value→Shared→Prop} {s:Shared} {a:Addr} {o:Obj} {xs:Array Value} {k:Nat}
end
abbrev zbq:RC:=fun vs H Q=>∃ (a:Addr) (xs:List V) (rows:List Row),vs=[.ref a]∧H a=some (.lst xs)∧Paired (Y6 H) xs rows∧rows.length≤1000∧∀ p,H p=none→Q (.ref p) (upd H p (.dT (dOf rows)))
section
variable {X:Cx}
end
end L2
namespace L2
open PySem PySem.Spec PyProof.Rows
section
variable {X:Cx} {k:Nat} {f C:Addr} {fd:FuncData} {ps:List Str} {sp:Sp} {m:Str} {pos apos:Pos} {e o:Expr} {es:List Expr} {ta:TE} {t:TA}
def zaW (C:Addr) (m:Str) (sp:Sp) (ta:TE) (t:TA) (EX:EXK):TE:=fun σ H Q=>ta σ H fun x H1=>∃ a dx fs,x=.ref a∧H1 a=some (.ins C dx fs)∧fs.lookup m=none ∧
 t σ H1 fun vs H2=>sp (x :: (vs ++ [])) H2 Q fun cls _ H3=>EX cls σ H3
end
def zbr (K:PySem.W.Frag) (tb:EXK→TS) (C1:Addr) (th1:TS):TS:=fun D σ H=>tb (fun cls σ1 H1=>∃ C,cls=.ref C∧PySem.W.exmOne K (.ref C) (.ref C1)=some true∧th1 D σ1 H1) D σ H
def zaX (K:PySem.W.Frag) (tb:EXK→TS) (C1:Addr) (th1:TS) (C2:Addr) (th2:TS):TS:=fun D σ H=>tb (fun cls σ1 H1=>∃ C,cls=.ref C ∧
 ((PySem.W.exmOne K (.ref C) (.ref C1)=some true∧th1 D σ1 H1)∨(PySem.W.exmOne K (.ref C) (.ref C1)=some false∧PySem.W.exmOne K (.ref C) (.ref C2)=some true∧th2 D σ1 H1))) D σ H
section
variable {X:Cx} {st b₀ b₁:Stmt} {suite suite1:List Stmt} {tb:EXK→TS} {th1 th2:TS} {c1 c2:Str} {C1 C2:Addr} {np hpos np2 hpos2 pos:Pos}
end
section
variable {X:Cx} {k:Nat} {f:Addr} {fd:FuncData} {ps:List Str} {sp:Sp} {x:Str} {p pos:Pos} {e:Expr} {es:List Expr} {t:TA}
end
end L2
namespace L2
open PySem
def rk (kvs:List (Key × V)) (ps:List V):Except Er Int:=match Jx kvs ps [] with
 | .ok [i]=>.ok i
 | .ok _=>.error .stuck
 | .error e=>.error e
theorem JH {kvs:List (Key × V)} (hs:Zh kvs) {v:V} (hv:Y5 v) {st st':List Int} (h:∀ x∈st,inW x=true) (e:Jw kvs st v=.ok st'):∀ x∈st',inW x=true:=by
 unfold Jw at e
 split at e
 ·split at e
  ·rename_i w b a r hr hj
   unfold Qu at e
   by_cases c1:Vc w∧b=0
   ·rw [if_pos c1] at e;cases e
   ·rw [if_neg c1] at e
    by_cases c2:inW (Jv w a b)=true
    ·rw [if_pos c2] at e
     cases e
     intro x hx
     rcases List.mem_append.mp hx with hx | hx
     ·refine h x (List.mem_reverse.mp ?_)
      rw [hr]
      exact List.mem_cons_of_mem _ (List.mem_cons_of_mem _ (List.mem_reverse.mp hx))
     ·rw [List.mem_singleton.mp hx];exact c2
    ·rw [if_neg c2] at e;cases e
  ·cases e
 ·cases e
  intro x hx
  rcases List.mem_append.mp hx with hx | hx
  ·exact h x hx
  ·rw [List.mem_singleton.mp hx];exact Jy hs hv
theorem KU {kvs:List (Key × V)} (hs:Zh kvs):∀ {ps:List V} {st st':List Int},(∀ v∈ps,Y5 v)→(∀ x∈st,inW x=true)→Jx kvs ps st=.ok st'→∀ x∈st',inW x=true
 | [],st,st',_,h,e=>by cases e;exact h
 | v :: r,st,st',hp,h,e=>by
  unfold Jx at e
  split at e
  ·rename_i st1 e1
   exact KU hs (fun v hv=>hp v (List.mem_cons_of_mem _ hv)) (JH hs (hp v List.mem_cons_self) h e1) e
  ·cases e
def kh (e:List V):Prop:=(∀ kvs,∃ r,zaU kvs e r)∧(∀ v∈e,Y5 v)∧e.length≤1000
mutual
inductive Rw where
 | take (sh:Str) (e:List V) (sl:Str)
 | give (sh:Str) (e f:List V)
 | lt (sl:Str) (e:List V)
 | say (e:List V)
 | off (e:List V)
 | iff (e:List V) (a b:Rws)
inductive Rws where
 | nil
 | cons (r:Rw) (rs:Rws)
end
set_option genSizeOf false in
set_option genInjectivity false in
structure Sta where
 sl:List (Key × V)
 wo:List Row
 sa:List Int
inductive Res where
 | go (s:Sta)
 | off
 | er (e:Er)
mutual
def goR:Rw→Sta→Res
 | .take sh e sl,s=>match rk s.sl e with
  | .ok n=>.go { s with sl:=qT s.sl (.inr sl) (.int ((kL s.wo (sh,n)).getD 0)) }
  | .error x=>.er x
 | .give sh e f,s=>match rk s.sl e with
  | .ok n=>(match rk s.sl f with
   | .ok w=>.go { s with wo:=s.wo ++ [((sh,n),w)] }
   | .error x=>.er x)
  | .error x=>.er x
 | .lt sl e,s=>match rk s.sl e with
  | .ok n=>.go { s with sl:=qT s.sl (.inr sl) (.int n) }
  | .error x=>.er x
 | .say e,s=>match rk s.sl e with
  | .ok n=>.go { s with sa:=s.sa ++ [n] }
  | .error x=>.er x
 | .off e,s=>match rk s.sl e with
  | .ok n=>if n=0 then .go s else .off
  | .error x=>.er x
 | .iff e a b,s=>match rk s.sl e with
  | .ok n=>if n=0 then KW b s else KW a s
  | .error x=>.er x
def KW:Rws→Sta→Res
 | .nil,s=>.go s
 | .cons r rs,s=>match goR r s with
  | .go s'=>KW rs s'
  | x=>x
end
mutual
def zaY (F:Addr→Prop) (H:Hp) (v:V):Rw→Prop
 | .take sh e sl=>∃ r te,v=.ref r∧F r∧F te∧H r=some (.tup [.str "take",.str sh,.ref te,.str sl])∧H te=some (.tup e)
 | .give sh e f=>∃ r te tf,v=.ref r∧F r∧F te∧F tf∧H r=some (.tup [.str "give",.str sh,.ref te,.ref tf])∧H te=some (.tup e)∧H tf=some (.tup f)
 | .lt sl e=>∃ r te,v=.ref r∧F r∧F te∧H r=some (.tup [.str "let",.str sl,.ref te])∧H te=some (.tup e)
 | .say e=>∃ r te,v=.ref r∧F r∧F te∧H r=some (.tup [.str "say",.ref te])∧H te=some (.tup e)
 | .off e=>∃ r te,v=.ref r∧F r∧F te∧H r=some (.tup [.str "off",.ref te])∧H te=some (.tup e)
 | .iff e a b=>∃ r te la lb xs ys,v=.ref r∧F r∧F te∧F la∧F lb∧H r=some (.tup [.str "if",.ref te,.ref la,.ref lb])∧H te=some (.tup e)∧H la=some (.lst xs)∧JI F H xs a∧H lb=some (.lst ys)∧JI F H ys b
def JI (F:Addr→Prop) (H:Hp) (vs:List V):Rws→Prop
 | .nil=>vs=[]
 | .cons r rs=>∃ v ws,vs=v :: ws∧zaY F H v r∧JI F H ws rs
end
abbrev ki:Addr→Prop:=fun _=>True
mutual
def zaZ:Rw→Prop
 | .take _ e _=>kh e
 | .give _ e f=>kh e∧kh f
 | .lt _ e=>kh e
 | .say e=>kh e
 | .off e=>kh e
 | .iff e a b=>kh e∧JJ a∧JJ b
def JJ:Rws→Prop
 | .nil=>True
 | .cons r rs=>zaZ r∧JJ rs
end
mutual
def Rw.deep:Rw→Nat
 | .iff _ a b=>max a.deep b.deep + 1
 | _=>0
def Rws.deep:Rws→Nat
 | .nil=>0
 | .cons r rs=>max r.deep rs.deep
end
mutual
def Rw.cnt:Rw→Nat
 | .iff _ a b=>max a.cnt b.cnt + 1
 | _=>1
def Rws.cnt:Rws→Nat
 | .nil=>0
 | .cons r rs=>r.cnt + rs.cnt
end
end L2
namespace L2
open PySem
section
variable {P:Program} {w:World} {A:Around} {E:Value→Shared→Prop} {s:Shared}
end
end L2
namespace L2
open PySem PySem.Spec PyProof.Rows
def JK (r d:Addr):HO:=.ext fun h=>h.IsItemsView r d
def za0 (td:TE):TE:=fun σ H Q=>td σ H fun x H1=>∃ d kvs,x=.ref d∧H1 d=some (.dT kvs)∧∀ r,H1 r=none→Q (.ref r) (upd H1 r (JK r d))
section
variable {X:Cx} {o:Expr} {apos cpos:Pos} {td:TE}
end
def za1 (H:Hp) (v:V) (kv:List Key × V):Prop:=∃ r p,v=.ref r∧H r=some (.tup [.ref p,kv.2])∧H p=some (.tup (kv.1.map kV))
section
variable {X:Cx} {A:Around} {R:Result→Shared→Prop}
end
end L2
namespace L2
open PySem PySem.Spec PyProof.Rows
abbrev zbs:RC:=fun vs H Q=>∃ r d kvs,vs=[.ref r]∧H r=some (JK r d)∧H d=some (.dT kvs)∧kvs.length≤1000∧∀ l ys H',Same H H'→H l=none→H' l=some (.lst ys)→Paired (za1 H') ys kvs→Q (.ref l) H'
section
variable {X:Cx}
end
end L2
namespace L2
open PySem PySem.Spec PyProof.Rows PySem.W
section
variable {X:Cx}
end
section
variable {P:Program} {w:World} {A:Around} {E:Value→Shared→Prop} {s:Shared}
end
end L2
namespace L2
open PySem PySem.Spec PyProof.Rows PySem.W
def d0:Row:=(("",0),0)
abbrev zbt:RC:=fun vs H Q=>∃ r d rows,vs=[.ref r]∧H r=some (JK r d)∧H d=some (.dT (dOf rows))∧(dOf rows).length < 64 ∧
 ∀ l ys srt H',Same H H'→H l=none→H' l=some (.lst ys)→Paired (Y6 H') ys srt→WD srt→(∀ p w,(p,w)∈srt↔kL rows p=some w)→Q (.ref l) H'
section
variable {X:Cx}
end
end L2
namespace L2
open PySem PySem.Spec PyProof.Rows
def za2 (lo c:Int) (n:Nat):It:=⟨fun i _=>i < n,fun i H x H'=>H'=H∧x=.int (lo + i * c),fun i _=>n≤i⟩
def za3 (i j c:Int):Nat:=if i < j then ((j - i - 1) / c + 1).toNat else 0
def zbu (ta:TA):TI:=fun σ H R=>ta σ H fun vs H1=>∃ i j c:Int,vs=[.int i,.int j,.int c]∧(0≤i∧i < 1073741824∧0≤j∧j < 1073741824∧0 < c∧c < 1073741824)∧R (za2 i c (za3 i j c)) H1
section
variable {X:Cx} {tg:Expr}
end
end L2
namespace L2
open PySem
structure StOk (n:Nat) (s:Sta):Prop where
 so:Zh s.sl
 wo:∀ r∈s.wo,inW r.2=true
 l1:s.sl.length≤n
 l2:s.wo.length≤n
 l3:s.sa.length≤n
theorem StOk.mono {n m:Nat} {s:Sta} (h:StOk n s) (l:n≤m):StOk m s:=⟨h.so,h.wo,Nat.le_trans h.l1 l,Nat.le_trans h.l2 l,Nat.le_trans h.l3 l⟩
theorem KY {P:Row→Prop} {p:Pl} {w:Int}:∀ {l:List Row},(∀ r∈l,P r)→kL l p=some w→P (p,w)
 | [],_,h=>by cases h
 | r :: t,hp,h=>by
  rw [kL] at h
  cases e:kL t p with
  | some w' =>
   rw [e] at h
   have:w'=w:=by simpa using h
   subst this
   exact KY (fun r hr=>hp r (List.mem_cons_of_mem _ hr)) e
  | none =>
   rw [e] at h
   by_cases c:r.1=p
   ·rw [if_pos c] at h
    have:r.2=w:=by simpa using h
    rw [← c,← this];exact hp r List.mem_cons_self
   ·rw [if_neg c] at h;cases h
mutual
def za4 (P:Pl→Prop):Rw→Prop
 | .give sh e _=>∀ kvs n,rk kvs e=.ok n→P (sh,n)
 | .iff _ a b=>JL P a∧JL P b
 | _=>True
def JL (P:Pl→Prop):Rws→Prop
 | .nil=>True
 | .cons r rs=>za4 P r∧JL P rs
end
inductive Oc where
 | done (sa:List Int)
 | off (why:Str)
def zat:Er→Str
 | .great=>"great"
 | _=>"nought"
def Q3 (rws:Rws) (tab:List Row) (oc:Oc) (out:List Row):Prop:=match KW rws ⟨[],tab,[]⟩ with
 | .go s=>oc=.done s.sa∧zar s.wo out
 | .off=>oc=.off "told"∧out=tab
 | .er e=>oc=.off (zat e)∧out=tab
inductive Q4:List Rws→List Row→List Oc→List Row→Prop
 | nil {tab:List Row}:Q4 [] tab [] tab
 | cons {d:Rws} {ds:List Rws} {tab mid out:List Row} {oc:Oc} {ocs:List Oc}:Q3 d tab oc mid→Q4 ds mid ocs out→Q4 (d :: ds) tab (oc :: ocs) out
def qN:V→PyData
 | .int i=>.int i
 | .str x=>.str x
 | _=>.none
def plV (v:V):Prop:=(∃ i,v=.int i)∨∃ x,v=.str x∧PyData.strOk x=true
def ZL (e:List V):PyData:=.tuple (e.map qN)
mutual
def rwD:Rw→PyData
 | .take sh e sl=>.tuple [.str "take",.str sh,ZL e,.str sl]
 | .give sh e f=>.tuple [.str "give",.str sh,ZL e,ZL f]
 | .lt sl e=>.tuple [.str "let",.str sl,ZL e]
 | .say e=>.tuple [.str "say",ZL e]
 | .off e=>.tuple [.str "off",ZL e]
 | .iff e a b=>.tuple [.str "if",ZL e,.list (Q5 a),.list (Q5 b)]
def Q5:Rws→List PyData
 | .nil=>[]
 | .cons r rs=>rwD r :: Q5 rs
end
def tmP (e:List V):Prop:=∀ v∈e,plV v
mutual
def za5:Rw→Prop
 | .take sh e sl=>PyData.strOk sh=true∧tmP e∧PyData.strOk sl=true
 | .give sh e f=>PyData.strOk sh=true∧tmP e∧tmP f
 | .lt sl e=>PyData.strOk sl=true∧tmP e
 | .say e=>tmP e
 | .off e=>tmP e
 | .iff e a b=>tmP e∧JM a∧JM b
def JM:Rws→Prop
 | .nil=>True
 | .cons r rs=>za5 r∧JM rs
end
section
variable {K:PySem.W.Frag} {H:Hp} {F:Addr→Prop}
theorem JN {v:V} (h:plV v):Dat K H v (qN v):=by
 rcases h with ⟨i,rfl⟩ | ⟨x,rfl,_⟩
 ·exact .int i
 ·exact .str x
theorem VC:∀ {e:List V},tmP e→DatAll K H e (e.map qN)
 | [],_=>.nil
 | v :: r,h=>.cons (JN (h v List.mem_cons_self)) (VC fun u hu=>h u (List.mem_cons_of_mem _ hu))
end
theorem XM:∀ {e:List V},tmP e→yn (e.map qN)=true
 | [],_=>by simp [yn]
 | v :: r,h=>by
  rw [List.map_cons,yn,XM fun u hu=>h u (List.mem_cons_of_mem _ hu),Bool.and_true]
  rcases h v List.mem_cons_self with ⟨i,rfl⟩ | ⟨x,rfl,hx⟩
  ·rw [qN,zN]
  ·rw [qN,zN];exact hx
theorem WE:∀ (e:List V),PyData.depthAll (e.map qN)=0
 | []=>by simp [PyData.depthAll]
 | v :: r=>by
  rw [List.map_cons,PyData.depthAll,WE r]
  cases v <;> simp [qN,PyData.depth]
def Rws.snoc:Rws→Rw→Rws
 | .nil,x=>.cons x .nil
 | .cons r rs,x=>.cons r (rs.snoc x)
def Rws.app:Rws→Rws→Rws
 | .nil,x=>x
 | .cons r rs,x=>.cons r (rs.app x)
end L2
namespace L2
open PySem PySem.Spec PyProof.Rows
abbrev wW:RM:=fun x xs H Q=>∃ a b,x=.str a∧xs=[.str b]∧(b.length == 0)=false∧a.length≤100000∧(Txt.split a b).length≤100000∧∀ l,H l=none→Q (.ref l) (upd H l (.lst ((Txt.split a b).map V.str)))
theorem kM:∀ (l:List (Str × Tok)),Vals ((l.map (·.1)).map V.str) (strValues l)
 | []=>.nil
 | p :: r=>.cons ⟨p.2,rfl⟩ (kM r)
section
variable {X:Cx}
theorem XN:MtM X "str.split" wW:=by
 intro pins s σ H x xs v us Q I rx rs h
 obtain ⟨a,b,rfl,rfl,hb,ha,hl,q⟩:=h
 obtain ⟨t,rfl⟩:=rx
 obtain ⟨u,rfl,t',rfl⟩:=qG rs
 have hs:sizeLine=16777216:=sizeLine_eq
 have fin:∀ (l:List (Str × Tok)) (tk c:Nat),l.map (·.1)=Txt.split a b→EP X pins σ Q (.ref s.heap.objs.size) { s with heap:=s.heap.push { cls:=.type "list",data:=.seq (strValues l).toArray c },toks:=tk }:=fun l tk c e=>by
  have hn:H s.heap.objs.size=none:=I.hok.fresh (Nat.le_refl _)
  have vv:=kM l
  rw [e] at vv
  refine ⟨.ref s.heap.objs.size,_,I.laid (a:=s.heap.objs.size) (o:=.lst ((Txt.split a b).map V.str)) (t':=tk) (fun b u e=>Heap.get?_push_of_some _ e) (Nat.le_refl _) ⟨by rw [List.length_map];lia,strValues l,c,vv,Heap.get?_push_size _ rfl⟩,rfl,q _ hn⟩
 cases h1:(decide (a.length < b.length) || decide (Builtin.Str.strKind a < Builtin.Str.strKind b))
 ·cases hf:(Builtin.Str.occurrences a b 0 a.length (a.length + 1)).isEmpty
  ·have e0:Txt.split a b=Builtin.Str.partsBetween a (Builtin.Str.occurrences a b 0 a.length (a.length + 1)) b.length:=(if_neg (ne_true_of_eq_false h1)).trans (if_neg (ne_true_of_eq_false hf))
   refine call_meets F.slot_str_split (typeIs_str _ _ _) F.entry_str_split (F.args_str_split_2 _ _) (meets_str_split_sep a b t t' h1 hb hf (by lia) (by rw [← e0];lia)) ?_
   rw [strsFrom_eq]
   exact fin (numbered s.toks _) _ _ ((numbered_texts _ _).trans e0.symm)
  ·exact call_meets F.slot_str_split (typeIs_str _ _ _) F.entry_str_split (F.args_str_split_2 _ _) (meets_str_split_not_found a b t t' h1 hb hf)
    (fin [(a,t)] _ _ ((if_neg (ne_true_of_eq_false h1)).trans (if_pos hf)).symm)
 ·exact call_meets F.slot_str_split (typeIs_str _ _ _) F.entry_str_split (F.args_str_split_2 _ _) (meets_str_split_cannot_occur a b t t' h1)
   (fin [(a,t)] _ _ (if_pos h1).symm)
end
def EL (e it p:Addr) (k:Nat) (h:Heap):Prop:=(∃ old,IsEnum h e it (k:Int) old)∧h.IsListIter it p k
def JO (K:PySem.W.Frag) (p:Addr) (xs:List V):It:=⟨fun i H=>i < xs.length∧SqL K H p xs,fun i H x H'=>∃ T u,x=.ref T∧H T=none∧H'=upd H T (.tup [.int i,u])∧xs[i]?=some u,fun i H=>xs.length≤i∧SqL K H p xs⟩
theorem WF {P:Program} {w:World} {K:PySem.W.Frag} {elts:List Expr} {x1} {pos:Pos} {e it p:Addr} {xs:List V} (hei:e≠it) :
  Vm P w K (.Tuple elts x1 pos) (JO K p xs) [e,it] e (EL e it p) where
 mem:=by simp
 obj:=fun k h st c hc=>by
  obtain ⟨⟨old,he⟩,⟨oi,hi,ci,di⟩⟩:=st
  simp only [List.mem_cons,List.not_mem_nil,or_false] at hc
  rcases hc with rfl | rfl
  ·exact ⟨_,he,fun v z=>by cases z⟩
  ·exact ⟨_,hi,fun v z=>by rw [di] at z;cases z⟩
 keep:=fun k h h' st kk=>by
  obtain ⟨⟨old,he⟩,⟨oi,hi,ci⟩⟩:=st
  exact ⟨⟨old,kk e (by simp) _ he⟩,⟨oi,kk it (by simp) _ hi,ci⟩⟩
 item:=by
  intro X hP hw hK hc k pins s σ H E I hf st hg
  subst hP hw hK
  obtain ⟨hlt,h1⟩:=hg
  obtain ⟨us,r1,p1,_⟩:=I.list h1
  obtain ⟨u,hu,ru⟩:=r1.get (i:=k) (x:=xs[k]) (List.getElem?_eq_getElem hlt)
  have old:∀ c∈[e,it],c≠s.heap.objs.size:=fun c hc=>by
   obtain ⟨⟨old,he⟩,⟨oi,hi,ci⟩⟩:=st
   simp only [List.mem_cons,List.not_mem_nil,or_false] at hc
   rcases hc with rfl | rfl
   ·exact Nat.ne_of_lt (Heap.lt_size he)
   ·exact Nat.ne_of_lt (Heap.lt_size hi)
  obtain ⟨⟨o0,he⟩,hi⟩:=st
  refine wpAny_pyNext_enum_item he hi p1.isList (x:=u) (by simpa using hu) hei fun h e8 i5 t5 sz k5=>?_
  have I6:Inv X pins σ (upd H s.heap.objs.size (.tup [.int k,xs[k]])) { s with heap:=s.heap.push { cls:=.type "tuple",data:=.seq #[.int k s.toks,u] },toks:=s.toks + 1 } :=
   I.laid (a:=s.heap.objs.size) (o:=.tup [.int k,xs[k]]) (t':=s.toks + 1) (fun b u e=>Heap.get?_push_of_some _ e) (Nat.le_refl _) ⟨by show 2≤sizeLine;decide,[.int k s.toks,u],.cons ⟨_,rfl⟩ (.cons ru .nil),⟨_,Heap.get?_push_size _ rfl,rfl,_,rfl⟩⟩
  have free:∀ c∈[e,it],upd H s.heap.objs.size (HO.tup [.int k,xs[k]]) c=none:=fun c hc=>by rw [zk (old c hc)];exact (hf c hc).1
  have fz:∀ c∈[e,it],j5 X pins (upd H s.heap.objs.size (HO.tup [.int k,xs[k]])) c:=fun c hc=>⟨free c hc,(hf c hc).2⟩
  refine ⟨.ref s.heap.objs.size,rfl,wpAny_letOwnedTupleGo_enum e8 fun h2 z9 sb2=>?_⟩
  have up:∀ c o,c≠e→h.get? c=some o→h2.get? c=some o:=fun c o hc e=>by
   rw [show h2.get? c=h.get? c from sb2.2 c hc];exact e
  have I7:Inv X pins σ (upd H s.heap.objs.size (.tup [.int k,xs[k]])) { s with heap:=h2,toks:=s.toks + 1 }:=I6.turnedL (s:={ s with heap:=s.heap.push { cls:=.type "tuple",data:=.seq #[.int k s.toks,u] },toks:=s.toks + 1 }) (t':=s.toks + 1) (ch:=[e,it]) (fun c o hc e=>by
   simp only [List.mem_cons,List.not_mem_nil,or_false,not_or] at hc
   refine up c o hc.1 ?_
   rcases Heap.get?_push_cases (show (s.heap.push { cls:=.type "tuple",data:=.seq #[.int k s.toks,u] }).get? c=some o from e) with ⟨rfl,rfl⟩ | e
   ·exact t5
   ·exact k5 c o hc.1 hc.2 e) fun c hc=>fz c hc
  refine ⟨.ref s.heap.objs.size,_,I7,rfl,⟨_,_,rfl,I.hok.fresh (Nat.le_refl _),rfl,List.getElem?_eq_getElem hlt⟩,?_,free⟩
  obtain ⟨oi,hi,ci⟩:=i5
  exact ⟨⟨_,z9⟩,⟨oi,up it _ (Ne.symm hei) hi,ci⟩⟩
 done:=by
  intro X hP hw hK hc k pins s σ H E I hf st hg
  subst hP hw hK
  obtain ⟨hlt,h1⟩:=hg
  obtain ⟨us,r1,p1,_⟩:=I.list h1
  have hl1:=r1.length
  obtain ⟨⟨o0,he⟩,hi⟩:=st
  refine wpAny_pyNext_enum_end (I.ok.hd hc) he hi p1.isList (by simp;lia) fun h hk=>⟨rfl,I.turnedL (t':=s.toks) (ch:=[e,it]) (fun c o hc e=>?_) fun c hc=>hf c hc⟩
  simp only [List.mem_cons,List.not_mem_nil,or_false,not_or] at hc
  exact hk c o hc.2 e
 self:=fun _ _ _ _ _ st h=>by
  obtain ⟨⟨o0,he⟩,hi⟩:=st
  exact wpAny_pyIter_enum he h
def VD (K:PySem.W.Frag) (ta:TA):TI:=fun σ H R=>ta σ H fun vs H1=>∃ p xs,vs=[.ref p]∧SqL K H1 p xs∧R (JO K p xs) H1
section
variable {X:Cx}
theorem KZ {elts:List Expr} {x1} {tp:Pos} {e1:Expr} {ta:TA} {p pos:Pos} (hg:Gl X "enumerate") (hm:X.mg "enumerate"=none) (ha:PA X [e1] ta) (he:starEach [e1] X.env=(false,eval e1 X.env) :: starEach [] X.env:=by rfl) (hpl:(backTo pos (starEach [] X.env)).any (·.1)=false:=by rfl) :
  PI X (.Tuple elts x1 tp) (.Call (.Name "enumerate" p) [e1] [] pos) (VD X.K ta):=by
 intro pins s σ H R I h
 refine Call_ (k9 I hg hm Y0 (PyProof.Rows.callWith_type1 (thn (ha pos pins s σ H _ I h) fun us s1 ⟨vs,H1,I1,r1,q1⟩=>?_) he hpl))
 obtain ⟨a,xs,e,h1,q⟩:=q1
 subst e
 obtain ⟨u1,rfl,ra⟩:=qG r1
 cases ra
 obtain ⟨us1,r1,p1,_⟩:=I1.list h1
 refine call_enumerate_list p1.isList fun h' e0 i0 _ k=>?_
 refine wpAny_pyIter_enum (s:={ s1 with heap:=h' }) e0 ?_
 generalize hn:s1.heap.objs.size=n at *
 have ne:∀ {x y:Nat},x≠y→(show Addr from x)≠(show Addr from y):=fun h=>h
 refine ⟨_,_,_,_,H1,rfl,I1.kept (t':=s1.toks) k,WF (e:=n + 1) (it:=n) (ne (by lia)),⟨⟨_,e0⟩,i0⟩,fun c hc=>?_,q⟩
 simp only [List.mem_cons,List.not_mem_nil,or_false] at hc
 have hc:n≤c:=by rcases hc with rfl | rfl <;> first | exact Nat.le_add_right _ _ | exact Nat.le_refl _
 exact I1.fpOk (by rw [hn];exact hc) (I1.hok.fresh (by rw [hn];exact hc))
end
section
variable {σ:St} {H:Hp} {nx:St→Hp→Prop} {B:V→St→Hp→(St→Hp→Prop)→Prop}
theorem WG {K:PySem.W.Frag} {p:Addr} (xs:List V) (Pv:Nat→St→Hp→Prop) (h0:Pv 0 σ H) (hl:∀ i σ H,Pv i σ H→SqL K H p xs)
  (hs:∀ i u T σ H,xs[i]?=some u→H T=none→Pv i σ H→B (.ref T) σ (upd H T (.tup [.int i,u])) (Pv (i + 1))) (hd:∀ σ H,Pv xs.length σ H→nx σ H) :
  ∃ W:Nat→Nat→St→Hp→Prop,(∃ m,W 0 m σ H)∧∀ i m σ H,W i m σ H→((JO K p xs).stop i H∧nx σ H)∨((JO K p xs).go i H∧∃ N:St→Hp→Prop,(∀ σ' H',N σ' H'→∃ m',m' < m∧W (i + 1) m' σ' H')∧∀ x H',(JO K p xs).yld i H x H'→B x σ H' N):=by
 refine ⟨fun i m σ H=>m=xs.length - i∧i≤xs.length∧Pv i σ H,⟨xs.length,by simp,Nat.zero_le _,h0⟩,?_⟩
 rintro i m σ H ⟨rfl,hi,pv⟩
 by_cases hlt:i < xs.length
 ·refine .inr ⟨⟨hlt,hl i σ H pv⟩,Pv (i + 1),fun σ' H' p'=>⟨xs.length - (i + 1),by lia,rfl,hlt,p'⟩,?_⟩
  rintro x H' ⟨T,u,rfl,hT,rfl,hu⟩
  exact hs i u T σ H hu hT pv
 ·obtain rfl:i=xs.length:=by lia
  exact .inl ⟨⟨Nat.le_refl _,hl _ σ H pv⟩,hd σ H pv⟩
end
end L2
namespace L2
open PySem PySem.Spec PyProof.Rows
theorem JP {c:Nat}:∀ {a b r s:List Nat},c ∉ a→c ∉ b→a ++ c :: r=b ++ c :: s→a=b∧r=s
 | [],[],r,s,_,_,h=>by simpa using h
 | [],y :: b,r,s,_,hb,h=>by
  simp only [List.nil_append,List.cons_append,List.cons.injEq] at h
  exact absurd h.1 (fun z=>hb (by rw [z];exact List.mem_cons_self))
 | x :: a,[],r,s,ha,_,h=>by
  simp only [List.nil_append,List.cons_append,List.cons.injEq] at h
  exact absurd h.1.symm (fun z=>ha (by rw [z];exact List.mem_cons_self))
 | x :: a,y :: b,r,s,ha,hb,h=>by
  simp only [List.cons_append,List.cons.injEq] at h
  obtain ⟨e1,e2⟩:=JP (fun z=>ha (List.mem_cons_of_mem _ z)) (fun z=>hb (List.mem_cons_of_mem _ z)) h.2
  exact ⟨by rw [h.1,e1],e2⟩
theorem YG {sep x y:Str} {r:List Str}:Str.join sep (x :: y :: r)=x ++ sep ++ Str.join sep (y :: r):=rfl
theorem xU {c:Nat} {x y:Str} {r:List Str}:(Str.join ⟨#[c]⟩ (x :: y :: r)).cps.toList=x.cps.toList ++ c :: (Str.join ⟨#[c]⟩ (y :: r)).cps.toList:=by
 rw [YG,W9,W9,List.append_assoc];rfl
theorem XO {c:Nat}:∀ {a b:List Str},a≠[]→b≠[]→(∀ p∈a,c ∉ p.cps.toList)→(∀ p∈b,c ∉ p.cps.toList)→Str.join ⟨#[c]⟩ a=Str.join ⟨#[c]⟩ b→a=b
 | [],_,h,_,_,_,_=>absurd rfl h
 | _,[],_,h,_,_,_=>absurd rfl h
 | [x],[y],_,_,_,_,e=>by
  have e:x=y:=e
  rw [e]
 | [x],y :: z :: s,_,_,ha,_,e=>by
  have e1:(Str.join ⟨#[c]⟩ _).cps.toList=(Str.join ⟨#[c]⟩ _).cps.toList:=congrArg (fun w:Str=>w.cps.toList) e
  rw [xU] at e1
  have e2:x.cps.toList=y.cps.toList ++ c :: (Str.join ⟨#[c]⟩ (z :: s)).cps.toList:=e1
  exact absurd (by rw [e2];simp) (ha x List.mem_cons_self)
 | x :: z :: r,[y],_,_,_,hb,e=>by
  have e1:(Str.join ⟨#[c]⟩ _).cps.toList=(Str.join ⟨#[c]⟩ _).cps.toList:=congrArg (fun w:Str=>w.cps.toList) e
  rw [xU] at e1
  have e2:x.cps.toList ++ c :: (Str.join ⟨#[c]⟩ (z :: r)).cps.toList=y.cps.toList:=e1
  exact absurd (by rw [← e2];simp) (hb y List.mem_cons_self)
 | x :: z :: r,y :: w :: s,_,_,ha,hb,e=>by
  have e1:(Str.join ⟨#[c]⟩ _).cps.toList=(Str.join ⟨#[c]⟩ _).cps.toList:=congrArg (fun w:Str=>w.cps.toList) e
  rw [xU,xU] at e1
  obtain ⟨e2,e3⟩:=JP (ha x List.mem_cons_self) (hb y List.mem_cons_self) e1
  rw [vQ e2,XO (a:=z :: r) (b:=w :: s) (by simp) (by simp) (fun p hp=>ha p (List.mem_cons_of_mem _ hp)) (fun p hp=>hb p (List.mem_cons_of_mem _ hp)) (vQ e3)]
theorem JQ (x y:Str):Txt.split x y≠[]:=by
 unfold Txt.split
 split
 ·simp
 ·split
  ·simp
  ·rw [StrLaws.partsBetween_eq]
   obtain ⟨p,r,e⟩:=StrLaws.partsFrom_ne x y.length 0 (Builtin.Str.occurrences x y 0 x.length (x.length + 1))
   rw [e];simp
theorem ZM {c:Nat} {ws:List Str} (h:ws≠[]) (hf:∀ p∈ws,c ∉ p.cps.toList):Txt.split (Str.join ⟨#[c]⟩ ws) ⟨#[c]⟩=ws :=
 XO (JQ _ _) h (StrLaws.split_free _ c) hf (StrLaws.join_split _ _)
theorem JR (sep:Str) (ls:List Str):Va sep ls=Str.join sep ls:=by
 match ls with
 | []=>exact StrLaws.glued_eq_join sep []
 | [p]=>rfl
 | a :: b :: r=>exact StrLaws.glued_eq_join sep (a :: b :: r)
end L2
namespace L2
open PySem PySem.Spec PyProof.Rows
abbrev zbv (K:PySem.W.Frag):RC:=fun xs H Q=>∃ (x:V) (p:Addr) (t:Value) (Ts:List String) (b:Bool),xs=[x,.ref p]∧j8 K H x t∧H p=some (.tup (Ts.map V.ty))∧PySem.W.kitAny K t (Ts.map Value.type)=some b∧Q (.bl b) H
section
variable {X:Cx}
end
section
variable {prog:Program} {w:World} {A:Around} {E:Value→Shared→Prop} {s:Shared}
theorem XQ {l:Addr} {items:Array Value} {n:Nat} {k:Int} {t:Tok} {v:Value} {Q:Unit→Shared→Prop} (hl:s.heap.get? l=some { cls:=.type "list",data:=.seq items n })
  (h0:k < 0) (h1:-(items.size:Int)≤k) (hfit:-(2 ^ 63)≤k) (hQ:Q () { s with heap:=s.heap.update l (Obj.mapSeq (·.setIfInBounds (k + items.size).toNat v)) }) :
  wpAny (model prog w) A (setItem (.ref l) (.int k t) v) Q E s:=by
 have hL:s.heap.IsList l items:=⟨_,hl,rfl,n,rfl⟩
 unfold setItem
 try with_reducible refine wpAny_holding ?_
 first | refine wpAny_bind (wpAny_pure ?_) | skip
 refine wpAny_bind (wpAny_sequenceKey hL.typeIs (by decide) ?_)
 refine wpAny_bind (wpAny_callSpecial?_slot (name:=Str.ofString "__setitem__") hL.typeIs slot_list_setitem
  (wpAny_call_entry slot_list_setitem hL.typeIs entry_list_setitem ?_ (args_list_setitem _ _ _)))
 show wpAny _ _ (Builtin.List.listSubscript? (.int k t) >>= _) _ _ s
 refine wpAny_bind (wpAny_listSubscript_int (fitsIndex_neg h0 hfit) ?_)
 clear hfit
 have hidx:=seqIndex_neg h0 h1
 have hx:items[(k + items.size).toNat]?=some (items[(k + items.size).toNat]'(by lia)):=Array.getElem?_eq_getElem (by lia)
 obtain ⟨j,rfl⟩:∃ j:Nat,k=Int.negSucc j:=by
  cases k with
  | ofNat n=>exact absurd h0 (Int.not_lt.mpr (Int.ofNat_nonneg n))
  | negSucc n=>exact ⟨n,rfl⟩
 show wpAny _ _ ((Builtin.List.listItems (.ref l) >>= fun xs=>pure ((seqIndex? (Int.negSucc j) xs.size).bind fun i=>xs[i]?.map (i,·))) >>= _) _ _ s
 refine wpAny_bind (wpAny_bind ?_)
 show wpAny _ _ (seqItems? (.ref l) >>= _) _ _ s
 refine wpAny_bind (wpAny_seqItems hl rfl (wpAny_pure (wpAny_pure ?_)))
 rw [hidx]
 simp only [Option.bind_some,hx,Option.map_some]
 refine wpAny_bind (wpAny_setSeqItemAt hl rfl ?_)
 first
  | exact wpAny_bind (wpAny_pure (wpAny_pure ⟨.none,rfl,wpAny_pure hQ⟩))
  | exact wpAny_pure ⟨.none,rfl,wpAny_pure hQ⟩
theorem XR {l:Addr} {items:Array Value} {n j:Nat} {k:Int} {t:Tok} {v:Value} {Q:Unit→Shared→Prop} (hl:s.heap.get? l=some { cls:=.type "list",data:=.seq items n })
  (h0:0≤k) (hfit:k < 2 ^ 63) (hkj:k.toNat=j) (hn:j < items.size) (hQ:Q () { s with heap:=s.heap.update l (Obj.mapSeq (·.setIfInBounds j v)) }) :
  wpAny (model prog w) A (setItem (.ref l) (.int k t) v) Q E s:=by
 have hL:s.heap.IsList l items:=⟨_,hl,rfl,n,rfl⟩
 unfold setItem
 try with_reducible refine wpAny_holding ?_
 first | refine wpAny_bind (wpAny_pure ?_) | skip
 refine wpAny_bind (wpAny_sequenceKey hL.typeIs (by decide) ?_)
 refine wpAny_bind (wpAny_callSpecial?_slot (name:=Str.ofString "__setitem__") hL.typeIs slot_list_setitem
  (wpAny_call_entry slot_list_setitem hL.typeIs entry_list_setitem ?_ (args_list_setitem _ _ _)))
 show wpAny _ _ (Builtin.List.listSubscript? (.int k t) >>= _) _ _ s
 refine wpAny_bind (wpAny_listSubscript_int (fitsIndex_of h0 hfit) ?_)
 clear hfit
 obtain ⟨j',rfl⟩:=Int.eq_ofNat_of_zero_le h0
 have hkj:j'=j:=hkj
 subst hkj
 have hx':items[j']?=some items[j']:=Array.getElem?_eq_getElem hn
 show wpAny _ _ ((seqItemAt l j' >>= fun r=>pure (r.map (j',·))) >>= _) _ _ s
 refine wpAny_bind (wpAny_bind (wpAny_seqItemAt hl rfl (wpAny_pure ?_)))
 rw [hx']
 refine wpAny_bind (wpAny_setSeqItemAt hl rfl ?_)
 first
  | exact wpAny_bind (wpAny_pure (wpAny_pure ⟨.none,rfl,wpAny_pure hQ⟩))
  | exact wpAny_pure ⟨.none,rfl,wpAny_pure hQ⟩
end
def JS (td ty tv:TE):TS:=fun D σ H=>tv σ H fun v H1=>td σ H1 fun x H2=>ty σ H2 fun y H3=>∃ a xs i j,x=.ref a∧y=.int i∧H3 a=some (.lst xs)∧ixN xs.length i=some j∧(-1000≤i∧i≤1000)∧D.nx σ (upd H3 a (.lst (xs.set j v)))
theorem XS {v:V} {u:Value} (r:RelV v u):∀ {xs:List V} {us:List Value},Vals xs us→∀ j:Nat,Vals (xs.set j v) (us.set j u)
 | _,_,.nil,_=>.nil
 | _,_,.cons _ t,0=>.cons r t
 | _,_,.cons a t,j + 1=>.cons a (XS r t j)
section
variable {X:Cx} {o i value:Expr} {pos pos':Pos} {td ty tv:TE}
theorem K0 (ho:PE X o td) (hi:PE X i ty) (hv:PE X value tv) (hs:swapsWith value (some (.Subscript o i pos')) pos.line X.env=pure false) :
  PS X (.Assign [.Subscript o i pos'] value pos) (JS td ty tv):=by
 intro pins s σ H D I h
 refine wpAny_Assign_Subscript (thn (hv pins s σ H _ I h) fun r s1 ⟨v,H1,I1,rv,q1⟩=>thn (ho pins s1 σ H1 _ I1 q1) fun u s2 ⟨x,H2,I2,rx,q2⟩=>thn (hi pins s2 σ H2 _ I2 q2) fun iv s3 ⟨y,H3,I3,ry,a,xs,k,j,ex,ey,ea,hj,hk,q3⟩=>?_) hs
 subst ex ey
 obtain rfl:u=Value.ref a:=rx
 obtain ⟨t,rfl⟩:=ry
 obtain ⟨z,its,n,rl,hl,e⟩:=I3.lstM ea
 have fin:SP X pins D .next { s3 with heap:=s3.heap.update a (Obj.mapSeq (·.setIfInBounds j r)) }:=⟨σ,_,I3.lset (its':=its.set j r) (t':=s3.toks) ea e (by simp) (XS rv rl _) (by rw [List.length_set];exact z),q3⟩
 unfold ixN at hj
 by_cases h0:0≤k
 ·rw [if_pos h0] at hj
  split at hj
  ·rename_i h1
   cases hj
   exact XR e h0 (by lia) rfl (by rw [List.size_toArray,← hl];lia) fin
  ·cases hj
 ·rw [if_neg h0] at hj
  split at hj
  ·rename_i h1
   cases hj
   refine XQ e (by lia) (by rw [List.size_toArray,← hl];exact h1) (by lia) ?_
   rw [List.size_toArray,← hl]
   exact fin
  ·cases hj
end
section
variable {X:Cx} {st:Stmt} {hs:List ExceptHandler} {pos:Pos} {tb:TS}
theorem K1 {h:ExceptHandler} (hb:PS X.nox st tb):PS X.nox (.Try [st] (h :: hs) [] [] pos) tb:=by
 intro pins s σ H D I h
 refine wpAny_Try_except (wpAny_execs_cons (wpAny_mono (hb pins s σ H D I h) (fun f s1 q=>?_) fun ev s1 q=>q.elim))
 cases f with
 | next=>exact wpAny_execs_nil (wpAny_execs_nil q)
 | ret v=>exact q
 | brk=>exact q
 | cont=>exact q
end
end L2
namespace L2
open PySem PySem.Spec PyProof.Rows
def zbw (K:PySem.W.Frag) (ta:TA):TI:=fun σ H R=>ta σ H fun vs H1=>∃ p q xs ys,vs=[.ref p,.ref q]∧xs.length=ys.length∧((SqL K H1 p xs∧SqL K H1 q ys∧R (zas K p q xs ys) H1)∨(SqT K H1 p xs∧SqT K H1 q ys∧R (Itz K p q xs ys) H1))
section
variable {X:Cx}
abbrev xJ (K:PySem.W.Frag):R2:=fun x y H Q=>∃ a b xs,x=.ref a∧y=.ref b∧SqL K H a xs∧SqL K H b []∧Q (.bl (!decide (xs=[]))) H
theorem kN (hu:X.A.units + 64 < cLine):OpR X (compareOp .NotEq) (xJ X.K):=by
 intro pins s σ H x y v u Q I rx ry h
 obtain ⟨a,b,xs,rfl,rfl,ha,hb,q⟩:=h
 by_cases e:xs=[]
 ·subst e
  exact Q0 hu pins s σ H _ _ v u Q I rx ry ⟨a,b,[],[],rfl,rfl,ha,hb,⟨rfl,rfl,rfl⟩,q⟩
 ·cases rx
  cases ry
  obtain ⟨us,r1,p1,_⟩:=I.list ha
  obtain ⟨ws,r2,p2,_⟩:=I.list hb
  cases r2
  have e1:=r1.length
  have e2:xs.length≠0:=fun z=>e (List.eq_nil_of_length_eq_zero z)
  rw [decide_eq_false e] at q
  exact PySem.SeqAt.RcNeAt.lists_lengths p1.isList p2.isList (by simp;intro z;rw [z] at e1;exact e2 e1) (by lia) X.prog X.w X.xe _ ⟨.bl true,H,I,rfl,q⟩
end
mutual
inductive JT (H:Hp):V→PyData→Prop
 | int (i:Int):JT H (.int i) (.int i)
 | str (x:Str):JT H (.str x) (.str x)
 | lst {a:Addr} {xs:List V} {ds:List PyData}:H a=some (.lst xs)→XT H xs ds→JT H (.ref a) (.list ds)
 | tup {a:Addr} {xs:List V} {ds:List PyData}:H a=some (.tup xs)→XT H xs ds→JT H (.ref a) (.tuple ds)
inductive XT (H:Hp):List V→List PyData→Prop
 | nil:XT H [] []
 | cons {x:V} {d:PyData} {xs:List V} {ds:List PyData}:JT H x d→XT H xs ds→XT H (x :: xs) (d :: ds)
end
end L2
namespace L2
open PySem
end L2
namespace L2
open PySem
abbrev Qv:RM:=KB
end L2
namespace L2
open PySem PySem.Spec PyProof.Rows
abbrev Q6:RM:=QN
abbrev zbx (K:PySem.W.Frag):RC:=fun xs H Q=>∃ a,∃ ns:List Int,xs=[.ref a]∧SqL K H a (ns.map V.int)∧Q (.int ns.sum) H
abbrev zby (K:PySem.W.Frag):RC:=fun xs H Q=>∃ a,∃ ns:List Int,xs=[.ref a]∧SqL K H a (ns.map V.int)∧0 < ns.length∧∀ M,M∈ns→(∀ x∈ns,x≤M)→Q (.int M) H
section
variable {X:Cx}
end
end L2
namespace L2
open PySem PySem.Spec PyProof.Rows
abbrev JU:RC:=fun xs H Q=>∃ i j,xs=[.int i,.int j]∧Q (.int (if j > i then j else i)) H
abbrev zbY (K:PySem.W.Frag) (neg:Bool):R2:=fun x y H Q=>∃ (p:Addr) (xs:List V) (d:PyData) (ds:List PyData),y=.ref p∧(SqL K H p xs∨SqT K H p xs)∧Dat K H x d∧DatAll K H xs ds∧(zN d=true∧d.depth≤50∧∀ e∈ds,zN e=true) ∧
 ∀ b:Bool,(b=true↔d∈ds)→Q (.bl (if neg then !b else b)) H
section
variable {X:Cx}
open Classical in
noncomputable def zbZ (K:PySem.W.Frag) (H:Hp) (d:PyData) (u:Value):Bool:=decide (∃ x,RelV x u∧Dat K H x d)
open Classical in
end
abbrev zbz (K:PySem.W.Frag):RC:=fun vs H Q=>∃ r xs its,vs=[.ref r]∧SqL K H r xs∧Paired (Y6 H) xs its∧(its.map (·.1)).Nodup∧its.length < 64 ∧
 ∀ l ys srt H',Same H H'→H l=none→H' l=some (.lst ys)→Paired (Y6 H') ys srt→WD srt→srt.Perm its→Q (.ref l) H'
section
variable {X:Cx}
end
def Cb (i:Int):Prop:=Builtin.Int.intBits i≤1048576
section
variable {X:Cx}
end
open Att PySem.W PySem.Calls in
theorem JV {l:PySem.W.OpenLaw} {n k:Nat} {q:Program} {loose:List Str} {XP:(Str→Option Value)→Heap→Prop} {YP:World→Heap→Prop} {d:DefRec} {K:Params→PySem.W.Frag} {CX:World→CXT} {sp:World→Sp} {x:Str}
  (hn:l.most=some n) (hn2:n≤sizeLine) (hdf:d.params.defaults=[]) (hr:Room k callerA) (hY:∀ (w:World) (h:Heap),YP w h→(K w.params).In h)
  (F:∀ (w:World) (mg:Str→Option Value) (fa:Addr) (h:Heap),(K w.params).In h→h.Ns mainGlobals mg→mg d.name=some (.ref fa) →
   ∃ fd:FuncData,(∀ (s:Shared) (u:Value),BindsTo s fd ⟨[u],[]⟩ [(x,u)]) ∧
    ∀ base:Heap,(K w.params).In base→base.Ns mainGlobals mg→FnOk l.prog w (K w.params) mg base (CX w) k fa fd [x] (sp w))
  (hsp:∀ (w:World) (H:Hp) (a:Addr) (ns:List Int),ns.length≤n→(∀ i∈ns,Cb i)→Wu H→SqL (K w.params) H a (ns.map V.int)→sp w [.ref a] H (fun v _=>v=.bl true) fun _ _ _=>False)
  (hCX:∀ (w:World) (H:Hp) (s:Shared) (e:Value) (s':Shared),CX w [] H s (fun _ _ _=>False) e s'→False) :
  PySem.W.WalkO q loose XP YP l.row.toRowW d [] (fun f vs=>PySem.call f vs):=by
 intro w s₀ s₁ mg mb G Y fa o pm cd doc dV kV ho hd hcd hD hmg hg args vals as hpre hlay hrd hwl hlo
 obtain rfl:dV=.none:=Dflts.none hD hdf
 obtain rfl:kV=.none:=Dflts.noKw hD
 obtain ⟨a,vs,ns,rfl,rfl,hobj,hints,hlen⟩:=Yv hn hpre hwl
 have hb:∀ i∈ns,Cb i:=fun i hi=>intBits_le_of_layable (layable_of_mem (lay0_int (layableW_item (layableW_arg hlay _ List.mem_cons_self) _ (List.mem_map.mpr ⟨i,hi,rfl⟩))) List.mem_cons_self)
 have KX:=hY w _ Y
 obtain ⟨fd,hbd,hF⟩:=F w mg fa _ KX G.T.g hmg
 refine enter_call (codeAny_mono (Xx KX G.T.g G.T.b G.T.builtins G.T.nolimit hg hobj hints (Nat.le_trans hlen hn2) hr hF hbd (fun H hO hS=>hsp w H a ns hlen hb hO hS) fun H e s'=>hCX w H s₁ e s') fun r s' hq=>?_)
 obtain ⟨rfl,h2,h3,h4⟩:=hq
 exact ⟨.inl ⟨.bool true,.bool true,[],rfl,fun _=>rfl,.bool true,Yw l _,fun _=>⟨List.Pairwise.nil,fun _ hm=>(nomatch hm)⟩⟩,h2,h3,h4⟩
theorem zag {l:PySem.W.OpenLaw} {n k:Nat} {q:Program} {loose:List Str} {XP:(Str→Option Value)→Heap→Prop} {YP:World→Heap→Prop} {d:DefRec} {K:Params→PySem.W.Frag} {sp:PySem.W.Frag→Sp} {x:Str}
  (hn:l.most=some n) (hn2:n≤sizeLine) (hdf:d.params.defaults=[]) (hr:Room k callerA) (hY:∀ (w:World) (h:Heap),YP w h→(K w.params).In h)
  (F:∀ (w:World) (mg:Str→Option Value) (fa:Addr) (h:Heap),(K w.params).In h→h.Ns mainGlobals mg→mg d.name=some (.ref fa) →
   ∃ fd:FuncData,(∀ (s:Shared) (u:Value),BindsTo s fd ⟨[u],[]⟩ [(x,u)]) ∧
    ∀ base:Heap,(K w.params).In base→base.Ns mainGlobals mg→FnOk l.prog w (K w.params) mg base (CX1 l.prog w) k fa fd [x] (sp (K w.params)))
  (hsp:∀ (K:PySem.W.Frag) (H:Hp) (a:Addr) (ns:List Int),ns.length≤n→(∀ i∈ns,Cb i)→Wu H→SqL K H a (ns.map V.int)→sp K [.ref a] H (fun v _=>v=.bl true) fun _ _ _=>False) :
  PySem.W.WalkO q loose XP YP l.row.toRowW d [] (fun f vs=>PySem.call f vs) :=
 JV (K:=K) (CX:=fun w=>CX1 l.prog w) (sp:=fun w=>sp (K w.params)) hn hn2 hdf hr hY F (fun w H a ns h1 hb h2 h3=>hsp (K w.params) H a ns h1 hb h2 h3) fun _ _ _ _ _ z=>by
  obtain ⟨_,_,_,_,_,_,_,_,_,_,y⟩:=z
  exact y
end L2
namespace L2
open PySem PySem.Spec PyProof.Rows
def Itk (a:Addr) (o:Obj) (kvs:List (Key × V)):It :=
 ⟨fun i H=>H a=some (.frz o (.dK kvs))∧i < kvs.length,fun i H x H'=>H'=H∧∃ k v,kvs[i]?=some (k,v)∧x=kV k,fun i H=>H a=some (.frz o (.dK kvs))∧kvs.length≤i⟩
section
variable {X:Cx}
def iDK (tl:TE):TI:=fun σ H R=>tl σ H fun x H1=>∃ a o kvs,x=.ref a∧H1 a=some (.frz o (.dK kvs))∧R (Itk a o kvs) H1
end
section
variable {σ:St} {H:Hp} {nx:St→Hp→Prop} {B:V→St→Hp→(St→Hp→Prop)→Prop}
end
end L2
namespace L2
open PySem PySem.Spec PyProof.Rows
def zau (H:Hp) (v:V) (q:Pl):Prop:=∃ p,v=.ref p∧H p=some (.tup [.str q.1,.int q.2])
abbrev zbA (K:PySem.W.Frag):RC:=fun vs H Q=>∃ r xs its,vs=[.ref r]∧SqL K H r xs∧Paired (zau H) xs its∧its.Nodup∧its.length < 64 ∧
 ∀ l ys srt H',Same H H'→H l=none→H' l=some (.lst ys)→Paired (zau H') ys srt→srt.Pairwise (fun a b=>Zi a b=true)→srt.Perm its→Q (.ref l) H'
section
variable {X:Cx}
end
end L2
namespace L2
open PySem PySem.Spec PyProof.Rows
section
variable {K:Type} [DecidableEq K]
end
section
variable {prog:Program} {w:World} {K:Type} [DecidableEq K] {knd:HeapKind prog w K} {A:Around} {E:Value→Shared→Prop} {s:Shared} {d a:Addr} {xs:List (K × Addr × Value)} {k:K}
end
section
variable {X:Cx} {pins:List (Addr × Obj)} {σ:St} {H:Hp} {s:Shared} {a b:Addr} {kvs:List (List Key × V)} {k:List Key} {A:Around} {E:Value→Shared→Prop}
end
def za6 (td ty:TE):TE:=fun σ H Q=>td σ H fun x H1=>∃ a,x=.ref a∧IsD H1 a∧ty σ H1 fun y H2=>∃ kvs k b v,H2 a=some (.dT kvs)∧y=.ref b∧H2 b=some (.tup (k.map kV))∧wn kvs k=some v∧Q v (upd H2 a (.dT (Yu kvs k)))
def za7 (td ty tx:TE):TE:=fun σ H Q=>td σ H fun x H1=>∃ a,x=.ref a∧IsD H1 a∧ty σ H1 fun y H2=>tx σ H2 fun z H3=>∃ kvs k b,H3 a=some (.dT kvs)∧y=.ref b∧H3 b=some (.tup (k.map kV))∧kvs.length < sizeLine ∧
 (∀ v,wn kvs k=some v→Q v H3)∧(wn kvs k=none→Q z (upd H3 a (.dT (qT kvs k z))))
section
variable {X:Cx} {o e f:Expr} {apos cpos:Pos} {td ty tx:TE}
end
abbrev Qw:RM:=fun x vs H Q=>∃ (l:Addr) (xs:List V) (k:Nat) (y:V),x=.ref l∧vs=[.int k,y]∧H l=some (.lst xs)∧k≤xs.length∧xs.length < 1000000∧Q .non (upd H l (.lst (xs.take k ++ y :: xs.drop k)))
abbrev Qx:RM:=fun x vs H Q=>∃ (l:Addr) (ns:List Int) (i:Int),x=.ref l∧vs=[.int i]∧H l=some (.lst (ns.map V.int))∧i∈ns∧Q .non (upd H l (.lst ((ns.erase i).map V.int)))
section
variable {X:Cx}
end
def za8 (H:Hp) (y:V) (kv:List Key × V):Prop:=∃ p,y=.ref p∧H p=some (.tup (kv.1.map kV))
abbrev zbB:RC:=fun vs H Q=>∃ a kvs,vs=[.ref a]∧H a=some (.dT kvs)∧∀ l ys,H l=none→Paired (za8 H) ys kvs→Q (.ref l) (upd H l (.lst ys))
abbrev zbC:RC:=fun vs H Q=>∃ a kvs,vs=[.ref a]∧H a=some (.dT kvs)∧Q (.int (kvs.length:Nat)) H
section
variable {X:Cx}
end
end L2
namespace L2
open PySem PySem.Spec PyProof.Rows
section
variable {X:Cx} {c:Expr} {s₁ s₂:Stmt} {tc:TT} {t1 t2:EXK→TS} {pos:Pos}
end
section
variable {X:Cx} {e:Expr} {te:TE} {a b:Str} {j k:Nat} {p1 p2 p3 p4:Pos}
end
end L2
namespace L2
open PySem PySem.Spec PyProof.Rows
section
variable {P:Program} {w:World} {K:PySem.W.Frag} {mg:Str→Option Value} {base:Heap} {x qual:Str} {st:Stmt} {f:Addr} {fd:FuncData} {N ps:List Str} {k:Nat} {sp:Sp}
end
section
variable {X:Cx} {o value:Expr} {f:Str} {pos pos':Pos} {ta:TE} {tx:EXK→TE}
def zbD (K:PySem.W.Frag) (ta:TE) (tx:EXK→TE) (f:Str) (EX:EXK):TS:=qS K ta (tx EX) f
end
def zbE (K:PySem.W.Frag) (tb:EXK→TS) (C1 C2:Addr) (th:TS):TS:=fun D σ H=>tb (fun cls σ1 H1=>∃ C,cls=.ref C∧PySem.W.exmAny K (.ref C) [.ref C1,.ref C2]=some true∧th D σ1 H1) D σ H
section
variable {X:Cx} {st b₀:Stmt} {suite:List Stmt} {tb:EXK→TS} {th:TS} {c1 c2:Str} {C1 C2:Addr} {np np2 hpos tpos pos:Pos} {x1:Nat}
end
section
variable {X:Cx} {CX:CXT} {k:Nat} {f C:Addr} {fd:FuncData} {ps:List Str} {sp:Sp} {dvs:List V} {E:XK} {m:Str} {pos apos:Pos} {o:Expr} {ta:TE}
end
end L2
namespace L2
open PySem PySem.Spec PyProof.Rows
abbrev zb0:R2:=fun x y H Q=>∃ a b p r,x=.ref a∧y=.ref b∧H a=some (.tup [.str p.1,.int p.2])∧H b=some (.tup [.str r.1,.int r.2])∧Q (.bl (Zi p r)) H
section
variable {X:Cx}
open PySem.SeqAt
open PySem.AutoSeq1 (wpAny_loadPart')
open PySem.MeetsSeq PySem.MeetsSeq2 PySem.MeetsSeq3
end
end L2
namespace L2
open PySem PySem.Spec PyProof.Rows
def za9 (C:Addr):TE:=fun _ H Q=>∀ x dx,H x=none→H dx=none→dx≠x→Q (.ref x) (upd (upd H dx (.own x)) x (.ins C dx []))
section
variable {X:Cx} {C:Addr} {x:Str} {p pos:Pos}
end
def zba (L:List (Addr × Sp)) (m:Str) (E:XK) (ta:TE) (t:TA):TE:=fun σ H Q=>ta σ H fun x H1=>∃ a dx fs C sp,x=.ref a∧H1 a=some (.ins C dx fs)∧fs.lookup m=none∧(C,sp)∈L∧t σ H1 fun vs H2=>sp (x :: vs) H2 Q E
section
variable {X:Cx} {CX:CXT} {E:XK} {m:Str} {pos apos:Pos} {e o:Expr} {es:List Expr} {ta:TE} {t:TA} {L:List (Addr × Sp)} {C:Addr} {sp:Sp}
end
structure zbb (K:PySem.W.Frag) (C:Addr):Prop where
 cl:Cls K C
 ha:PySem.W.findIn K (.ref C) "__class__"=some (some (.builtin "object.__class__"))
 hn:PySem.W.specialIn K (.builtin "object.__class__") "__get__"=some (some (.builtin "getset_descriptor.__get__"))
 tk:PySem.W.takesIn K (.builtin "object.__class__")=some true
 hm:PySem.W.mroIn K C (.type "object")=some true
abbrev zb1 (K:PySem.W.Frag):RC:=fun xs H Q=>∃ a C dx fs D b,xs=[.ref a,.ref D]∧H a=some (.ins C dx fs)∧zbb K C∧PySem.W.kitOne K (.ref C) (.ref D)=some b∧Q (.bl b) H
section
variable {X:Cx}
end
end L2
namespace L2
open PySem PySem.Spec PyProof.Rows
abbrev zb2 (K:PySem.W.Frag):RC:=fun xs H Q=>∃ (a:Addr) (bs:List Bool),xs=[.ref a]∧SqL K H a (bs.map V.bl)∧Q (.bl (bs.any id)) H
section
variable {X:Cx}
end
def zbF (te ts:TE):TE:=fun σ H Q=>te σ H fun x H1=>ts σ H1 fun k H2=>∃ z y,x=.str z∧k=.int (-1)∧z.length≤sizeLine∧(∀ u,Txt.sliceBy z none none (-1,u)=y)∧Q (.str y) H2
section
variable {X:Cx} {e st:Expr} {p2 pos:Pos} {te ts:TE}
end
section
variable {P:Program} {w:World} {A:Around} {E:Value→Shared→Prop} {s:Shared}
end
def zbG (K:PySem.W.Frag) (ta:TA):TE:=fun σ H Q=>ta σ H fun vs H1=>∃ a xs,vs=[.ref a]∧SqL K H1 a xs∧∀ l,H1 l=none→Q (.ref l) (upd H1 l (.lst xs.reverse))
section
variable {X:Cx} {a:Expr} {ta:TA} {p p2 pos pos2:Pos}
end
end L2
namespace L2
open PySem PySem.Spec PyProof.Rows
abbrev zbH:RC:=fun vs H Q=>∃ a kvs,vs=[.ref a]∧H a=some (.dK kvs)∧Q (.int (kvs.length:Nat)) H
section
variable {X:Cx}
end
end L2
namespace L2
open PySem PySem.Spec PyProof.Rows
section
variable {X:Cx} {CX:CXT} {k:Nat} {f C:Addr} {fd:FuncData} {ps:List Str} {sp:Sp} {dvs:List V} {E:XK} {x:Str} {p pos:Pos} {e:Expr} {es:List Expr} {t:TA}
end
section
variable {X:Cx} {e:Expr} {te:TE} {a:Str} {j:Nat} {p1 p2 p3:Pos}
end
section
variable {X:Cx} {st b₀:Stmt} {suite:List Stmt} {tb:EXK→TS} {th1:TS} {c1:Str} {C1:Addr} {np hpos pos:Pos}
end
end L2
namespace L2
open PySem PySem.Spec PyProof.Rows
section
variable {X:Cx} {tg:Expr}
def zb3 (K:PySem.W.Frag) (tl:TE):TI:=fun σ H R=>tl σ H fun x H1=>∃ a,x=.ref a∧(((∃ xs,SqL K H1 a xs)∧R (Itl K a) H1)∨((∃ xs,SqT K H1 a xs)∧R (Itt K a) H1))
end
end L2
namespace HT
open PySem PySem.Spec PyProof.Rows
section
variable {prog:Program} {w:World} {A:Around} {E:Value→Shared→Prop} {s:Shared}
theorem getItem_tuple_all {t sl:Addr} {items:Array Value} {vl vu:Value} {lo hi:Option Int} {Q:Value→Shared→Prop} (ht:IsTup s.heap t items) (hs:s.heap.IsSliceOf sl vl vu .none) (pl:IsPart vl lo) (pu:IsPart vu hi)
  (hw:sIx items.size 0 lo=0∧sIx items.size items.size hi=items.size) (h:Q (.ref t) s):wpAny (model prog w) A (getItem (.ref t) (.ref sl)) Q E s:=by
 obtain ⟨os,hos,hcs,hds⟩:=id hs
 have hTs:s.TypeIs (.ref sl) "slice":=⟨os,hos,hcs⟩
 unfold getItem
 try with_reducible refine wpAny_holding ?_
 first | refine wpAny_bind (wpAny_pure ?_) | skip
 refine wpAny_bind (wpAny_sequenceKey ht.typeIs (by decide) ?_)
 refine wpAny_bind (wpAny_callSpecial?_slot (name:=Str.ofString "__getitem__") ht.typeIs PyProof.Rows.slot_tuple_getitem
  (wpAny_call_entry PyProof.Rows.slot_tuple_getitem ht.typeIs entry_tuple_getitem ?_ (args_tuple_getitem _ _)))
 show wpAny _ _ (Builtin.Tuple.tupleItemsOf (.ref t) >>= _) _ _ s
 refine wpAny_bind (tupleItemsOf_ ht ?_)
 refine wpAny_bind (wpAny_typeOf hTs ?_)
 rw [if_pos (by decide)]
 refine wpAny_bind (vx hs pl pu ?_)
 have hyes:(((sIx items.size 0 lo:Nat):Int) == 0 && (1:Int) == 1 && (sIx items.size items.size hi - sIx items.size 0 lo) == items.size)=true:=by
  rw [hw.1,hw.2]
  simp
 show wpAny _ _ (if (((sIx items.size 0 lo:Nat):Int) == 0 && (1:Int) == 1 && (sIx items.size items.size hi - sIx items.size 0 lo) == items.size)=true then _ else _) _ _ s
 rw [if_pos hyes]
 unfold Builtin.Tuple.tupleIsExact
 refine wpAny_bind (wpAny_bind (wpAny_typeOf ht.typeIs (wpAny_pure ?_)))
 rw [if_pos (by decide)]
 exact wpAny_bind (wpAny_rule (wpAny_pure ⟨_,rfl,wpAny_pure h⟩))
end
end HT
namespace L2
open PySem PySem.Spec PyProof.Rows
section
variable {X:Cx}
def YH (K:PySem.W.Frag):V→Option Int→Option Int→Hp→VK→Prop:=fun x lo hi H Q=>∃ a xs,x=.ref a∧SqT K H a xs ∧
 ((HT.sIx xs.length 0 lo=0∧HT.sIx xs.length xs.length hi=xs.length)→Q (.ref a) H)∧(¬ (HT.sIx xs.length 0 lo=0∧HT.sIx xs.length xs.length hi=xs.length)→∀ p,H p=none→Q (.ref p) (upd H p (.tup (j9 xs lo hi))))
theorem Ve:SlR X (YH X.K):=by
 intro pins s σ H x v vl vu lo hi sl Q I rx hs pl pu h
 obtain ⟨a,xs,rfl,hx,q1,q2⟩:=h
 by_cases hw:HT.sIx xs.length 0 lo=0∧HT.sIx xs.length xs.length hi=xs.length
 ·cases rx
  obtain ⟨its,r,ht,hz⟩:=I.tuple hx
  have hlen:its.toArray.size=xs.length:=by rw [List.size_toArray];exact r.length.symm
  refine ⟨"tuple",_,PyProof.Rows.slot_tuple_getitem.lookup,ht.typeIs,?_⟩
  exact HT.getItem_tuple_all ht hs pl pu (by rw [hlen];exact hw) ⟨.ref a,H,I,rfl,q1 hw⟩
 ·exact QL pins s σ H _ v vl vu lo hi sl Q I rx hs pl pu ⟨a,xs,rfl,hx,hw,q2 hw⟩
end
end L2
namespace L2
open PySem PySem.Spec PyProof.Rows
def kO:List Value→Bool
 | .ref _ :: r=>kO r
 | l=>l == qM
theorem WH (self:Value):∀ (l:List Value),kO l=true→refuseLoop self "__setattr__" l=pure ():=by
 intro l
 induction l with
 | nil=>intro h;exact absurd h (by decide)
 | cons a r ih =>
  intro h
  unfold kO at h
  split at h
  ·rename_i e;cases e;rw [refuseLoop_ref];exact ih h
  ·rw [beq_iff_eq.mp h];exact PySem.F.store_ValueError.passes self
structure ExS (K:PySem.W.Frag) (C:Addr):Prop extends ExC K C where
 sa:PySem.W.findIn K (.ref C) "__setattr__"=some (some (.builtin "object.__setattr__"))
 ov:((PySem.W.clsIn K C).any fun cd=>kO cd.mro)=true
 hd:PySem.W.hasDictIn K C=true
abbrev jp (C:Addr) (od:Option Addr) (t:Addr):Obj:={ cls:=.ref C,dict:=od,data:=.fields #[.ref t,.none,.none,.none,.bool false,.none] }
section
variable {prog:Program} {w:World} {A:Around} {E:Value→Shared→Prop} {K:PySem.W.Frag} {x C t:Addr} {s:Shared} {name:Str} {v:Value}
open PySem.Builtin PySem.Builtin.ObjectAttr in
theorem K2 {Q:Unit→Shared→Prop} (X:K.In s.heap) (c:ExS K C) (n:NoAttr K C name) (hx:s.heap.get? x=some (jp C none t))
  (h:∀ h',h'.get? x=some (jp C (some s.heap.objs.size) t)→h'.Ns1 s.heap.objs.size (fun y=>if y=name then some v else none)→(∀ b o,b≠x→s.heap.get? b=some o→h'.get? b=some o)→Q () { s with heap:=h',toks:=s.toks + 2 }) :
  wpAny (model prog w) A (setAttr (.ref x) name v) Q E s:=by
 have J:PySem.W.InstAt s.heap x (jp C none t) C none:=⟨hx,rfl,rfl,trivial⟩
 refine PySem.W.set_plain X J c.sa ?_
 have SF:=PySem.F.store_object
 obtain ⟨cd,hc,ho⟩:=PySem.W.any_some c.ov
 obtain ⟨cd',hc',hd'⟩:=PySem.W.any_some c.hd
 obtain rfl:cd=cd':=Option.some.inj (hc.symm.trans hc')
 have sub:PySem.W.Looks (model prog w) s.heap (isInstance (.ref x) (.type "object")) true:=J.type.andThen (PySem.W.looks_mroIn X c.ob)
 have hm:PySem.W.Looks (model prog w) s.heap (mroOf (.ref C)) cd.mro:=(PySem.W.looks_clsIn X hc).andThen .now
 refine codeAny_call_builtin SF.slot.plain SF.entry (@PySem.W.check_slot (model prog w) _ _ { s with toks:=s.toks + 1 } "object.__setattr__" "object" "__setattr__" (.ref x) [.str name s.toks,v] [] _ SF.kind SF.split sub (SF.args (.ref x) (.str name s.toks) v) ?_)
 rw [PySem.W.osa_eq,refuse_eq]
 refine wpAny_bind (wpAny_bind (PySem.W.Looks.here (s:={ s with toks:=s.toks + 1 }) J.type (wpAny_bind (PySem.W.Looks.here (s:={ s with toks:=s.toks + 1 }) hm ?_))))
 rw [WH _ _ ho]
 refine wpAny_pure (wpAny_bind (PySem.W.Looks.here (s:={ s with toks:=s.toks + 1 }) J.type (wpAny_bind (PySem.W.Looks.here (s:={ s with toks:=s.toks + 1 }) (PySem.W.looks_findIn X n) (wpAny_bind (wpAny_pure ?_))))))
 show wpAny _ _ (storeInOwnDict (.ref x) (.ref C) (.str name s.toks) name v _) _ _ _
 refine wpAny_bind (wpAny_pure (wpAny_bind (wpAny_bind (wpAny_loadPart hx (wpAny_bind (PySem.W.Looks.here (s:={ s with toks:=s.toks + 1 }) (PySem.W.looks_clsIn X hc) ?_))))))
 rw [hd']
 have xs:x≠s.heap.objs.size:=Nat.ne_of_lt (Heap.lt_size hx)
 have x1:(s.heap.push { cls:=.type "dict",data:=.dict #[] }).get? x=some (jp C none t):=Heap.get?_push_of_some _ hx
 refine wpAny_bind (wpAny_alloc' (wpAny_bind (wpAny_update' x1 (wpAny_pure ?_))))
 have gd:((s.heap.push { cls:=.type "dict",data:=.dict #[] }).update x fun o=>{ o with dict:=some s.heap.objs.size }).get? s.heap.objs.size=some { cls:=.type "dict",data:=.dict #[] } :=
  (Heap.get?_update_ne _ _ _ _ xs.symm).trans (Heap.get?_push_at rfl rfl)
 have nd:((s.heap.push { cls:=.type "dict",data:=.dict #[] }).update x fun o=>{ o with dict:=some s.heap.objs.size }).Ns s.heap.objs.size (fun _=>none):=⟨_,#[],_,gd,rfl,fun e he=>absurd he (by simp),fun _=>rfl⟩
 show wpAny _ _ (storeInDict s.heap.objs.size (.str name s.toks) name v) _ _ _
 unfold storeInDict newKeyGuard
 refine wpAny_bind (wpAny_pure (wpAny_bind (wpAny_nsSet1 (Heap.Ns1.of_empty nd) fun h' hn hs=>?_)))
 obtain ⟨oD,esD,epD,hoD,hdD,hcD⟩:=hn.count (Within.cons name v Within.nil)
 refine wpAny_bind (wpAny_lookBehind hoD (by rw [hdD];exact pastItsLine_dict (Nat.le_trans hcD (by rw [List.length_cons,List.length_nil,sizeLine_eq];lia))) (wpAny_pure (h h' ?_ hn fun b o nb q=>?_)))
 ·exact (hs.2 x xs).trans (Heap.get?_update_self _ x1 rfl)
 ·exact (hs.2 b (Nat.ne_of_lt (Heap.lt_size q))).trans ((Heap.get?_update_ne _ _ _ _ nb).trans (Heap.get?_push_of_some _ q))
theorem K3 {ox od:Obj} {ex:Bool} {Q:Value→Shared→Prop} (X:K.In s.heap) (c:ExS K C) (n:NoAttr K C name) (J:PySem.W.InstAt s.heap x ox C (some od)) (hl:PySem.W.lookIn name od=some (some v)) (hv:PySem.W.handedIn v=true)
  (hq:Q v { s with toks:=s.toks + 1 }):wpAny (model prog w) A (getAttr (.ref x) name ex) Q E s:=by
 obtain ⟨hh,gs,dr,tt,os⟩:=s
 have t0:=J.type (M:=model prog w)
 have t1:=PySem.W.looks_findIn (M:=model prog w) X c.ga
 have t2:=PySem.W.looks_findIn (M:=model prog w) X c.gx
 have t3:=PySem.W.looks_mroIn (M:=model prog w) X c.be
 have t4:=PySem.W.looks_find (M:=model prog w) X J (PySem.W.findObj_own c.hd n rfl hl)
 have t6:bindSpecial (.builtin "BaseException.__getattribute__") (.ref x)=pure (.builtin "BaseException.__getattribute__",[.ref x]):=F.excAttr_ValueError.ga.bind (.ref x)
 have b2:(Value.builtin "BaseException.__getattribute__" == Value.builtin "object.__getattribute__")=false:=by decide +kernel
 unfold getAttr getAttrBy
 refine wpAny_bind (wpAny_mkText (wpAny_holding (wpAny_bind (t0.at (wpAny_bind (t1.at ?_))))))
 simp only [b2,Bool.and_false,Bool.false_eq_true,if_false]
 unfold getAttrByItsOwn hookBefore
 refine wpAny_bind (t2.at ?_)
 unfold callGetattribute boundAndCalled
 have b3:onTheHeap (.builtin "BaseException.__getattribute__")=false:=rfl
 simp only [b3,Bool.and_false,Bool.false_eq_true,if_false,Option.toList,t6]
 refine wpAny_bind (wpAny_attempt (wpAny_holding (wpAny_bind (wpAny_pure (wpAny_call ?_)))))
 refine codeAny_call_builtin F.excAttr_ValueError.ga.plain F.entry_bexc_ga ?_
 have k1:builtinKind "BaseException.__getattribute__"=some .slot:=by decide +kernel
 have k2:splitId "BaseException.__getattribute__"=some ("BaseException","__getattribute__"):=by decide +kernel
 have k3:=F.args_bexc_ga (.ref x) (.str name tt)
 simp only [checkBuiltinCall,k1,k2]
 refine wpAny_bind (?_:wpAny _ _ (isInstance (.ref x) (.type "BaseException")) _ _ _)
 have k4:PySem.W.Looks (model prog w) hh (isInstance (.ref x) (.type "BaseException")) true:=t0.andThen t3
 refine k4.at ?_
 simp only [Bool.not_true,Bool.false_eq_true,if_false,List.cons_append,List.nil_append]
 refine wpAny_of_eq (show _=pure () from k3) ?_
 refine wpAny_bind (wpAny_pure (wpAny_bind (wpAny_pure (wpAny_bind (t0.at (wpAny_bind (t4.at (wpAny_pure ?_))))))))
 exact PySem.W.handed_on hv hq
end
def exN (e C:Addr):HO:=.ext fun h=>∃ t,h.get? e=some (jp C none t)
def exM (e C d:Addr):HO:=.ext fun h=>∃ t,h.get? e=some (jp C (some d) t)
def exF (e C d:Addr):HO:=.ext fun h=>∃ o vs,h.get? e=some o∧o.cls=.ref C∧o.dict=some d∧o.data=.fields vs
theorem VE {H:Hp} {e d:Addr} {a b c:HO}:upd (upd (upd H e a) d b) e c=upd (upd H d b) e c:=by
 funext x
 by_cases h:x=e
 ·subst h;rw [zc,zc]
 ·rw [zk h,zk h]
  by_cases h2:x=d
  ·subst h2;rw [zc,zc]
  ·rw [zk h2,zk h2,zk h]
section
variable {X:Cx} {pins:List (Addr × Obj)} {σ:St} {H:Hp} {s:Shared} {a C d:Addr} {f:Str}
theorem Inv.setN {h':Heap} {y:V} {u:Value} {t t':Addr} (I:Inv X pins σ H s) (ea:H a=some (exN a C)) (hd:d=s.heap.objs.size) (hx:h'.get? a=some (jp C (some d) t)) (hn:h'.Ns1 d (fun z=>if z=f then some u else none)) (ry:RelV y u)
  (kp:∀ b o,b≠a→s.heap.get? b=some o→h'.get? b=some o):Inv X pins σ (upd (upd H d (.xd [(f,y)])) a (exM a C d)) { s with heap:=h',toks:=t' }:=by
 obtain ⟨φ,ep⟩:∃ φ,exN a C=.ext φ:=⟨_,rfl⟩
 rw [ep] at ea
 have hd0:H d=none:=by rw [hd];exact I.fresh
 have nd:∀ b o,s.heap.get? b=some o→b≠d:=fun b o q z=>by rw [z,hd] at q;exact absurd (Heap.lt_size q) (Nat.lt_irrefl _)
 have hH:∀ b u,H b=some u→b≠a→upd (upd H d (.xd [(f,y)])) a (exM a C d) b=some u:=fun b u q n=>by
  rw [zk n,zk (fun z=>by rw [z,hd0] at q;cases q)];exact q
 refine I.un (h':=h') (t':=t') ⟨fun b o q n _ _=>kp b o (fun z=>by rw [z,ea] at n;cases n) q,fun b o q n _ _=>⟨o.slots,kp b o (fun z=>by rw [z,ea] at n;cases n) q⟩,fun b o q n _=>?_,fun b o q _=>?_,fun b xs q=>hH b _ q (fun z=>by rw [z,ea] at q;cases q),fun b o u q=>hH b _ q (fun z=>by rw [z,ea] at q;cases q),fun b ps q=>⟨#[],by rw [Array.append_empty];exact hH b _ q (fun z=>by rw [z,ea] at q;cases q)⟩⟩ fun b u q=>?_
 ·rw [zk (fun z=>by rw [z,ea] at n;cases n),zk (nd b o q)];exact n
 ·by_cases hb:b=a
  ·subst hb;exact ⟨_,hx⟩
  ·exact ⟨o,kp b o hb q⟩
 ·by_cases hb:b=a
  ·subst hb
   rw [zc] at q;cases q
   exact ⟨⟨t,hx⟩,⟨_,hx⟩,fun h1 h2 ⟨t,z⟩ k=>⟨t,k _ z⟩⟩
  ·rw [zk hb] at q
   by_cases hb2:b=d
   ·subst hb2
    rw [zc] at q;cases q
    refine ⟨_,hn,fun g=>?_⟩
    by_cases hg:g=f
    ·subst hg;rw [if_pos rfl,List.lookup_cons_self];exact ry
    ·rw [if_neg hg]
     show RelO (match g == f with | true=>some y | false=>List.lookup g []) none
     rw [show (g == f)=false from beq_eq_false_iff_ne.mpr hg]
     trivial
   ·rw [zk hb2] at q
    refine (I.hok b u q).stay (fun c v hc z=>kp c v ?_ z) (fun c z=>hH c _ z fun w=>by rw [w,ea] at z;cases z) fun c xs z=>hH c _ z fun w=>by rw [w,ea] at z;cases z
    rcases hc with rfl | hc
    ·exact hb
    ·intro w;rw [w,ea] at hc;cases hc
theorem Inv.untrack {e:Addr} {φ:Heap→Prop} (I:Inv X pins σ (upd H e (.ext φ)) s) (hn:H e=none):Inv X pins σ H s:=by
 have B:=I.base
 have no:∀ b,upd H e (.ext φ) b=none→H b=none:=fun b q=>by
  by_cases hb:b=e
  ·rw [hb];exact hn
  ·rw [zk hb] at q;exact q
 have so:∀ b u,upd H e (.ext φ) b=some u→(∀ ψ,u≠.ext ψ)→H b=some u:=fun b u q n=>by
  by_cases hb:b=e
  ·subst hb;rw [zc] at q;cases q;exact absurd rfl (n φ)
  ·rw [zk hb] at q;exact q
 refine ⟨I.ok,I.os,I.bare,⟨B.keep,B.slot,fun b o q n x=>no b (B.free b o q n x),B.there,fun b xs q=>so b _ (B.tups b xs q) (fun _ z=>by cases z),fun b o u q=>so b _ (B.frzs b o u q) (fun _ z=>by cases z),fun b ps q=>?_⟩,I.loc,I.cell,no _ I.free,fun x c q=>no _ (I.freeC x c q),fun p q=>?_,fun b u q=>?_,I.len⟩
 ·obtain ⟨m,z⟩:=B.tbls b ps q
  exact ⟨m,so b _ z fun _ z=>by cases z⟩
 ·obtain ⟨z1,z2,z3,z4,z5⟩:=I.pin p q
  exact ⟨z1,no _ z2,z3,z4,z5⟩
 ·have hb:b≠e:=fun z=>by rw [z,hn] at q;cases q
  exact (I.hok b u (by rw [zk hb];exact q)).stay (fun c v _ z=>z) (fun c z=>so c _ z fun _ z=>by cases z) fun c xs z=>so c _ z fun _ z=>by cases z
end
section
variable {X:Cx} {o e value:Expr} {f:Str} {pos pos':Pos} {ta tv:TE} {C:Addr}
def JW (C:Addr) (ta tv:TE) (f:Str):TS:=fun D σ H=>tv σ H fun y H1=>ta σ H1 fun x H2=>∃ a,x=.ref a∧H2 a=some (exN a C)∧∀ d,H2 d=none→d≠a→D.nx σ (upd (upd H2 d (.xd [(f,y)])) a (exM a C d))
theorem K4 (c:ExS X.K C) (n:NoAttr X.K C f) (ha:PE X o ta) (hv:PE X value tv) (hs:swapsWith value (some (.Attribute o f pos')) pos.line X.env=pure false):PS X (.Assign [.Attribute o f pos'] value pos) (JW C ta tv f):=by
 intro pins s σ H D I h
 refine plainObj_wpAny_Assign_Attribute (thn (hv pins s σ H _ I h) fun u s1 ⟨y,H1,I1,ry,q⟩=>thn (ha pins s1 σ H1 _ I1 q) fun ov s2 ⟨x,H2,I2,rx,a,ex,ea,q2⟩=>?_) hs
 subst ex
 obtain rfl:ov=Value.ref a:=rx
 obtain ⟨⟨t,hx⟩,_⟩:=I2.hok a _ ea
 exact K2 I2.kIn c n hx fun h' hx' hn kp=>⟨σ,_,I2.setN ea rfl hx' hn ry kp,q2 _ I2.fresh fun z=>absurd (Heap.lt_size hx) (by rw [← z];exact Nat.lt_irrefl _)⟩
def qO (K:PySem.W.Frag) (ta:TE) (f:Str):TE:=fun σ H Q=>ta σ H fun x H1=>∃ a C d fs v,x=.ref a∧H1 a=some (exF a C d)∧ExS K C∧NoAttr K C f∧H1 d=some (.xd fs)∧fs.lookup f=some v∧Q v H1
theorem K6 (he:PE X e ta) (hb:attributeBase e f X.env (eval e X.env)=eval e X.env):PE X (.Attribute e f pos) (qO X.K ta f):=by
 intro pins s σ H Q I h
 refine WY hb (thn (he pins s σ H _ I h) fun u s1 ⟨x,H1,I1,rx,a,C,d,fs,v,ex,ea,c,n,ed,l,q⟩=>?_)
 subst ex
 obtain rfl:u=Value.ref a:=rx
 obtain ⟨⟨o,vs,z1,z2,z3,z4⟩,_⟩:=I1.hok a _ ea
 obtain ⟨mA,ns,r⟩:=I1.hok d _ ed
 obtain ⟨od,ho,hl⟩:=Yn ns
 obtain ⟨u,hu,ru⟩:=RelO.some_of (v:=v) (o:=mA f) (by rw [← l];exact r f)
 obtain ⟨oc,odi,oda,osl⟩:=o
 cases z2;cases z3;cases z4
 exact K3 I1.kIn c n ⟨z1,rfl,rfl,ho⟩ (by rw [hl,hu]) (Yo ru) ⟨v,H1,I1.tok _,ru,q⟩
end
section
variable {prog:Program} {w:World} {A:Around} {E:Value→Shared→Prop} {h:Heap} {g:Array GenState} {d:Drawn} {t:Nat} {os:OsState}
variable {nm qn:Str} {C N:Addr} {bs bm bmB:List Value} {hdct:Bool} {sn:List Str} {sub:List Value} {ab:Bool} {col:Option Bool} {dd:Option Addr} {k0 k1 k2 k3 k5:Option Value} {B nid iid:String}
abbrev kj (h:Heap) (C:Addr) (rest:List Value):Heap:=(h.push { cls:=.type "tuple",data:=.seq rest.toArray }).push (jp C none h.objs.size)
theorem JX (F:ExcBaseFacts B nid iid bmB) (T:OwnTail h bmB bm) {mN:Str→Option Value} {rest:List Value} {fI:Addr} {oI:Obj} {Q:Fin→Shared→Prop} (hC:h.get? C=some (excClassObj nm qn C N bs bm hdct sn sub ab col dd k0 k1 k2 k3 k5 nid)) (hn:h.Ns N mN) (hi:mN "__init__"=some (.ref fI))
  (hf:h.get? fI=some oI) (hc:oI.cls=.type "function") (hz:rest.length≤sizeLine) (hq:wpAny (model prog w) A (call (.ref fI) (.ref (h.objs.size + 1) :: rest)) (fun r s'=>r=.none∧Q (.done (.ret (.ref (h.objs.size + 1)))) s') E ⟨kj h C rest,g,d,t,os⟩) :
  wpAny (model prog w) A (Builtin.«type.__call__» ⟨.ref C :: rest,[]⟩) Q E ⟨h,g,d,t,os⟩:=by
 repeat (first | with_reducible refine wpAny_loadPart_at hC ?_ | with_reducible refine wpAny_madeBy_exc hC ?_ | wp_step)
 refine codeAny_call_builtin_code (Code.quiet_builtin _ F.quiet) (wpAny_check_new_subT F T hC (codeAny_exc_new_subT F T hC ?_ hz));show wpAny _ _ _ _ _ _
 have kp:∀ b o,h.get? b=some o→(kj h C rest).get? b=some o:=fun b o q=>Heap.get?_push_of_some _ (Heap.get?_push_of_some _ q)
 have C1:=kp _ _ hC
 have n1:(kj h C rest).Ns N mN:=let ⟨o,es,ep,q,r⟩:=hn;⟨o,es,ep,kp _ _ q,r⟩
 have ge:(kj h C rest).get? (h.objs.size + 1)=some (jp C none h.objs.size):=by heap_get
 have cc:(Value.ref C :: bm).contains (.ref C)=true:=by simp
 have T1:=T.keeps kp
 unfold isInstance;repeat (first | with_reducible refine wpAny_loadPart_at ge ?_ | (with_reducible refine wpAny_isSubtype_exc C1 ?_;rw [cc]) | wp_step)
 show wpAny _ _ (typeLookup (.ref C) _) _ _ _
 refine wpAny_typeLookup_tail C1 n1 T1 F.mroIs F.init.lookup ?_;rw [hi]
 refine wpAny_holding (wpAny_bind ?_);unfold bindSpecial
 refine wpAny_bind (wpAny_typeOf (T:="function") ⟨_,kp _ _ hf,hc⟩ ?_);rw [if_pos (by decide)]
 refine wpAny_pure (wpAny_bind (wpAny_mono hq (fun r s' hr=>?_) fun _ _ x=>x))
 obtain ⟨rfl,hQ⟩:=hr
 wp_walk
 exact hQ
theorem JY (F:ExcBaseFacts B nid iid bmB) (T:OwnTail h bmB bm) {mN:Str→Option Value} {rest:List Value} {fI:Addr} {oI:Obj} {Q:Value→Shared→Prop} (hC:h.get? C=some (excClassObj nm qn C N bs bm hdct sn sub ab col dd k0 k1 k2 k3 k5 nid)) (hn:h.Ns N mN) (hi:mN "__init__"=some (.ref fI))
  (hf:h.get? fI=some oI) (hc:oI.cls=.type "function") (hz:rest.length≤sizeLine) (hq:wpAny (model prog w) (A.under (.builtin "type.__call__" ⟨.ref C :: rest,[]⟩)) (call (.ref fI) (.ref (h.objs.size + 1) :: rest)) (fun r s'=>r=.none∧Q (.ref (h.objs.size + 1)) s') E ⟨kj h C rest,g,d,t,os⟩) :
  wpAny (model prog w) A (call (.ref C) rest) Q E ⟨h,g,d,t,os⟩:=by
 have f1:=tc_lookup;have f2:=tc_bind (.ref C)
 have hT:(⟨h,g,d,t,os⟩:Shared).TypeIs (.ref C) "type":=⟨_,hC,rfl⟩
 refine wpAny_call (codeAny_of_tree ?_);show wpAny _ _ (callAny (.ref C) _) _ _ _
 repeat (any_goals (first | assumption | with_reducible refine wpAny_loadPart_at hC ?_ | wp_step))
 refine ⟨rfl,codeAny_call_builtin_at (Code.quiet_builtin _ (by decide +kernel)) entry_typeCall (wpAny_check_type_call_sub hC (JX F T hC hn hi hf hc hz ?_))⟩
 exact hq
theorem VF {env:Env} {s:Shared} {x:Sem Value} {M:Model} {Q:Flow→Shared→Prop} (hb:bm.contains (.type "BaseException")=true) (hh:A.handled=none)
  (hx:wpAny M A x (fun v s1=>∃ e t od,v=.ref e∧s1.heap.get? C=some (excClassObj nm qn C N bs bm hdct sn sub ab col dd k0 k1 k2 k3 k5 nid)∧s1.heap.get? e=some (jp C od t)∧E (.ref e) s1) E s):wpAny M A (raiseStmt env (some x) none) Q E s:=by
 have cB:(Value.ref C :: bm).contains (.type "BaseException")=true:=by rw [List.contains_cons,hb,Bool.or_true]
 unfold raiseStmt;refine wpAny_bind (wpAny_mono hx (fun v s1 z=>?_) fun _ _ x=>x)
 obtain ⟨e,t,od,rfl,hC,he,hE⟩:=z
 obtain ⟨hp,g,d,tk,os⟩:=s1
 repeat (first | with_reducible refine wpAny_loadPart_at he ?_ | with_reducible refine wpAny_loadPart_at hC ?_ | (with_reducible refine wpAny_isSubtype_exc hC ?_;rw [cB]) | wp_step)
 exact wpAny_raiseNew_none hh hE
end
theorem zav {K:PySem.W.Frag} {h:Heap} {N:Addr} {mg:Str→Option Value} {n:Str} {v:Value} (X:K.In h) (G:h.Ns N mg) (e:PySem.W.nsIn K N n=some (some v)):mg n=some v:=by
 obtain ⟨o,es,ep,ho,hd,_,hf⟩:=G;unfold PySem.W.nsIn at e;split at e
 ·rename_i c d es' n' sl q;have z:=X _ _ q;rw [ho] at z;cases z;cases hd;split at e
  ·rename_i en he;cases e;rw [← hf];unfold nsFind findBy;rw [← Array.find?_toList,he];rfl
  ·split at e <;> cases e
 ·cases e
theorem Q7 {K:PySem.W.Frag} {h:Heap} {f:Addr} (X:K.In h) (q:PySem.W.isFn K (.ref f)=true):∃ o,h.get? f=some o∧o.cls=.type "function":=by
 have e:=beq_iff_eq.mp q
 obtain ⟨o,z,w⟩:=Option.map_eq_some_iff.mp (show (K.lookup f).map (·.cls)=some (.type "function") from e)
 exact ⟨o,X _ _ z,w⟩
def XU (K:PySem.W.Frag) (C fI:Addr):Bool:=match K.lookup C with
 | some ⟨.type "type",_,.cls c,k⟩=>(match c.mro,k.toList with
  | .ref C' :: bm,[_,_,_,_,some (.builtin n),_]=>C' == C && n == wU && !c.hasDel && PySem.W.tailIn K qM bm && PySem.W.nsOkIn K c.ns && PySem.W.nsIn K c.ns "__init__" == some (some (.ref fI))
  | _,_=>false)
 | _=>false
theorem K7 {K:PySem.W.Frag} {h:Heap} {C fI:Addr} (X:K.In h) (q:XU K C fI=true) :
  ∃ bm N nm qn bs hdct sn sub ab col dd k0 k1 k2 k3 k5 mN,h.get? C=some (excClassObj nm qn C N bs bm hdct sn sub ab col dd k0 k1 k2 k3 k5 wU)∧h.Ns N mN∧mN "__init__"=some (.ref fI)∧OwnTail h qM bm:=by
 unfold XU at q
 split at q
 case h_2=>cases q
 rename_i dd cd sl ho
 split at q
 case h_2=>cases q
 rename_i C' bm k0 k1 k2 k3 n k5 hm hs
 rw [Bool.and_eq_true,Bool.and_eq_true,Bool.and_eq_true,Bool.and_eq_true,Bool.and_eq_true] at q
 obtain ⟨⟨⟨⟨⟨q1,q2⟩,q3⟩,q4⟩,q5⟩,q6⟩:=q
 obtain rfl:C'=C:=by simpa using q1
 obtain rfl:n=wU:=by simpa using q2
 obtain ⟨nm,bs,mro,ns,qn,hd,sn,sub,ab,col,del⟩:=cd
 have hdel:del=false:=by simpa using q3
 have hm':mro=.ref C' :: bm:=hm
 subst hdel hm'
 have hsl:sl=#[k0,k1,k2,k3,some (.builtin wU),k5]:=by
  apply Array.ext'
  exact hs
 subst hsl
 have G:h.Ns ns (h.nsMap ns):=.of_isNs (PySem.W.isNs_of_in X q5)
 exact ⟨bm,ns,nm,qn,bs,hd,sn,sub,ab,col,dd,k0,k1,k2,k3,k5,_,X _ _ ho,G,zav X G (by simpa using q6),PySem.W.tail_of_in X q4⟩
def Vf (X:Cx) (E:XK):Prop:=∀ (pins:List (Addr × Obj)) (σ:St) (H:Hp) (s:Shared) (e:Addr) (oe:Obj) (vs:Array Value) (a0:Value),Inv X pins σ H s→s.heap.get? e=some oe→oe.data=.fields vs→vs[1]?=some .none→vs[0]?=some a0→H e=none→X.s₀.heap.get? e=none→E oe.cls oe.dict H→X.xe (.ref e) s
theorem jq {P:Program} {w:World} {K:PySem.W.Frag} {mg:Str→Option Value} {base:Heap} {N:List Str} {qual:Str} {scope:Scope} {f:Addr} {cd:Value} {A:Around} {outer:List Env} {s₀:Shared} {H₀:Hp} {E:XK} :
  Vf (jU (CX1 P w) P w K mg base N qual scope f cd A outer s₀ H₀ E) E:=by
 intro pins σ H s e oe vs a0 I h1 h2 h3 h4 h5 h6 h7
 exact YB (X:=jU (CX1 P w) P w K mg base N qual scope f cd A outer s₀ H₀ E) ⟨rfl,rfl⟩ rfl I h1 h2 h3 h4 h5 h6 h7
def WI (C:Addr) (f:Str):Sp:=fun vs H Q _=>∃ x y,vs=[.ref x,y]∧H x=some (exN x C)∧∀ d,H d=none→d≠x→Q .non (upd (upd H d (.xd [(f,y)])) x (exM x C d))
def yN (C:Addr) (f:Str) (ta:TA) (E:XK):TS:=fun _ σ H=>ta σ H fun vs H1=>∃ y,vs=[y]∧∀ d,H1 d=none→E (.ref C) (some d) (upd H1 d (.xd [(f,y)]))
section
variable {X:Cx} {x f:Str} {C fI:Addr} {fd:FuncData} {ps:List Str} {k:Nat} {np cpos pos:Pos} {e₀:Expr} {ta:TA} {E:XK}
theorem vz (hc:X.calm=true) (q:XU X.K C fI=true) (kp:PySem.W.keepIn X.K (.ref C)=true) (fn:PySem.W.isFn X.K (.ref fI)=true) (F:FnOk X.prog X.w X.K X.mg X.base (CX1 X.prog X.w) k fI fd ps (WI C f)) (hr:Room (k + 1) X.A) (hb:Binds X.K fd ps [])
  (hx:Vf X E) (hg:Gl X x) (hm:X.mg x=some (.ref C)) (ha:PA X [e₀] ta)
  (he:starEach [e₀] X.env=[(false,eval e₀ X.env)]:=by rfl) (hp:(backTo cpos (starEach ([]:List Expr) X.env)).any (·.1)=false:=by rfl) (hd:(x == ("__debug__":Str))=false:=by decide) :
  PS X (.Raise (some (.Call (.Name x np) [e₀] [] cpos)) none pos) (yN C f ta E):=by
 intro pins s σ H D I h
 obtain ⟨tl,N,nm,qn,bs,hdct,sn,sub,ab,col,dd,k0,k1,k2,k3,k5,mN,hC,hN,hi,T⟩:=K7 I.ok.mod.kin q
 rw [arm_exec_Raise]
 refine wpAny_bind (wpAny_standAt (VF (C:=C) (nm:=nm) (qn:=qn) (N:=N) (bs:=bs) (bm:=tl) (hdct:=hdct) (sn:=sn) (sub:=sub) (ab:=ab) (col:=col) (dd:=dd) (k0:=k0) (k1:=k1) (k2:=k2) (k3:=k3) (k5:=k5) (nid:=wU)
  (T.hasType PySem.F.excBase_ValueError.hasBase) (I.ok.hd hc) (wpAny_bind (wpAny_mono (wpAny_Call_Name_kw (vd I hg hm ?_ hd)) (fun v s3 z=>wpAny_bind (wpAny_standAt (wpAny_pure z))) fun _ _ z=>z))))
 refine PySem.W.callWith_K (h₀:=X.base) I.ok.mod.kin kp (thn (ha cpos pins s σ H _ I h) fun us s1 ⟨vs,H1,I1,r,y,ev,q1⟩=>⟨I1.kIn,?_⟩) he hp
 subst ev
 obtain ⟨u,rfl,ru⟩:∃ u,us=[u]∧RelV y u:=by
  cases r with
  | cons a b=>cases b;exact ⟨_,rfl,a⟩
 obtain ⟨oI,hfI,hfc⟩:=Q7 I1.kIn fn
 obtain ⟨hh,gs,dr,tt,os⟩:=s1
 refine JY PySem.F.excBase_ValueError (T.keeps I1.bk) (I1.bk _ _ hC) (hN.keeps I1.bk) hi hfI hfc (by simp [sizeLine_eq]) ?_
 have ge:(kj hh C [u]).get? (hh.objs.size + 1)=some (jp C none hh.objs.size):=by heap_get
 have he1:H1 (hh.objs.size + 1)=none:=I1.hok.fresh (Nat.le_succ _)
 have I2:Inv X pins σ (upd H1 (hh.objs.size + 1) (exN (hh.objs.size + 1) C)) ⟨kj hh C [u],gs,dr,tt,os⟩ :=
  I1.laid (a:=hh.objs.size + 1) (o:=exN (hh.objs.size + 1) C) (t':=tt) (fun b o q=>Heap.get?_push_of_some _ (Heap.get?_push_of_some _ q)) (Nat.le_succ _) ⟨⟨_,ge⟩,⟨_,ge⟩,fun h1 h2 ⟨t,z⟩ k=>⟨t,k _ z⟩⟩
 have hsp:WI C f [.ref (hh.objs.size + 1),y] (upd H1 (hh.objs.size + 1) (exN (hh.objs.size + 1) C)) (fun v H2=>v=.non∧∃ d,H1 d=none∧d≠hh.objs.size + 1∧H2=upd (upd (upd H1 (hh.objs.size + 1) (exN (hh.objs.size + 1) C)) d (.xd [(f,y)])) (hh.objs.size + 1) (exM (hh.objs.size + 1) C d)) E0 :=
  ⟨_,y,rfl,zc,fun d h1 h2=>⟨rfl,d,by rw [zk h2] at h1;exact h1,h2,rfl⟩⟩
 have r2:Vals [V.ref (hh.objs.size + 1),y] [Value.ref (hh.objs.size + 1),u]:=.cons rfl (.cons ru .nil)
 have hl:([Value.ref (hh.objs.size + 1),u] ++ []).length=ps.length:=by rw [← F.len _ _ _ _ hsp];rfl
 refine wpAny_call (codeAny_mono (F.run _ X.stack _ _ ⟨[Value.ref (hh.objs.size + 1),u],[]⟩ [Value.ref (hh.objs.size + 1),u] _ _ E0 (hr.make C [u] []) (I2.env0.make C [u] []) (hb _ [Value.ref (hh.objs.size + 1),u] I2.kIn hl) r2 hsp) fun r s' hq=>?_)
 cases r with
 | error ev=>obtain ⟨_,_,_,_,_,_,_,_,_,_,z⟩:=hq;exact z.elim
 | ok fl =>
  cases fl with
  | ret u' =>
   obtain ⟨v,H',I3,rv,ev,d,hd0,dn,eH⟩:=I2.after hq
   subst ev eH
   obtain rfl:u'=Value.none:=rv
   rw [VE] at I3
   have n3:upd H1 d (.xd [(f,y)]) (hh.objs.size + 1)=none:=by rw [zk (Ne.symm dn)];exact he1
   obtain ⟨⟨t,ht⟩,_⟩:=I3.hok (hh.objs.size + 1) _ zc
   refine ⟨rfl,_,t,some d,rfl,I3.bk _ _ hC,ht,?_⟩
   exact hx pins σ _ s' _ _ _ (.ref t) (I3.untrack n3) ht rfl rfl rfl n3 (Heap.get?_none_of_le (Nat.le_trans I1.sz (Nat.le_succ _))) (q1 d hd0)
  | next=>exact False.elim hq
  | brk=>exact False.elim hq
  | cont=>exact False.elim hq
end
abbrev EXD:=Value→Option Addr→St→Hp→Prop
def PXD (X:Cx) (pins:List (Addr × Obj)) (EX:EXD):Value→Shared→Prop:=fun ev s'=>∃ e cls σ s1 H1 H' od,ev=.ref e∧Inv X pins σ H1 s1∧Inv X pins σ H' s'∧XF s1.heap s'.heap H' e cls od∧EX cls od σ H'
def zaw (X:Cx) (ex:Expr) (t:EXD→TE):Prop :=
 ∀ (pins:List (Addr × Obj)) (s:Shared) (σ:St) (H:Hp) (Q:VK) (EX:EXD),Inv X pins σ H s→t EX σ H Q→wpAny (model X.prog X.w) X.A (eval ex X.env) (EP X pins σ Q) (PXD X pins EX) s
def zax (X:Cx) (st:Stmt) (t:EXD→TS):Prop :=
 ∀ (pins:List (Addr × Obj)) (s:Shared) (σ:St) (H:Hp) (D:j4) (EX:EXD),Inv X pins σ H s→t EX D σ H→wpAny (model X.prog X.w) X.A (exec st X.env) (SP X pins D) (PXD X pins EX) s
section
variable {X:Cx} {k:Nat} {f:Addr} {fd:FuncData} {ps:List Str} {sp:Sp} {x:Str} {p pos:Pos} {e:Expr} {es:List Expr} {t:TA}
def vh (sp:Sp) (ta:TA) (EX:EXD):TE:=fun σ H Q=>ta σ H fun vs H1=>sp (vs ++ []) H1 Q fun cls od H2=>EX cls od σ H2
theorem VG (F:FnOk X.prog X.w X.K X.mg X.base (CX1 X.prog X.w) k f fd ps sp) (hr:Room k X.A) (hg:Gl X x) (hm:X.mg x=some (.ref f)) (hk:PySem.W.keepIn X.K (.ref f)=true) (hb:Binds X.K fd ps []) (ha:PA X.nox (e :: es) t)
  (hdb:(x == ("__debug__":Str))=false:=by decide) (he:starEach (e :: es) X.env=(false,eval e X.env) :: starEach es X.env:=by rfl) (hpl:(backTo pos (starEach es X.env)).any (·.1)=false:=by rfl):zaw X (.Call (.Name x p) (e :: es) [] pos) (vh sp t):=by
 intro pins s σ H Q EX I h
 refine wpAny_Call_Name_kw (vd I hg hm ?_ hdb)
 refine PySem.W.callWith_K (h₀:=X.base) I.ok.mod.kin hk (wpAny_mono (ha pos pins s σ H _ (I.wish _) h) (fun us s1 ⟨vs,H1,I1',r,q⟩=>⟨I1'.kIn,?_⟩) fun _ _ z=>False.elim z) he hpl
 have I1:=I1'.unwish
 have r2:Vals (vs ++ []) (us ++ []):=r.append .nil
 have hl:(us ++ []).length=ps.length:=by rw [← r2.length];exact F.len _ _ _ _ q
 refine wpAny_call (codeAny_mono (F.run X.A X.stack s1 H1 ⟨us,[]⟩ (us ++ []) (vs ++ []) _ _ hr I1.env0 (hb s1 us I1.kIn hl) r2 q) fun r s' hq=>?_)
 cases r with
 | error ev =>
  obtain ⟨e,cls,od,H',rfl,os,bare,un,hok,xf,hE⟩:=hq
  exact ⟨e,cls,σ,s1,H1,H',od,rfl,I1,I1.call' (ch:=[]) os un hok bare (fun b z=>nomatch z),xf,hE⟩
 | ok fl =>
  cases fl with
  | ret u=>exact I1.after hq
  | next=>exact False.elim hq
  | brk=>exact False.elim hq
  | cont=>exact False.elim hq
end
section
variable {X:Cx} {st b₀:Stmt} {suite:List Stmt} {tb:EXD→TS} {th:TS} {c n:Str} {C0:Addr} {i:Nat} {np hpos pos:Pos} {ex:Expr} {tx:EXD→TE}
def vi (tx:EXD→TE) (EX:EXD):TS:=fun D σ H=>tx EX σ H fun _ H1=>D.nx σ H1
theorem VH (he:zaw X ex tx) (hs:swapsWith ex none pos.line X.env=pure false:=by rfl):zax X (.Expr ex pos) (vi tx):=by
 intro pins s σ H D EX I h
 exact wpAny_Expr_any (thn (he pins s σ H _ EX I h) fun v s1 ⟨x,H1,I1,r1,q1⟩=>⟨σ,H1,I1,q1⟩) I.quiet hs
def qP (K:PySem.W.Frag) (tb:EXD→TS) (C0:Addr) (i:Nat) (th:TS):TS:=fun D σ H=>tb (fun cls od σ1 H1=>∃ C d,cls=.ref C∧od=some d∧PySem.W.exmOne K (.ref C) (.ref C0)=some true ∧
 ∀ e,H1 e=none→th (XG i D) (σ1.set i (some (.ref e))) (upd H1 e (exF e C d))) D σ H
theorem K8 (hst:X.stack=X.env :: X.outer∧X.env.frame=some X.env.locals) (hex:X.ex=[]) (hN:X.N.Nodup) (hb:zax X st tb) (hg:Gl X c) (hm:X.mg c=some (.ref C0)) (hi:X.N[i]?=some n) (hl:X.env.scope.names.lookup n=some .local)
  (hs:∀ e,PSs (X.sub e) (b₀ :: suite) th) (hdb:(c == ("__debug__":Str))=false:=by decide):PS X (.Try [st] [.ExceptHandler (some (.Name c np)) (some n) (b₀ :: suite) hpos] [] [] pos) (qP X.K tb C0 i th):=by
 intro pins s σ H D I h
 refine wpAny_Try_except (wpAny_execs_cons (wpAny_mono (hb pins s σ H D _ I h) (fun f s1 q=>?_) fun ev s1 q=>?_))
 ·cases f with
  | next=>exact wpAny_execs_nil (wpAny_execs_nil q)
  | ret v=>exact q
  | brk=>exact q
  | cont=>exact q
 obtain ⟨e,cls,σ1,s0,H0,H1,od,rfl,I0,I1,xf,C,d,rfl,rfl,hx,hth⟩:=q
 obtain ⟨oe,vs,a0,T,oT,ts,h1,h2,h3,h4,h5,h6,h7,h8,h9,h10,h11,h12,h13⟩:=xf
 have fr:s1.heap.FunFrames (PySem.W.hideAll s1.heap (frs X.stack ++ [e,T])) (X.env :: X.outer):=by
  have q:=PySem.W.funFrames_hide (as:=frs X.stack ++ [e,T]) I1.stack fun env he a ha=>List.mem_append_left _ (List.mem_filterMap.mpr ⟨env,he,ha⟩)
  rw [hst.1] at q ⊢
  exact q
 have two:∀ b∈[e,T],s0.heap.get? b=none∧H1 b=none:=fun b z=>by
  have z':b=e∨b=T:=by simpa using z
  rcases z' with rfl | rfl
  ·exact ⟨h9,h11⟩
  ·exact ⟨h10,h12⟩
 have hcs:∀ b∈[e,T],H1 b=none∧X.s₀.heap.get? b=none:=fun b z=>⟨(two b z).2,jR (I0.there0 hex) (two b z).1⟩
 have hcp:∀ b∈[e,T],∀ p∈X.pn ++ pins,p.1≠b:=fun b z p hp q=>by
  have:=(I0.pin p hp).1
  rw [q,(two b z).1] at this;cases this
 refine Jl (base:=PySem.W.hideAll s1.heap (frs X.stack ++ [e,T])) (by rw [I1.ok.frames,hst.1]) fr hst.2 ⟨oe,vs,T,oT,ts,h1,⟨h2,h13⟩,h3,h4,PySem.W.hideAll_none _ (List.mem_append_right _ (by simp)),h5,h6,h7,h8⟩ (fun b o q=>PySem.W.of_hideAll _ q) (PySem.W.hideAll_none _ (List.mem_append_right _ (by simp))) fun g4 ⟨a1,a2,a3,sm4⟩=>?_
 refine QV (s:={ s1 with heap:=g4 }) a1 a2 a3 fun g5 ⟨b1,b2,b3,sm5⟩=>?_
 have hB:∀ {g:Heap},(PySem.W.hideAll s1.heap (frs X.stack ++ [e,T])).StaysIn g→∀ b o,s1.heap.get? b=some o→b ∉ frs X.stack→b ∉ [e,T]→g.get? b=some o :=
  fun {g} k b o q n1 n2=>k b o (PySem.W.hideAll_get _ q fun z=>(List.mem_append.mp z).elim n1 n2)
 have I5:Inv X pins σ1 H1 { s1 with heap:=g5 }:=I1.land hex hcs hcp (hB b1) (sm4.trans sm5)
 have K5:=I5.kIn
 refine wpAny_handleBy_cons (codeAny_handlers_test ?_) (by intro q;cases q)
 refine vd (X:=X.sub e) (I5.toSub (e:=e)) hg hm ?_ hdb
 have ty5:PySem.W.Looks (model X.prog X.w) g5 (typeOf (.ref e)) (.ref C):=by
  obtain ⟨o,_,_,_,_,p1,p2,_⟩:=b3
  exact p2.1.1 ▸ (PySem.W.Looks.ld p1).andThen .now
 refine (PySem.W.exm_one K5 ty5 hx).here ?_
 refine codeAny_handlers_suite_as ?_
 refine QV (s:={ s1 with heap:=g5 }) b1 b2 b3 fun g6 ⟨c1,c2,c3,sm6⟩=>?_
 have I6:Inv X pins σ1 H1 { s1 with heap:=g6 }:=I1.land hex hcs hcp (hB c1) ((sm4.trans sm5).trans sm6)
 have neL:e≠X.env.locals:=fun z=>by
  obtain ⟨m,⟨o,_,_,ho,_⟩,_⟩:=I0.loc
  rw [← z,h9] at ho;cases ho
 have neC:∀ x c,X.env.cells.lookup x=some c→c≠e:=fun x c q z=>by
  obtain ⟨v,o,ho,_⟩:=I0.cell x c q
  rw [z,h9] at ho;cases ho
 obtain ⟨o6,vs6,_,_,_,p6,q6,r6,_⟩:=c3
 have I7:Inv X pins σ1 (upd H1 e (exF e C d)) { s1 with heap:=g6 }:=I6.track h11 (hcs e (by simp)).2 hex neL neC (hcp e (by simp))
  ⟨⟨o6,vs6,p6,q6.1.1,q6.2,r6⟩,⟨o6,p6⟩,fun a b ⟨o,vs,z1,z2⟩ k=>⟨o,vs,k o z1,z2⟩⟩
 refine kz (X:=X) (v:=.ref e) I7 hN hi (.inl hl) rfl (fun s8 I8=>?_) (.inr hl)
 refine wpAny_mono (hs e pins s8 _ _ _ I8.toSub (hth e h11)) (fun f s9 q=>?_) fun _ _ z=>False.elim z
 have hcls:(X.env.scope.kind == .class || (X.env.scope.kind == .module && X.env.locals != X.env.globals))=false:=by rw [I.ok.kind];rfl
 have go:∀ {σ9:St} {H9:Hp} {R:Shared→Prop},Inv (X.sub e) pins σ9 H9 s9→(∀ s',Inv X pins (σ9.set i none) H9 s'→R s') →
   wpAny (model X.prog X.w) X.A (do bindName X.env n .none;unbindBehindTheSuite X.env n hpos) (fun _ s3=>R s3) X.xe s9:=fun {σ9 H9 R} J k=>by
  have J':Inv X pins σ9 H9 s9:=Inv.ofSub (J:=I) J
  obtain ⟨m,hm9,hl9⟩:=J'.loc
  exact wpAny_nameGoes_keeps (Q:=fun _ s3=>R s3) hl hm9 hcls fun h' v a b=>k _ (J'.forget hN hi hm9 hl9 a b)
 cases f with
 | next =>
  obtain ⟨σ9,H9,J,z⟩:=q
  exact go (R:=fun s3=>SP X pins D .next s3) J fun s' J'=>⟨_,_,J',z⟩
 | brk =>
  obtain ⟨σ9,H9,J,z⟩:=q
  exact go (R:=fun s3=>SP X pins D .brk s3) J fun s' J'=>⟨_,_,J',z⟩
 | cont =>
  obtain ⟨σ9,H9,J,z⟩:=q
  exact go (R:=fun s3=>SP X pins D .cont s3) J fun s' J'=>⟨_,_,J',z⟩
 | ret u =>
  obtain ⟨v,σ9,H9,J,r,z⟩:=q
  exact go (R:=fun s3=>SP X pins D (.ret u) s3) J fun s' J'=>⟨v,_,_,J',r,z⟩
end
def xV (K:PySem.W.Frag):R2:=fun x y H Q=>∃ a b xs ys,x=.ref a∧y=.ref b∧SqT K H a xs∧SqT K H b ys∧xs.length + ys.length≤sizeLine∧(xs=[]→Q (.ref b) H)∧(xs≠[]→ys=[]→Q (.ref a) H)∧(xs≠[]→ys≠[]→∀ p,H p=none→Q (.ref p) (upd H p (.tup (xs ++ ys))))
section
variable {X:Cx}
theorem kP:OpR X (binaryOp .Add) (xV X.K):=by
 intro pins s σ H x y v u Q I rx ry h
 obtain ⟨a,b,xs,ys,rfl,rfl,ha,hb,hz,q0,q1,q2⟩:=h
 by_cases hx:xs=[]
 ·cases rx;cases ry
  obtain ⟨its,r1,p1,_⟩:=I.tuple ha
  obtain ⟨jts,r2,p2,_⟩:=I.tuple hb
  have hv:its=[]:=r1.nil_iff.mpr hx
  obtain ⟨⟨ca,da,ta,la⟩,oa,ea,na,fa⟩:=id p1
  obtain ⟨⟨cb,db,tb,lb⟩,ob,eb,nb,fb⟩:=id p2
  simp only at ea fa eb fb
  subst ea fa eb fb
  exact concat_meets ⟨_,oa,rfl⟩ ⟨_,ob,rfl⟩ noFill_tuple_add seq_tuple_add PySem.F.slot_tuple_add PySem.F.entry_tuple_add (PySem.F.args_tuple_add_2 _ _) (tuple_addW0 a b its.toArray jts.toArray na nb da db la lb (by simp [hv])) ⟨oa,ob,.ref b,H,I,rfl,q0 hx⟩
 ·exact YS pins s σ H _ _ v u Q I rx ry ⟨a,b,xs,ys,rfl,rfl,ha,hb,hx,hz,q1 hx,q2 hx⟩
end
end L2
namespace K15
open PySem L2
theorem jqa {α:Type} {a:α} {l m:List α}:a :: l ++ m=a :: (l ++ m):=rfl
theorem jqb {α:Type} (l:List α):[] ++ l=l:=rfl
theorem jqc {α:Type} (l:List α):l ++ []=l:=List.append_nil l
theorem jqd {α:Type} {a:α} {l:List α}:(a :: l)[0]?=some a:=rfl
theorem jqe {α:Type} {a:α} {l:List α} {i:Nat}:(a :: l)[i + 1]?=l[i]?:=rfl
theorem jqf {α:Type} (a b:α):(some a=some b)=(a=b):=Option.some.injEq a b
theorem jqg {α:Sort _} {p:α→Prop} {a:α}:(∃ x,a=x∧p x)↔p a:=exists_eq_left'
theorem jqh {α:Sort _} {p:α→Prop} {a:α}:(∃ x,x=a∧p x)↔p a:=exists_eq_left
theorem jqi (a b:Int):(V.int a=V.int b)=(a=b):=V.int.injEq a b
theorem jqj (a b:Addr):(V.ref a=V.ref b)=(a=b):=V.ref.injEq a b
theorem jqk (a b:Str):(V.str a=V.str b)=(a=b):=V.str.injEq a b
theorem jql (a b:Bool):(V.bl a=V.bl b)=(a=b):=V.bl.injEq a b
theorem jqm (a b:String):(V.ty a=V.ty b)=(a=b):=V.ty.injEq a b
theorem jqn {α:Type} (a:α) (l:List α) (b:α) (m:List α):(a :: l=b :: m)=(a=b∧l=m):=List.cons.injEq a l b m
theorem jqo {α:Sort _} {p:α→Prop} {b:Prop}:(∃ x,b∧p x)↔b∧(∃ x,p x):=exists_and_left
theorem jqp {α:Type} {x:α} {l:List α} {a:α}:(x :: l).set 0 a=a :: l:=rfl
theorem jqq {α:Type} {x:α} {l:List α} {i:Nat} {a:α}:(x :: l).set (i + 1) a=x :: l.set i a:=rfl
theorem jqr {p:Prop} [Decidable p]:(decide p=true)=p:=decide_eq_true_eq
theorem jqs (b:Bool):((!b)=true)=(b=false):=Bool.not_eq_true' b
theorem jqt {p:Prop} {_:Decidable p}:decide p=false↔¬p:=decide_eq_false_iff_not
theorem jqu:(false=true)=False:=Bool.false_eq_true
def top (i:Nat):Stmt:=PySem.Challenge.pw_forerun_k15_blocks_in_blocks.main.body.getD i (.Pass ⟨0,0,0,0⟩)
abbrev yJ:Stmt:=top 34
abbrev xW:Stmt:=top 35
abbrev yQ:Stmt:=top 36
abbrev xi:Stmt:=top 37
abbrev xX:Stmt:=top 38
abbrev yK:Stmt:=xh (top 31) 0
abbrev yo:Stmt:=xh (top 4) 0
abbrev yw:Stmt:=xh (top 31) 4
abbrev yx:Stmt:=xh (top 31) 5
abbrev z6:Stmt:=xh (top 31) 2
abbrev yp:Stmt:=xh (top 31) 3
abbrev yy:Stmt:=xh (top 31) 1
abbrev yz:Stmt:=xh (top 27) 0
abbrev zW:Stmt:=xh (top 27) 1
abbrev xY:Stmt:=top 19
abbrev zX:Stmt:=xh (top 27) 3
abbrev yR:Stmt:=top 21
abbrev xZ:Stmt:=top 8
abbrev yO:Stmt:=top 10
abbrev wL:Stmt:=top 9
abbrev xj:Stmt:=top 11
abbrev x5:Stmt:=top 12
abbrev wM:Stmt:=top 20
abbrev xA:Stmt:=top 22
abbrev zY:Stmt:=xh (top 27) 4
abbrev yb:Stmt:=xh (top 27) 2
abbrev xk:Stmt:=top 28
abbrev xB:Stmt:=top 29
abbrev z7:Stmt:=xh (top 27) 5
abbrev vA:Stmt:=top 30
abbrev qg:Stmt:=top 32
abbrev yS:Stmt:=top 40
abbrev x6:Stmt:=top 39
abbrev ZN:Stmt:=top 41
theorem qV:zC ["script","k"] ["script","k"] (zi yJ):=⟨rfl,rfl,rfl,by decide +kernel,rfl,by decide +kernel,by decide +kernel⟩
theorem XV:zC ["kind","turned"] ["kind","turned"] (zi xW):=⟨rfl,rfl,rfl,by decide +kernel,rfl,by decide +kernel,by decide +kernel⟩
theorem ZO:zC ["kind","turned"] ["kind","turned"] (zi yQ):=⟨rfl,rfl,rfl,by decide +kernel,rfl,by decide +kernel,by decide +kernel⟩
theorem sc__law_heads:zC ["cells","spot","heads","turned","k","kind","worth"] ["cells","spot"] (zi xi):=⟨rfl,rfl,rfl,by decide +kernel,rfl,by decide +kernel,by decide +kernel⟩
theorem sc__law_bad:zC ["heads","turned","k"] ["heads"] (zi xX):=⟨rfl,rfl,rfl,by decide +kernel,rfl,by decide +kernel,by decide +kernel⟩
theorem qW:zC ["self"] ["self"] (zi yK):=⟨rfl,rfl,rfl,by decide +kernel,rfl,by decide +kernel,by decide +kernel⟩
theorem kQ:zC ["self","row"] ["self","row"] (zi yo):=⟨rfl,rfl,rfl,by decide +kernel,rfl,by decide +kernel,by decide +kernel⟩
theorem qh:zC ["self","number"] ["self","number"] (zi yw):=⟨rfl,rfl,rfl,by decide +kernel,rfl,by decide +kernel,by decide +kernel⟩
theorem qi:zC ["self","number"] ["self","number"] (zi yx):=⟨rfl,rfl,rfl,by decide +kernel,rfl,by decide +kernel,by decide +kernel⟩
theorem jr:zC ["self"] ["self"] (zi z6):=⟨rfl,rfl,rfl,by decide +kernel,rfl,by decide +kernel,by decide +kernel⟩
theorem kR:zC ["self","row","number"] ["self","row","number"] (zi yp):=⟨rfl,rfl,rfl,by decide +kernel,rfl,by decide +kernel,by decide +kernel⟩
theorem qj:zC ["self","row","number"] ["self","row","number"] (zi yy):=⟨rfl,rfl,rfl,by decide +kernel,rfl,by decide +kernel,by decide +kernel⟩
theorem qk:zC ["self","words","number"] ["self","words","number"] (zi yz):=⟨rfl,rfl,rfl,by decide +kernel,rfl,by decide +kernel,by decide +kernel⟩
theorem sc_RowWords_draw_word:zC ["self","word"] ["self"] (zi zW):=⟨rfl,rfl,rfl,by decide +kernel,rfl,by decide +kernel,by decide +kernel⟩
theorem WJ:zC ["text"] ["text"] (zi xY):=⟨rfl,rfl,rfl,by decide +kernel,rfl,by decide +kernel,by decide +kernel⟩
theorem sc_RowWords_draw_name:zC ["self","word"] ["self"] (zi zX):=⟨rfl,rfl,rfl,by decide +kernel,rfl,by decide +kernel,by decide +kernel⟩
theorem sc_behind_term:zC ["words","at","due","place"] ["words","at"] (zi yR):=⟨rfl,rfl,rfl,by decide +kernel,rfl,by decide +kernel,by decide +kernel⟩
theorem XW:zC ["thing"] ["thing"] (zi xZ):=⟨rfl,rfl,rfl,by decide +kernel,rfl,by decide +kernel,by decide +kernel⟩
theorem Yc:zC ["text"] ["text"] (zi yO):=⟨rfl,rfl,rfl,by decide +kernel,rfl,by decide +kernel,by decide +kernel⟩
theorem WK:zC ["worth"] ["worth"] (zi wL):=⟨rfl,rfl,rfl,by decide +kernel,rfl,by decide +kernel,by decide +kernel⟩
theorem sc_is_numeral:zC ["text","figures","worth"] ["text"] (zi xj):=⟨rfl,rfl,rfl,by decide +kernel,rfl,by decide +kernel,by decide +kernel⟩
theorem XX:zC ["text"] ["text"] (zi x5):=⟨rfl,rfl,rfl,by decide +kernel,rfl,by decide +kernel,by decide +kernel⟩
theorem WL:zC ["word"] ["word"] (zi wM):=⟨rfl,rfl,rfl,by decide +kernel,rfl,by decide +kernel,by decide +kernel⟩
theorem sc_term_from:zC ["words","at","behind","parts","word","first","second"] ["words","at"] (zi xA):=⟨rfl,rfl,rfl,by decide +kernel,rfl,by decide +kernel,by decide +kernel⟩
theorem sc_RowWords_draw_term:zC ["self","found"] ["self"] (zi zY):=⟨rfl,rfl,rfl,by decide +kernel,rfl,by decide +kernel,by decide +kernel⟩
theorem jV:zC ["self"] ["self"] (zi yb):=⟨rfl,rfl,rfl,by decide +kernel,rfl,by decide +kernel,by decide +kernel⟩
theorem sc_take_drawn:zC ["words","shelf","place"] ["words"] (zi xk):=⟨rfl,rfl,rfl,by decide +kernel,rfl,by decide +kernel,by decide +kernel⟩
theorem sc_row_drawn:zC ["words","first"] ["words"] (zi xB):=⟨rfl,rfl,rfl,by decide +kernel,rfl,by decide +kernel,by decide +kernel⟩
theorem js:zC ["self"] ["self"] (zi z7):=⟨rfl,rfl,rfl,by decide +kernel,rfl,by decide +kernel,by decide +kernel⟩
theorem sc_row_in:zC ["text","number","words","drawn","row"] ["text","number"] (zi vA):=⟨rfl,rfl,rfl,by decide +kernel,rfl,by decide +kernel,by decide +kernel⟩
theorem sc_read:zC ["text","texts","reading","number","one"] ["text"] (zi qg):=⟨rfl,rfl,rfl,by decide +kernel,rfl,by decide +kernel,by decide +kernel⟩
theorem sc__law_walked:zC ["rows","around","found","row","worth","firsts","others"] ["rows","around"] (zi yS):=⟨rfl,rfl,rfl,by decide +kernel,rfl,by decide +kernel,by decide +kernel⟩
theorem sc__law_due:zC ["heads","found","around","kind","worth"] ["heads"] (zi x6):=⟨rfl,rfl,rfl,by decide +kernel,rfl,by decide +kernel,by decide +kernel⟩
theorem sc_law:zC ["script","cell","most","cells","spot","heads","left","many","line","bad","at","e"] ["script"] (zi ZN):=⟨rfl,rfl,rfl,by decide +kernel,rfl,by decide +kernel,by decide +kernel⟩
set_option genSizeOf false in
set_option genInjectivity false in
structure Adr where
 a__law_cell_at:Addr
 d__law_cell_at:FuncData
 a__law_may:Addr
 d__law_may:FuncData
 a__law_behind:Addr
 d__law_behind:FuncData
 a__law_heads:Addr
 d__law_heads:FuncData
 a__law_bad:Addr
 d__law_bad:FuncData
 a_Reading_init:Addr
 d_Reading_init:FuncData
 a_NoDealing_init:Addr
 d_NoDealing_init:FuncData
 a_Reading_turns:Addr
 d_Reading_turns:FuncData
 a_Reading_shuts:Addr
 d_Reading_shuts:FuncData
 a_Reading_innermost:Addr
 d_Reading_innermost:FuncData
 a_Reading_begins:Addr
 d_Reading_begins:FuncData
 a_Reading_reads:Addr
 d_Reading_reads:FuncData
 a_RowWords_init:Addr
 d_RowWords_init:FuncData
 a_RowWords_draw_word:Addr
 d_RowWords_draw_word:FuncData
 a_is_name:Addr
 d_is_name:FuncData
 a_RowWords_draw_name:Addr
 d_RowWords_draw_name:FuncData
 a_behind_term:Addr
 d_behind_term:FuncData
 a_is_worth:Addr
 d_is_worth:FuncData
 a_is_figures:Addr
 d_is_figures:FuncData
 a_numeral:Addr
 d_numeral:FuncData
 a_is_numeral:Addr
 d_is_numeral:FuncData
 a_worth_in:Addr
 d_worth_in:FuncData
 a_part_in:Addr
 d_part_in:FuncData
 a_term_from:Addr
 d_term_from:FuncData
 a_RowWords_draw_term:Addr
 d_RowWords_draw_term:FuncData
 a_RowWords_draw_as:Addr
 d_RowWords_draw_as:FuncData
 a_take_drawn:Addr
 d_take_drawn:FuncData
 a_row_drawn:Addr
 d_row_drawn:FuncData
 a_RowWords_draw_end:Addr
 d_RowWords_draw_end:FuncData
 a_row_in:Addr
 d_row_in:FuncData
 a_read:Addr
 d_read:FuncData
 a__law_walked:Addr
 d__law_walked:FuncData
 a__law_due:Addr
 d__law_due:FuncData
 a_law:Addr
 d_law:FuncData
 k_FIGURES:Tok
 c_JOINING:Addr
 k_LETTERS:Tok
 k_MOST_BLOCKS:Tok
 k_MOST_FIGURES:Tok
 k_MOST_LETTERS:Tok
 k_MOST_ROWS:Tok
 k_MOST_WORDS_reader:Tok
 k_MOST_WORDS_terms:Tok
 c_ROW_WORDS:Addr
 c_NoDealing:Addr
 c_NoNumber:Addr
 c_NoTerm:Addr
 c_Reading:Addr
 c_RowWords:Addr
structure Txt (K:PySem.W.Frag) (mg:Str→Option Value) (t:Adr):Prop where
 f__law_cell_at:Fun K "_law_cell_at" "_law_cell_at" yJ t.a__law_cell_at t.d__law_cell_at
 b__law_cell_at:Binds K t.d__law_cell_at ["script","k"] []
 m__law_cell_at:mg "_law_cell_at"=some (.ref t.a__law_cell_at)
 f__law_may:Fun K "_law_may" "_law_may" xW t.a__law_may t.d__law_may
 b__law_may:Binds K t.d__law_may ["kind","turned"] []
 m__law_may:mg "_law_may"=some (.ref t.a__law_may)
 f__law_behind:Fun K "_law_behind" "_law_behind" yQ t.a__law_behind t.d__law_behind
 b__law_behind:Binds K t.d__law_behind ["kind","turned"] []
 m__law_behind:mg "_law_behind"=some (.ref t.a__law_behind)
 f__law_heads:Fun K "_law_heads" "_law_heads" xi t.a__law_heads t.d__law_heads
 b__law_heads:Binds K t.d__law_heads ["cells","spot"] []
 m__law_heads:mg "_law_heads"=some (.ref t.a__law_heads)
 f__law_bad:Fun K "_law_bad" "_law_bad" xX t.a__law_bad t.d__law_bad
 b__law_bad:Binds K t.d__law_bad ["heads"] []
 m__law_bad:mg "_law_bad"=some (.ref t.a__law_bad)
 f_Reading_init:Fun K "__init__" "Reading.__init__" yK t.a_Reading_init t.d_Reading_init
 b_Reading_init:Binds K t.d_Reading_init ["self"] []
 f_NoDealing_init:Fun K "__init__" "NoDealing.__init__" yo t.a_NoDealing_init t.d_NoDealing_init
 b_NoDealing_init:Binds K t.d_NoDealing_init ["self","row"] []
 f_Reading_turns:Fun K "turns" "Reading.turns" yw t.a_Reading_turns t.d_Reading_turns
 b_Reading_turns:Binds K t.d_Reading_turns ["self","number"] []
 me_Reading_turns:qc K t.c_Reading "turns" t.a_Reading_turns
 f_Reading_shuts:Fun K "shuts" "Reading.shuts" yx t.a_Reading_shuts t.d_Reading_shuts
 b_Reading_shuts:Binds K t.d_Reading_shuts ["self","number"] []
 me_Reading_shuts:qc K t.c_Reading "shuts" t.a_Reading_shuts
 f_Reading_innermost:Fun K "innermost" "Reading.innermost" z6 t.a_Reading_innermost t.d_Reading_innermost
 b_Reading_innermost:Binds K t.d_Reading_innermost ["self"] []
 me_Reading_innermost:qc K t.c_Reading "innermost" t.a_Reading_innermost
 f_Reading_begins:Fun K "begins" "Reading.begins" yp t.a_Reading_begins t.d_Reading_begins
 b_Reading_begins:Binds K t.d_Reading_begins ["self","row","number"] []
 me_Reading_begins:qc K t.c_Reading "begins" t.a_Reading_begins
 f_Reading_reads:Fun K "reads" "Reading.reads" yy t.a_Reading_reads t.d_Reading_reads
 b_Reading_reads:Binds K t.d_Reading_reads ["self","row","number"] []
 me_Reading_reads:qc K t.c_Reading "reads" t.a_Reading_reads
 f_RowWords_init:Fun K "__init__" "RowWords.__init__" yz t.a_RowWords_init t.d_RowWords_init
 b_RowWords_init:Binds K t.d_RowWords_init ["self","words","number"] []
 f_RowWords_draw_word:Fun K "draw_word" "RowWords.draw_word" zW t.a_RowWords_draw_word t.d_RowWords_draw_word
 b_RowWords_draw_word:Binds K t.d_RowWords_draw_word ["self"] []
 me_RowWords_draw_word:qc K t.c_RowWords "draw_word" t.a_RowWords_draw_word
 f_is_name:Fun K "is_name" "is_name" xY t.a_is_name t.d_is_name
 b_is_name:Binds K t.d_is_name ["text"] []
 m_is_name:mg "is_name"=some (.ref t.a_is_name)
 f_RowWords_draw_name:Fun K "draw_name" "RowWords.draw_name" zX t.a_RowWords_draw_name t.d_RowWords_draw_name
 b_RowWords_draw_name:Binds K t.d_RowWords_draw_name ["self"] []
 me_RowWords_draw_name:qc K t.c_RowWords "draw_name" t.a_RowWords_draw_name
 f_behind_term:Fun K "behind_term" "behind_term" yR t.a_behind_term t.d_behind_term
 b_behind_term:Binds K t.d_behind_term ["words","at"] []
 m_behind_term:mg "behind_term"=some (.ref t.a_behind_term)
 f_is_worth:Fun K "is_worth" "is_worth" xZ t.a_is_worth t.d_is_worth
 b_is_worth:Binds K t.d_is_worth ["thing"] []
 m_is_worth:mg "is_worth"=some (.ref t.a_is_worth)
 f_is_figures:Fun K "is_figures" "is_figures" yO t.a_is_figures t.d_is_figures
 b_is_figures:Binds K t.d_is_figures ["text"] []
 m_is_figures:mg "is_figures"=some (.ref t.a_is_figures)
 f_numeral:Fun K "numeral" "numeral" wL t.a_numeral t.d_numeral
 b_numeral:Binds K t.d_numeral ["worth"] []
 m_numeral:mg "numeral"=some (.ref t.a_numeral)
 f_is_numeral:Fun K "is_numeral" "is_numeral" xj t.a_is_numeral t.d_is_numeral
 b_is_numeral:Binds K t.d_is_numeral ["text"] []
 m_is_numeral:mg "is_numeral"=some (.ref t.a_is_numeral)
 f_worth_in:Fun K "worth_in" "worth_in" x5 t.a_worth_in t.d_worth_in
 b_worth_in:Binds K t.d_worth_in ["text"] []
 m_worth_in:mg "worth_in"=some (.ref t.a_worth_in)
 f_part_in:Fun K "part_in" "part_in" wM t.a_part_in t.d_part_in
 b_part_in:Binds K t.d_part_in ["word"] []
 m_part_in:mg "part_in"=some (.ref t.a_part_in)
 f_term_from:Fun K "term_from" "term_from" xA t.a_term_from t.d_term_from
 b_term_from:Binds K t.d_term_from ["words","at"] []
 m_term_from:mg "term_from"=some (.ref t.a_term_from)
 f_RowWords_draw_term:Fun K "draw_term" "RowWords.draw_term" zY t.a_RowWords_draw_term t.d_RowWords_draw_term
 b_RowWords_draw_term:Binds K t.d_RowWords_draw_term ["self"] []
 me_RowWords_draw_term:qc K t.c_RowWords "draw_term" t.a_RowWords_draw_term
 f_RowWords_draw_as:Fun K "draw_as" "RowWords.draw_as" yb t.a_RowWords_draw_as t.d_RowWords_draw_as
 b_RowWords_draw_as:Binds K t.d_RowWords_draw_as ["self"] []
 me_RowWords_draw_as:qc K t.c_RowWords "draw_as" t.a_RowWords_draw_as
 f_take_drawn:Fun K "take_drawn" "take_drawn" xk t.a_take_drawn t.d_take_drawn
 b_take_drawn:Binds K t.d_take_drawn ["words"] []
 m_take_drawn:mg "take_drawn"=some (.ref t.a_take_drawn)
 f_row_drawn:Fun K "row_drawn" "row_drawn" xB t.a_row_drawn t.d_row_drawn
 b_row_drawn:Binds K t.d_row_drawn ["words"] []
 m_row_drawn:mg "row_drawn"=some (.ref t.a_row_drawn)
 f_RowWords_draw_end:Fun K "draw_end" "RowWords.draw_end" z7 t.a_RowWords_draw_end t.d_RowWords_draw_end
 b_RowWords_draw_end:Binds K t.d_RowWords_draw_end ["self"] []
 me_RowWords_draw_end:qc K t.c_RowWords "draw_end" t.a_RowWords_draw_end
 f_row_in:Fun K "row_in" "row_in" vA t.a_row_in t.d_row_in
 b_row_in:Binds K t.d_row_in ["text","number"] []
 m_row_in:mg "row_in"=some (.ref t.a_row_in)
 f_read:Fun K "read" "read" qg t.a_read t.d_read
 b_read:Binds K t.d_read ["text"] []
 m_read:mg "read"=some (.ref t.a_read)
 f__law_walked:Fun K "_law_walked" "_law_walked" yS t.a__law_walked t.d__law_walked
 b__law_walked:Binds K t.d__law_walked ["rows","around"] []
 m__law_walked:mg "_law_walked"=some (.ref t.a__law_walked)
 f__law_due:Fun K "_law_due" "_law_due" x6 t.a__law_due t.d__law_due
 b__law_due:Binds K t.d__law_due ["heads"] []
 m__law_due:mg "_law_due"=some (.ref t.a__law_due)
 f_law:Fun K "law" "law" ZN t.a_law t.d_law
 b_law:Binds K t.d_law ["script"] []
 m_law:mg "law"=some (.ref t.a_law)
 w_law:∀ (s:Shared) (v:Value),BindsTo s t.d_law ⟨[v],[]⟩ [("script",v)]
 b_all:mg "all"=none
 b_bool:mg "bool"=none
 b_enumerate:mg "enumerate"=none
 b_int:mg "int"=none
 b_isinstance:mg "isinstance"=none
 b_len:mg "len"=none
 b_list:mg "list"=none
 b_max:mg "max"=none
 b_range:mg "range"=none
 b_reversed:mg "reversed"=none
 b_str:mg "str"=none
 b_tuple:mg "tuple"=none
 g_FIGURES:mg "FIGURES"=some (.str "0123456789" t.k_FIGURES)
 g_JOINING:mg "JOINING"=some (.ref t.c_JOINING)
 v_JOINING:∀ H:Hp,SqT K H t.c_JOINING [.str "plus",.str "minus",.str "times",.str "over",.str "rest",.str "under",.str "same"]
 g_LETTERS:mg "LETTERS"=some (.str "abcdefghijklmnopqrstuvwxyz" t.k_LETTERS)
 g_MOST_BLOCKS:mg "MOST_BLOCKS"=some (.int 5 t.k_MOST_BLOCKS)
 g_MOST_FIGURES:mg "MOST_FIGURES"=some (.int 31 t.k_MOST_FIGURES)
 g_MOST_LETTERS:mg "MOST_LETTERS"=some (.int 6 t.k_MOST_LETTERS)
 g_MOST_ROWS:mg "MOST_ROWS"=some (.int 40 t.k_MOST_ROWS)
 g_MOST_WORDS_reader:mg "MOST_WORDS_reader"=some (.int 60 t.k_MOST_WORDS_reader)
 g_MOST_WORDS_terms:mg "MOST_WORDS_terms"=some (.int 60 t.k_MOST_WORDS_terms)
 g_ROW_WORDS:mg "ROW_WORDS"=some (.ref t.c_ROW_WORDS)
 v_ROW_WORDS:∀ H:Hp,SqT K H t.c_ROW_WORDS [.str "take",.str "give",.str "let",.str "say",.str "off",.str "if",.str "else",.str "end",.str "as"]
 g_NoDealing:mg "NoDealing"=some (.ref t.c_NoDealing)
 g_NoNumber:mg "NoNumber"=some (.ref t.c_NoNumber)
 g_NoTerm:mg "NoTerm"=some (.ref t.c_NoTerm)
 g_Reading:mg "Reading"=some (.ref t.c_Reading)
 g_RowWords:mg "RowWords"=some (.ref t.c_RowWords)
 cl_Reading:Cls K t.c_Reading
 mk_Reading:Mk K t.c_Reading t.a_Reading_init
 na_Reading_blocks:NoAttr K t.c_Reading "blocks"
 na_Reading_rows:NoAttr K t.c_Reading "rows"
 na_Reading_turned:NoAttr K t.c_Reading "turned"
 cl_RowWords:Cls K t.c_RowWords
 mk_RowWords:Mk K t.c_RowWords t.a_RowWords_init
 na_RowWords_at:NoAttr K t.c_RowWords "at"
 na_RowWords_number:NoAttr K t.c_RowWords "number"
 na_RowWords_words:NoAttr K t.c_RowWords "words"
 xi_NoDealing:XU K t.c_NoDealing t.a_NoDealing_init=true
 xk_NoDealing:PySem.W.keepIn K (.ref t.c_NoDealing)=true
 xf_NoDealing:PySem.W.isFn K (.ref t.a_NoDealing_init)=true
 es_NoDealing:ExS K t.c_NoDealing
 nx_NoDealing:NoAttr K t.c_NoDealing "row"
 e_NoDealing_NoDealing:PySem.W.exmOne K (.ref t.c_NoDealing) (.ref t.c_NoDealing)=some true
 x_NoTerm:PySem.W.excIn K t.c_NoTerm qM wU=true
 y_NoTerm:ExK K t.c_NoTerm
 e_NoTerm_NoDealing:PySem.W.exmOne K (.ref t.c_NoTerm) (.ref t.c_NoDealing)=some false
 x_NoNumber:PySem.W.excIn K t.c_NoNumber qM wU=true
 y_NoNumber:ExK K t.c_NoNumber
 e_NoNumber_NoDealing:PySem.W.exmOne K (.ref t.c_NoNumber) (.ref t.c_NoDealing)=some false
theorem txt_mk {K:PySem.W.Frag} {h:Heap} {mg:Str→Option Value} (X:K.In h) (G:h.Ns mainGlobals mg)
  {f0:Addr} {od0 an0:Option Addr} {sl0:Array (Option Value)} {oc0 kV0 dc0 pm0 cd0 ct0:Value}
  {f1:Addr} {od1 an1:Option Addr} {sl1:Array (Option Value)} {oc1 kV1 dc1 pm1 cd1 ct1:Value}
  {f2:Addr} {od2 an2:Option Addr} {sl2:Array (Option Value)} {oc2 kV2 dc2 pm2 cd2 ct2:Value}
  {f3:Addr} {od3 an3:Option Addr} {sl3:Array (Option Value)} {oc3 kV3 dc3 pm3 cd3 ct3:Value}
  {f4:Addr} {od4 an4:Option Addr} {sl4:Array (Option Value)} {oc4 kV4 dc4 pm4 cd4 ct4:Value}
  {f5:Addr} {od5 an5:Option Addr} {sl5:Array (Option Value)} {oc5 kV5 dc5 pm5 cd5 ct5:Value}
  {f6:Addr} {od6 an6:Option Addr} {sl6:Array (Option Value)} {oc6 kV6 dc6 pm6 cd6 ct6:Value}
  {f7:Addr} {od7 an7:Option Addr} {sl7:Array (Option Value)} {oc7 kV7 dc7 pm7 cd7 ct7:Value}
  {f8:Addr} {od8 an8:Option Addr} {sl8:Array (Option Value)} {oc8 kV8 dc8 pm8 cd8 ct8:Value}
  {f9:Addr} {od9 an9:Option Addr} {sl9:Array (Option Value)} {oc9 kV9 dc9 pm9 cd9 ct9:Value}
  {f10:Addr} {od10 an10:Option Addr} {sl10:Array (Option Value)} {oc10 kV10 dc10 pm10 cd10 ct10:Value}
  {f11:Addr} {od11 an11:Option Addr} {sl11:Array (Option Value)} {oc11 kV11 dc11 pm11 cd11 ct11:Value}
  {f12:Addr} {od12 an12:Option Addr} {sl12:Array (Option Value)} {oc12 kV12 dc12 pm12 cd12 ct12:Value}
  {f13:Addr} {od13 an13:Option Addr} {sl13:Array (Option Value)} {oc13 kV13 dc13 pm13 cd13 ct13:Value}
  {f14:Addr} {od14 an14:Option Addr} {sl14:Array (Option Value)} {oc14 kV14 dc14 pm14 cd14 ct14:Value}
  {f15:Addr} {od15 an15:Option Addr} {sl15:Array (Option Value)} {oc15 kV15 dc15 pm15 cd15 ct15:Value}
  {f16:Addr} {od16 an16:Option Addr} {sl16:Array (Option Value)} {oc16 kV16 dc16 pm16 cd16 ct16:Value}
  {f17:Addr} {od17 an17:Option Addr} {sl17:Array (Option Value)} {oc17 kV17 dc17 pm17 cd17 ct17:Value}
  {f18:Addr} {od18 an18:Option Addr} {sl18:Array (Option Value)} {oc18 kV18 dc18 pm18 cd18 ct18:Value}
  {f19:Addr} {od19 an19:Option Addr} {sl19:Array (Option Value)} {oc19 kV19 dc19 pm19 cd19 ct19:Value}
  {f20:Addr} {od20 an20:Option Addr} {sl20:Array (Option Value)} {oc20 kV20 dc20 pm20 cd20 ct20:Value}
  {f21:Addr} {od21 an21:Option Addr} {sl21:Array (Option Value)} {oc21 kV21 dc21 pm21 cd21 ct21:Value}
  {f22:Addr} {od22 an22:Option Addr} {sl22:Array (Option Value)} {oc22 kV22 dc22 pm22 cd22 ct22:Value}
  {f23:Addr} {od23 an23:Option Addr} {sl23:Array (Option Value)} {oc23 kV23 dc23 pm23 cd23 ct23:Value}
  {f24:Addr} {od24 an24:Option Addr} {sl24:Array (Option Value)} {oc24 kV24 dc24 pm24 cd24 ct24:Value}
  {f25:Addr} {od25 an25:Option Addr} {sl25:Array (Option Value)} {oc25 kV25 dc25 pm25 cd25 ct25:Value}
  {f26:Addr} {od26 an26:Option Addr} {sl26:Array (Option Value)} {oc26 kV26 dc26 pm26 cd26 ct26:Value}
  {f27:Addr} {od27 an27:Option Addr} {sl27:Array (Option Value)} {oc27 kV27 dc27 pm27 cd27 ct27:Value}
  {f28:Addr} {od28 an28:Option Addr} {sl28:Array (Option Value)} {oc28 kV28 dc28 pm28 cd28 ct28:Value}
  {f29:Addr} {od29 an29:Option Addr} {sl29:Array (Option Value)} {oc29 kV29 dc29 pm29 cd29 ct29:Value}
  {f30:Addr} {od30 an30:Option Addr} {sl30:Array (Option Value)} {oc30 kV30 dc30 pm30 cd30 ct30:Value}
  {f31:Addr} {od31 an31:Option Addr} {sl31:Array (Option Value)} {oc31 kV31 dc31 pm31 cd31 ct31:Value}
  {f32:Addr} {od32 an32:Option Addr} {sl32:Array (Option Value)} {oc32 kV32 dc32 pm32 cd32 ct32:Value}
  {f33:Addr} {od33 an33:Option Addr} {sl33:Array (Option Value)} {oc33 kV33 dc33 pm33 cd33 ct33:Value}
  {gt0:Tok}
  {ga1:Addr} {gn1:Nat} {gt1_0:Tok} {gt1_1:Tok} {gt1_2:Tok} {gt1_3:Tok} {gt1_4:Tok} {gt1_5:Tok} {gt1_6:Tok}
  {gt2:Tok}
  {gt3:Tok}
  {gt4:Tok}
  {gt5:Tok}
  {gt6:Tok}
  {gt7:Tok}
  {gt8:Tok}
  {ga9:Addr} {gn9:Nat} {gt9_0:Tok} {gt9_1:Tok} {gt9_2:Tok} {gt9_3:Tok} {gt9_4:Tok} {gt9_5:Tok} {gt9_6:Tok} {gt9_7:Tok} {gt9_8:Tok}
  {ca0:Addr}
  {ca1:Addr}
  {ca2:Addr}
  {ca3:Addr}
  {ca4:Addr}
  {cl0:ClassData}
  {cl1:ClassData}
  (qa0:PySem.W.nsIn K mainGlobals "_law_cell_at"=some (some (.ref f0))) (ql0:K.lookup f0=some ⟨oc0,od0,.func (PySem.W.fnOf "_law_cell_at" "_law_cell_at" (zD yJ) (zz yJ) (zi yJ) .none kV0 dc0 pm0 an0 cd0 ct0),sl0⟩) (qc0:PySem.W.codeIn K cd0 "_law_cell_at"=true) (qk0:PySem.W.keepIn K (.ref f0)=true)
  (qa1:PySem.W.nsIn K mainGlobals "_law_may"=some (some (.ref f1))) (ql1:K.lookup f1=some ⟨oc1,od1,.func (PySem.W.fnOf "_law_may" "_law_may" (zD xW) (zz xW) (zi xW) .none kV1 dc1 pm1 an1 cd1 ct1),sl1⟩) (qc1:PySem.W.codeIn K cd1 "_law_may"=true) (qk1:PySem.W.keepIn K (.ref f1)=true)
  (qa2:PySem.W.nsIn K mainGlobals "_law_behind"=some (some (.ref f2))) (ql2:K.lookup f2=some ⟨oc2,od2,.func (PySem.W.fnOf "_law_behind" "_law_behind" (zD yQ) (zz yQ) (zi yQ) .none kV2 dc2 pm2 an2 cd2 ct2),sl2⟩) (qc2:PySem.W.codeIn K cd2 "_law_behind"=true) (qk2:PySem.W.keepIn K (.ref f2)=true)
  (qa3:PySem.W.nsIn K mainGlobals "_law_heads"=some (some (.ref f3))) (ql3:K.lookup f3=some ⟨oc3,od3,.func (PySem.W.fnOf "_law_heads" "_law_heads" (zD xi) (zz xi) (zi xi) .none kV3 dc3 pm3 an3 cd3 ct3),sl3⟩) (qc3:PySem.W.codeIn K cd3 "_law_heads"=true) (qk3:PySem.W.keepIn K (.ref f3)=true)
  (qa4:PySem.W.nsIn K mainGlobals "_law_bad"=some (some (.ref f4))) (ql4:K.lookup f4=some ⟨oc4,od4,.func (PySem.W.fnOf "_law_bad" "_law_bad" (zD xX) (zz xX) (zi xX) .none kV4 dc4 pm4 an4 cd4 ct4),sl4⟩) (qc4:PySem.W.codeIn K cd4 "_law_bad"=true) (qk4:PySem.W.keepIn K (.ref f4)=true)
  (qa5:PySem.W.findIn K (.ref ca3) "__init__"=some (some (.ref f5))) (qi5:PySem.W.isFn K (.ref f5)=true) (ql5:K.lookup f5=some ⟨oc5,od5,.func (PySem.W.fnOf "__init__" "Reading.__init__" (zD yK) (zz yK) (zi yK) .none kV5 dc5 pm5 an5 cd5 ct5),sl5⟩) (qc5:PySem.W.codeIn K cd5 "Reading.__init__"=true) (qk5:PySem.W.keepIn K (.ref f5)=true)
  (qa6:PySem.W.findIn K (.ref ca0) "__init__"=some (some (.ref f6))) (qi6:PySem.W.isFn K (.ref f6)=true) (ql6:K.lookup f6=some ⟨oc6,od6,.func (PySem.W.fnOf "__init__" "NoDealing.__init__" (zD yo) (zz yo) (zi yo) .none kV6 dc6 pm6 an6 cd6 ct6),sl6⟩) (qc6:PySem.W.codeIn K cd6 "NoDealing.__init__"=true) (qk6:PySem.W.keepIn K (.ref f6)=true)
  (qa7:PySem.W.findIn K (.ref ca3) "turns"=some (some (.ref f7))) (qi7:PySem.W.isFn K (.ref f7)=true) (ql7:K.lookup f7=some ⟨oc7,od7,.func (PySem.W.fnOf "turns" "Reading.turns" (zD yw) (zz yw) (zi yw) .none kV7 dc7 pm7 an7 cd7 ct7),sl7⟩) (qc7:PySem.W.codeIn K cd7 "Reading.turns"=true) (qk7:PySem.W.keepIn K (.ref f7)=true)
  (qa8:PySem.W.findIn K (.ref ca3) "shuts"=some (some (.ref f8))) (qi8:PySem.W.isFn K (.ref f8)=true) (ql8:K.lookup f8=some ⟨oc8,od8,.func (PySem.W.fnOf "shuts" "Reading.shuts" (zD yx) (zz yx) (zi yx) .none kV8 dc8 pm8 an8 cd8 ct8),sl8⟩) (qc8:PySem.W.codeIn K cd8 "Reading.shuts"=true) (qk8:PySem.W.keepIn K (.ref f8)=true)
  (qa9:PySem.W.findIn K (.ref ca3) "innermost"=some (some (.ref f9))) (qi9:PySem.W.isFn K (.ref f9)=true) (ql9:K.lookup f9=some ⟨oc9,od9,.func (PySem.W.fnOf "innermost" "Reading.innermost" (zD z6) (zz z6) (zi z6) .none kV9 dc9 pm9 an9 cd9 ct9),sl9⟩) (qc9:PySem.W.codeIn K cd9 "Reading.innermost"=true) (qk9:PySem.W.keepIn K (.ref f9)=true)
  (qa10:PySem.W.findIn K (.ref ca3) "begins"=some (some (.ref f10))) (qi10:PySem.W.isFn K (.ref f10)=true) (ql10:K.lookup f10=some ⟨oc10,od10,.func (PySem.W.fnOf "begins" "Reading.begins" (zD yp) (zz yp) (zi yp) .none kV10 dc10 pm10 an10 cd10 ct10),sl10⟩) (qc10:PySem.W.codeIn K cd10 "Reading.begins"=true) (qk10:PySem.W.keepIn K (.ref f10)=true)
  (qa11:PySem.W.findIn K (.ref ca3) "reads"=some (some (.ref f11))) (qi11:PySem.W.isFn K (.ref f11)=true) (ql11:K.lookup f11=some ⟨oc11,od11,.func (PySem.W.fnOf "reads" "Reading.reads" (zD yy) (zz yy) (zi yy) .none kV11 dc11 pm11 an11 cd11 ct11),sl11⟩) (qc11:PySem.W.codeIn K cd11 "Reading.reads"=true) (qk11:PySem.W.keepIn K (.ref f11)=true)
  (qa12:PySem.W.findIn K (.ref ca4) "__init__"=some (some (.ref f12))) (qi12:PySem.W.isFn K (.ref f12)=true) (ql12:K.lookup f12=some ⟨oc12,od12,.func (PySem.W.fnOf "__init__" "RowWords.__init__" (zD yz) (zz yz) (zi yz) .none kV12 dc12 pm12 an12 cd12 ct12),sl12⟩) (qc12:PySem.W.codeIn K cd12 "RowWords.__init__"=true) (qk12:PySem.W.keepIn K (.ref f12)=true)
  (qa13:PySem.W.findIn K (.ref ca4) "draw_word"=some (some (.ref f13))) (qi13:PySem.W.isFn K (.ref f13)=true) (ql13:K.lookup f13=some ⟨oc13,od13,.func (PySem.W.fnOf "draw_word" "RowWords.draw_word" (zD zW) (zz zW) (zi zW) .none kV13 dc13 pm13 an13 cd13 ct13),sl13⟩) (qc13:PySem.W.codeIn K cd13 "RowWords.draw_word"=true) (qk13:PySem.W.keepIn K (.ref f13)=true)
  (qa14:PySem.W.nsIn K mainGlobals "is_name"=some (some (.ref f14))) (ql14:K.lookup f14=some ⟨oc14,od14,.func (PySem.W.fnOf "is_name" "is_name" (zD xY) (zz xY) (zi xY) .none kV14 dc14 pm14 an14 cd14 ct14),sl14⟩) (qc14:PySem.W.codeIn K cd14 "is_name"=true) (qk14:PySem.W.keepIn K (.ref f14)=true)
  (qa15:PySem.W.findIn K (.ref ca4) "draw_name"=some (some (.ref f15))) (qi15:PySem.W.isFn K (.ref f15)=true) (ql15:K.lookup f15=some ⟨oc15,od15,.func (PySem.W.fnOf "draw_name" "RowWords.draw_name" (zD zX) (zz zX) (zi zX) .none kV15 dc15 pm15 an15 cd15 ct15),sl15⟩) (qc15:PySem.W.codeIn K cd15 "RowWords.draw_name"=true) (qk15:PySem.W.keepIn K (.ref f15)=true)
  (qa16:PySem.W.nsIn K mainGlobals "behind_term"=some (some (.ref f16))) (ql16:K.lookup f16=some ⟨oc16,od16,.func (PySem.W.fnOf "behind_term" "behind_term" (zD yR) (zz yR) (zi yR) .none kV16 dc16 pm16 an16 cd16 ct16),sl16⟩) (qc16:PySem.W.codeIn K cd16 "behind_term"=true) (qk16:PySem.W.keepIn K (.ref f16)=true)
  (qa17:PySem.W.nsIn K mainGlobals "is_worth"=some (some (.ref f17))) (ql17:K.lookup f17=some ⟨oc17,od17,.func (PySem.W.fnOf "is_worth" "is_worth" (zD xZ) (zz xZ) (zi xZ) .none kV17 dc17 pm17 an17 cd17 ct17),sl17⟩) (qc17:PySem.W.codeIn K cd17 "is_worth"=true) (qk17:PySem.W.keepIn K (.ref f17)=true)
  (qa18:PySem.W.nsIn K mainGlobals "is_figures"=some (some (.ref f18))) (ql18:K.lookup f18=some ⟨oc18,od18,.func (PySem.W.fnOf "is_figures" "is_figures" (zD yO) (zz yO) (zi yO) .none kV18 dc18 pm18 an18 cd18 ct18),sl18⟩) (qc18:PySem.W.codeIn K cd18 "is_figures"=true) (qk18:PySem.W.keepIn K (.ref f18)=true)
  (qa19:PySem.W.nsIn K mainGlobals "numeral"=some (some (.ref f19))) (ql19:K.lookup f19=some ⟨oc19,od19,.func (PySem.W.fnOf "numeral" "numeral" (zD wL) (zz wL) (zi wL) .none kV19 dc19 pm19 an19 cd19 ct19),sl19⟩) (qc19:PySem.W.codeIn K cd19 "numeral"=true) (qk19:PySem.W.keepIn K (.ref f19)=true)
  (qa20:PySem.W.nsIn K mainGlobals "is_numeral"=some (some (.ref f20))) (ql20:K.lookup f20=some ⟨oc20,od20,.func (PySem.W.fnOf "is_numeral" "is_numeral" (zD xj) (zz xj) (zi xj) .none kV20 dc20 pm20 an20 cd20 ct20),sl20⟩) (qc20:PySem.W.codeIn K cd20 "is_numeral"=true) (qk20:PySem.W.keepIn K (.ref f20)=true)
  (qa21:PySem.W.nsIn K mainGlobals "worth_in"=some (some (.ref f21))) (ql21:K.lookup f21=some ⟨oc21,od21,.func (PySem.W.fnOf "worth_in" "worth_in" (zD x5) (zz x5) (zi x5) .none kV21 dc21 pm21 an21 cd21 ct21),sl21⟩) (qc21:PySem.W.codeIn K cd21 "worth_in"=true) (qk21:PySem.W.keepIn K (.ref f21)=true)
  (qa22:PySem.W.nsIn K mainGlobals "part_in"=some (some (.ref f22))) (ql22:K.lookup f22=some ⟨oc22,od22,.func (PySem.W.fnOf "part_in" "part_in" (zD wM) (zz wM) (zi wM) .none kV22 dc22 pm22 an22 cd22 ct22),sl22⟩) (qc22:PySem.W.codeIn K cd22 "part_in"=true) (qk22:PySem.W.keepIn K (.ref f22)=true)
  (qa23:PySem.W.nsIn K mainGlobals "term_from"=some (some (.ref f23))) (ql23:K.lookup f23=some ⟨oc23,od23,.func (PySem.W.fnOf "term_from" "term_from" (zD xA) (zz xA) (zi xA) .none kV23 dc23 pm23 an23 cd23 ct23),sl23⟩) (qc23:PySem.W.codeIn K cd23 "term_from"=true) (qk23:PySem.W.keepIn K (.ref f23)=true)
  (qa24:PySem.W.findIn K (.ref ca4) "draw_term"=some (some (.ref f24))) (qi24:PySem.W.isFn K (.ref f24)=true) (ql24:K.lookup f24=some ⟨oc24,od24,.func (PySem.W.fnOf "draw_term" "RowWords.draw_term" (zD zY) (zz zY) (zi zY) .none kV24 dc24 pm24 an24 cd24 ct24),sl24⟩) (qc24:PySem.W.codeIn K cd24 "RowWords.draw_term"=true) (qk24:PySem.W.keepIn K (.ref f24)=true)
  (qa25:PySem.W.findIn K (.ref ca4) "draw_as"=some (some (.ref f25))) (qi25:PySem.W.isFn K (.ref f25)=true) (ql25:K.lookup f25=some ⟨oc25,od25,.func (PySem.W.fnOf "draw_as" "RowWords.draw_as" (zD yb) (zz yb) (zi yb) .none kV25 dc25 pm25 an25 cd25 ct25),sl25⟩) (qc25:PySem.W.codeIn K cd25 "RowWords.draw_as"=true) (qk25:PySem.W.keepIn K (.ref f25)=true)
  (qa26:PySem.W.nsIn K mainGlobals "take_drawn"=some (some (.ref f26))) (ql26:K.lookup f26=some ⟨oc26,od26,.func (PySem.W.fnOf "take_drawn" "take_drawn" (zD xk) (zz xk) (zi xk) .none kV26 dc26 pm26 an26 cd26 ct26),sl26⟩) (qc26:PySem.W.codeIn K cd26 "take_drawn"=true) (qk26:PySem.W.keepIn K (.ref f26)=true)
  (qa27:PySem.W.nsIn K mainGlobals "row_drawn"=some (some (.ref f27))) (ql27:K.lookup f27=some ⟨oc27,od27,.func (PySem.W.fnOf "row_drawn" "row_drawn" (zD xB) (zz xB) (zi xB) .none kV27 dc27 pm27 an27 cd27 ct27),sl27⟩) (qc27:PySem.W.codeIn K cd27 "row_drawn"=true) (qk27:PySem.W.keepIn K (.ref f27)=true)
  (qa28:PySem.W.findIn K (.ref ca4) "draw_end"=some (some (.ref f28))) (qi28:PySem.W.isFn K (.ref f28)=true) (ql28:K.lookup f28=some ⟨oc28,od28,.func (PySem.W.fnOf "draw_end" "RowWords.draw_end" (zD z7) (zz z7) (zi z7) .none kV28 dc28 pm28 an28 cd28 ct28),sl28⟩) (qc28:PySem.W.codeIn K cd28 "RowWords.draw_end"=true) (qk28:PySem.W.keepIn K (.ref f28)=true)
  (qa29:PySem.W.nsIn K mainGlobals "row_in"=some (some (.ref f29))) (ql29:K.lookup f29=some ⟨oc29,od29,.func (PySem.W.fnOf "row_in" "row_in" (zD vA) (zz vA) (zi vA) .none kV29 dc29 pm29 an29 cd29 ct29),sl29⟩) (qc29:PySem.W.codeIn K cd29 "row_in"=true) (qk29:PySem.W.keepIn K (.ref f29)=true)
  (qa30:PySem.W.nsIn K mainGlobals "read"=some (some (.ref f30))) (ql30:K.lookup f30=some ⟨oc30,od30,.func (PySem.W.fnOf "read" "read" (zD qg) (zz qg) (zi qg) .none kV30 dc30 pm30 an30 cd30 ct30),sl30⟩) (qc30:PySem.W.codeIn K cd30 "read"=true) (qk30:PySem.W.keepIn K (.ref f30)=true)
  (qa31:PySem.W.nsIn K mainGlobals "_law_walked"=some (some (.ref f31))) (ql31:K.lookup f31=some ⟨oc31,od31,.func (PySem.W.fnOf "_law_walked" "_law_walked" (zD yS) (zz yS) (zi yS) .none kV31 dc31 pm31 an31 cd31 ct31),sl31⟩) (qc31:PySem.W.codeIn K cd31 "_law_walked"=true) (qk31:PySem.W.keepIn K (.ref f31)=true)
  (qa32:PySem.W.nsIn K mainGlobals "_law_due"=some (some (.ref f32))) (ql32:K.lookup f32=some ⟨oc32,od32,.func (PySem.W.fnOf "_law_due" "_law_due" (zD x6) (zz x6) (zi x6) .none kV32 dc32 pm32 an32 cd32 ct32),sl32⟩) (qc32:PySem.W.codeIn K cd32 "_law_due"=true) (qk32:PySem.W.keepIn K (.ref f32)=true)
  (qa33:PySem.W.nsIn K mainGlobals "law"=some (some (.ref f33))) (ql33:K.lookup f33=some ⟨oc33,od33,.func (PySem.W.fnOf "law" "law" (zD ZN) (zz ZN) (zi ZN) .none kV33 dc33 pm33 an33 cd33 ct33),sl33⟩) (qc33:PySem.W.codeIn K cd33 "law"=true) (qk33:PySem.W.keepIn K (.ref f33)=true)
  (qz0:PySem.W.nsIn K mainGlobals "all"=some none)
  (qz1:PySem.W.nsIn K mainGlobals "bool"=some none)
  (qz2:PySem.W.nsIn K mainGlobals "enumerate"=some none)
  (qz3:PySem.W.nsIn K mainGlobals "int"=some none)
  (qz4:PySem.W.nsIn K mainGlobals "isinstance"=some none)
  (qz5:PySem.W.nsIn K mainGlobals "len"=some none)
  (qz6:PySem.W.nsIn K mainGlobals "list"=some none)
  (qz7:PySem.W.nsIn K mainGlobals "max"=some none)
  (qz8:PySem.W.nsIn K mainGlobals "range"=some none)
  (qz9:PySem.W.nsIn K mainGlobals "reversed"=some none)
  (qz10:PySem.W.nsIn K mainGlobals "str"=some none)
  (qz11:PySem.W.nsIn K mainGlobals "tuple"=some none)
  (qg0:PySem.W.nsIn K mainGlobals "FIGURES"=some (some (.str "0123456789" gt0)))
  (qg1:PySem.W.nsIn K mainGlobals "JOINING"=some (some (.ref ga1))) (qh1:K.lookup ga1=some ⟨.type "tuple",none,.seq #[.str "plus" gt1_0,.str "minus" gt1_1,.str "times" gt1_2,.str "over" gt1_3,.str "rest" gt1_4,.str "under" gt1_5,.str "same" gt1_6] gn1,#[]⟩)
  (qg2:PySem.W.nsIn K mainGlobals "LETTERS"=some (some (.str "abcdefghijklmnopqrstuvwxyz" gt2)))
  (qg3:PySem.W.nsIn K mainGlobals "MOST_BLOCKS"=some (some (.int 5 gt3)))
  (qg4:PySem.W.nsIn K mainGlobals "MOST_FIGURES"=some (some (.int 31 gt4)))
  (qg5:PySem.W.nsIn K mainGlobals "MOST_LETTERS"=some (some (.int 6 gt5)))
  (qg6:PySem.W.nsIn K mainGlobals "MOST_ROWS"=some (some (.int 40 gt6)))
  (qg7:PySem.W.nsIn K mainGlobals "MOST_WORDS_reader"=some (some (.int 60 gt7)))
  (qg8:PySem.W.nsIn K mainGlobals "MOST_WORDS_terms"=some (some (.int 60 gt8)))
  (qg9:PySem.W.nsIn K mainGlobals "ROW_WORDS"=some (some (.ref ga9))) (qh9:K.lookup ga9=some ⟨.type "tuple",none,.seq #[.str "take" gt9_0,.str "give" gt9_1,.str "let" gt9_2,.str "say" gt9_3,.str "off" gt9_4,.str "if" gt9_5,.str "else" gt9_6,.str "end" gt9_7,.str "as" gt9_8] gn9,#[]⟩)
  (qv0:PySem.W.nsIn K mainGlobals "NoDealing"=some (some (.ref ca0)))
  (qv1:PySem.W.nsIn K mainGlobals "NoNumber"=some (some (.ref ca1)))
  (qv2:PySem.W.nsIn K mainGlobals "NoTerm"=some (some (.ref ca2)))
  (qv3:PySem.W.nsIn K mainGlobals "Reading"=some (some (.ref ca3)))
  (qv4:PySem.W.nsIn K mainGlobals "RowWords"=some (some (.ref ca4)))
  (pg3:PySem.W.plainGet K ca3 Str.empty=true) (pd3:PySem.W.hasDictIn K ca3=true) (po3:PySem.W.plainOver K ca3=true) (pe3:PySem.W.findIn K (.ref ca3) "__setattr__"=some (some (.builtin "object.__setattr__"))) (pm3_:PySem.W.makesIn K ca3=true) (pk3:PySem.W.keepIn K (.ref ca3)=true)
  (pn3_0:PySem.W.findIn K (.ref ca3) "blocks"=some none)
  (pn3_1:PySem.W.findIn K (.ref ca3) "rows"=some none)
  (pn3_2:PySem.W.findIn K (.ref ca3) "turned"=some none)
  (pg4:PySem.W.plainGet K ca4 Str.empty=true) (pd4:PySem.W.hasDictIn K ca4=true) (po4:PySem.W.plainOver K ca4=true) (pe4:PySem.W.findIn K (.ref ca4) "__setattr__"=some (some (.builtin "object.__setattr__"))) (pm4_:PySem.W.makesIn K ca4=true) (pk4:PySem.W.keepIn K (.ref ca4)=true)
  (pn4_0:PySem.W.findIn K (.ref ca4) "at"=some none)
  (pn4_1:PySem.W.findIn K (.ref ca4) "number"=some none)
  (pn4_2:PySem.W.findIn K (.ref ca4) "words"=some none)
  (xx0:XU K ca0 f6=true) (xk0:PySem.W.keepIn K (.ref ca0)=true)
  (xy0_0:PySem.W.findIn K (.ref ca0) "__getattribute__"=some (some (.builtin "BaseException.__getattribute__")))
  (xy0_1:PySem.W.findIn K (.ref ca0) "__getattr__"=some none)
  (xy0_2:PySem.W.findIn K (.ref ca0) "__class__"=some (some (.builtin "object.__class__")))
  (xy0_3:PySem.W.mroIn K ca0 (.type "object")=some true)
  (xy0_4:PySem.W.mroIn K ca0 (.type "BaseException")=some true)
  (xy0_5:PySem.W.specialIn K (.builtin "object.__class__") "__get__"=some (some (.builtin "getset_descriptor.__get__")))
  (xy0_6:PySem.W.takesIn K (.builtin "object.__class__")=some true)
  (xy0_7:PySem.W.findIn K (.ref ca0) "__setattr__"=some (some (.builtin "object.__setattr__")))
  (xo0:((PySem.W.clsIn K ca0).any fun cd=>kO cd.mro)=true) (xd0:PySem.W.hasDictIn K ca0=true) (xn0:PySem.W.findIn K (.ref ca0) "row"=some none)
  (xe0_0:PySem.W.exmOne K (.ref ca0) (.ref ca0)=some true)
  (rx0:PySem.W.excIn K ca2 qM wU=true)
  (ry0_0:PySem.W.findIn K (.ref ca2) "__getattribute__"=some (some (.builtin "BaseException.__getattribute__")))
  (ry0_1:PySem.W.findIn K (.ref ca2) "__getattr__"=some none)
  (ry0_2:PySem.W.findIn K (.ref ca2) "__class__"=some (some (.builtin "object.__class__")))
  (ry0_3:PySem.W.mroIn K ca2 (.type "object")=some true)
  (ry0_4:PySem.W.mroIn K ca2 (.type "BaseException")=some true)
  (ry0_5:PySem.W.specialIn K (.builtin "object.__class__") "__get__"=some (some (.builtin "getset_descriptor.__get__")))
  (ry0_6:PySem.W.takesIn K (.builtin "object.__class__")=some true)
  (ry0_7:PySem.W.clsIn K ca2=some cl0)
  (re0_0:PySem.W.exmOne K (.ref ca2) (.ref ca0)=some false)
  (rx1:PySem.W.excIn K ca1 qM wU=true)
  (ry1_0:PySem.W.findIn K (.ref ca1) "__getattribute__"=some (some (.builtin "BaseException.__getattribute__")))
  (ry1_1:PySem.W.findIn K (.ref ca1) "__getattr__"=some none)
  (ry1_2:PySem.W.findIn K (.ref ca1) "__class__"=some (some (.builtin "object.__class__")))
  (ry1_3:PySem.W.mroIn K ca1 (.type "object")=some true)
  (ry1_4:PySem.W.mroIn K ca1 (.type "BaseException")=some true)
  (ry1_5:PySem.W.specialIn K (.builtin "object.__class__") "__get__"=some (some (.builtin "getset_descriptor.__get__")))
  (ry1_6:PySem.W.takesIn K (.builtin "object.__class__")=some true)
  (ry1_7:PySem.W.clsIn K ca1=some cl1)
  (re1_0:PySem.W.exmOne K (.ref ca1) (.ref ca0)=some false):∃ t,Txt K mg t:=by
 have F0:=zP (st:=yJ) ql0 qc0 qk0
 have F1:=zP (st:=xW) ql1 qc1 qk1
 have F2:=zP (st:=yQ) ql2 qc2 qk2
 have F3:=zP (st:=xi) ql3 qc3 qk3
 have F4:=zP (st:=xX) ql4 qc4 qk4
 have F5:=zP (st:=yK) ql5 qc5 qk5
 have F6:=zP (st:=yo) ql6 qc6 qk6
 have F7:=zP (st:=yw) ql7 qc7 qk7
 have F8:=zP (st:=yx) ql8 qc8 qk8
 have F9:=zP (st:=z6) ql9 qc9 qk9
 have F10:=zP (st:=yp) ql10 qc10 qk10
 have F11:=zP (st:=yy) ql11 qc11 qk11
 have F12:=zP (st:=yz) ql12 qc12 qk12
 have F13:=zP (st:=zW) ql13 qc13 qk13
 have F14:=zP (st:=xY) ql14 qc14 qk14
 have F15:=zP (st:=zX) ql15 qc15 qk15
 have F16:=zP (st:=yR) ql16 qc16 qk16
 have F17:=zP (st:=xZ) ql17 qc17 qk17
 have F18:=zP (st:=yO) ql18 qc18 qk18
 have F19:=zP (st:=wL) ql19 qc19 qk19
 have F20:=zP (st:=xj) ql20 qc20 qk20
 have F21:=zP (st:=x5) ql21 qc21 qk21
 have F22:=zP (st:=wM) ql22 qc22 qk22
 have F23:=zP (st:=xA) ql23 qc23 qk23
 have F24:=zP (st:=zY) ql24 qc24 qk24
 have F25:=zP (st:=yb) ql25 qc25 qk25
 have F26:=zP (st:=xk) ql26 qc26 qk26
 have F27:=zP (st:=xB) ql27 qc27 qk27
 have F28:=zP (st:=z7) ql28 qc28 qk28
 have F29:=zP (st:=vA) ql29 qc29 qk29
 have F30:=zP (st:=qg) ql30 qc30 qk30
 have F31:=zP (st:=yS) ql31 qc31 qk31
 have F32:=zP (st:=x6) ql32 qc32 qk32
 have F33:=zP (st:=ZN) ql33 qc33 qk33
 exact ⟨⟨f0,_,f1,_,f2,_,f3,_,f4,_,f5,_,f6,_,f7,_,f8,_,f9,_,f10,_,f11,_,f12,_,f13,_,f14,_,f15,_,f16,_,f17,_,f18,_,f19,_,f20,_,f21,_,f22,_,f23,_,f24,_,f25,_,f26,_,f27,_,f28,_,f29,_,f30,_,f31,_,f32,_,f33,_,gt0,ga1,gt2,gt3,gt4,gt5,gt6,gt7,gt8,ga9,ca0,ca1,ca2,ca3,ca4⟩,⟨F0,F0.binds (ps:=["script","k"]) (fun _ _ _ _ _ _ us hl=>match us,hl with | [_,_],_=>rfl),PySem.W.mg_of X G qa0,
  F1,F1.binds (ps:=["kind","turned"]) (fun _ _ _ _ _ _ us hl=>match us,hl with | [_,_],_=>rfl),PySem.W.mg_of X G qa1,
  F2,F2.binds (ps:=["kind","turned"]) (fun _ _ _ _ _ _ us hl=>match us,hl with | [_,_],_=>rfl),PySem.W.mg_of X G qa2,
  F3,F3.binds (ps:=["cells","spot"]) (fun _ _ _ _ _ _ us hl=>match us,hl with | [_,_],_=>rfl),PySem.W.mg_of X G qa3,
  F4,F4.binds (ps:=["heads"]) (fun _ _ _ _ _ _ us hl=>match us,hl with | [_],_=>rfl),PySem.W.mg_of X G qa4,
  F5,F5.binds (ps:=["self"]) (fun _ _ _ _ _ _ us hl=>match us,hl with | [_],_=>rfl),
  F6,F6.binds (ps:=["self","row"]) (fun _ _ _ _ _ _ us hl=>match us,hl with | [_,_],_=>rfl),
  F7,F7.binds (ps:=["self","number"]) (fun _ _ _ _ _ _ us hl=>match us,hl with | [_,_],_=>rfl),⟨qa7,qi7,qk7⟩,
  F8,F8.binds (ps:=["self","number"]) (fun _ _ _ _ _ _ us hl=>match us,hl with | [_,_],_=>rfl),⟨qa8,qi8,qk8⟩,
  F9,F9.binds (ps:=["self"]) (fun _ _ _ _ _ _ us hl=>match us,hl with | [_],_=>rfl),⟨qa9,qi9,qk9⟩,
  F10,F10.binds (ps:=["self","row","number"]) (fun _ _ _ _ _ _ us hl=>match us,hl with | [_,_,_],_=>rfl),⟨qa10,qi10,qk10⟩,
  F11,F11.binds (ps:=["self","row","number"]) (fun _ _ _ _ _ _ us hl=>match us,hl with | [_,_,_],_=>rfl),⟨qa11,qi11,qk11⟩,
  F12,F12.binds (ps:=["self","words","number"]) (fun _ _ _ _ _ _ us hl=>match us,hl with | [_,_,_],_=>rfl),
  F13,F13.binds (ps:=["self"]) (fun _ _ _ _ _ _ us hl=>match us,hl with | [_],_=>rfl),⟨qa13,qi13,qk13⟩,
  F14,F14.binds (ps:=["text"]) (fun _ _ _ _ _ _ us hl=>match us,hl with | [_],_=>rfl),PySem.W.mg_of X G qa14,
  F15,F15.binds (ps:=["self"]) (fun _ _ _ _ _ _ us hl=>match us,hl with | [_],_=>rfl),⟨qa15,qi15,qk15⟩,
  F16,F16.binds (ps:=["words","at"]) (fun _ _ _ _ _ _ us hl=>match us,hl with | [_,_],_=>rfl),PySem.W.mg_of X G qa16,
  F17,F17.binds (ps:=["thing"]) (fun _ _ _ _ _ _ us hl=>match us,hl with | [_],_=>rfl),PySem.W.mg_of X G qa17,
  F18,F18.binds (ps:=["text"]) (fun _ _ _ _ _ _ us hl=>match us,hl with | [_],_=>rfl),PySem.W.mg_of X G qa18,
  F19,F19.binds (ps:=["worth"]) (fun _ _ _ _ _ _ us hl=>match us,hl with | [_],_=>rfl),PySem.W.mg_of X G qa19,
  F20,F20.binds (ps:=["text"]) (fun _ _ _ _ _ _ us hl=>match us,hl with | [_],_=>rfl),PySem.W.mg_of X G qa20,
  F21,F21.binds (ps:=["text"]) (fun _ _ _ _ _ _ us hl=>match us,hl with | [_],_=>rfl),PySem.W.mg_of X G qa21,
  F22,F22.binds (ps:=["word"]) (fun _ _ _ _ _ _ us hl=>match us,hl with | [_],_=>rfl),PySem.W.mg_of X G qa22,
  F23,F23.binds (ps:=["words","at"]) (fun _ _ _ _ _ _ us hl=>match us,hl with | [_,_],_=>rfl),PySem.W.mg_of X G qa23,
  F24,F24.binds (ps:=["self"]) (fun _ _ _ _ _ _ us hl=>match us,hl with | [_],_=>rfl),⟨qa24,qi24,qk24⟩,
  F25,F25.binds (ps:=["self"]) (fun _ _ _ _ _ _ us hl=>match us,hl with | [_],_=>rfl),⟨qa25,qi25,qk25⟩,
  F26,F26.binds (ps:=["words"]) (fun _ _ _ _ _ _ us hl=>match us,hl with | [_],_=>rfl),PySem.W.mg_of X G qa26,
  F27,F27.binds (ps:=["words"]) (fun _ _ _ _ _ _ us hl=>match us,hl with | [_],_=>rfl),PySem.W.mg_of X G qa27,
  F28,F28.binds (ps:=["self"]) (fun _ _ _ _ _ _ us hl=>match us,hl with | [_],_=>rfl),⟨qa28,qi28,qk28⟩,
  F29,F29.binds (ps:=["text","number"]) (fun _ _ _ _ _ _ us hl=>match us,hl with | [_,_],_=>rfl),PySem.W.mg_of X G qa29,
  F30,F30.binds (ps:=["text"]) (fun _ _ _ _ _ _ us hl=>match us,hl with | [_],_=>rfl),PySem.W.mg_of X G qa30,
  F31,F31.binds (ps:=["rows","around"]) (fun _ _ _ _ _ _ us hl=>match us,hl with | [_,_],_=>rfl),PySem.W.mg_of X G qa31,
  F32,F32.binds (ps:=["heads"]) (fun _ _ _ _ _ _ us hl=>match us,hl with | [_],_=>rfl),PySem.W.mg_of X G qa32,
  F33,F33.binds (ps:=["script"]) (fun _ _ _ _ _ _ us hl=>match us,hl with | [_],_=>rfl),PySem.W.mg_of X G qa33,
  fun s v=>.of_eq rfl,
  PySem.W.mg_none_of X G qz0,
  PySem.W.mg_none_of X G qz1,
  PySem.W.mg_none_of X G qz2,
  PySem.W.mg_none_of X G qz3,
  PySem.W.mg_none_of X G qz4,
  PySem.W.mg_none_of X G qz5,
  PySem.W.mg_none_of X G qz6,
  PySem.W.mg_none_of X G qz7,
  PySem.W.mg_none_of X G qz8,
  PySem.W.mg_none_of X G qz9,
  PySem.W.mg_none_of X G qz10,
  PySem.W.mg_none_of X G qz11,
  PySem.W.mg_of X G qg0,
  PySem.W.mg_of X G qg1,fun _=>.inr ⟨_,_,_,qh1,rfl,rfl,(by show 7≤sizeLine;decide),(.cons ⟨_,rfl⟩ (.cons ⟨_,rfl⟩ (.cons ⟨_,rfl⟩ (.cons ⟨_,rfl⟩ (.cons ⟨_,rfl⟩ (.cons ⟨_,rfl⟩ (.cons ⟨_,rfl⟩ .nil)))))))⟩,
  PySem.W.mg_of X G qg2,
  PySem.W.mg_of X G qg3,
  PySem.W.mg_of X G qg4,
  PySem.W.mg_of X G qg5,
  PySem.W.mg_of X G qg6,
  PySem.W.mg_of X G qg7,
  PySem.W.mg_of X G qg8,
  PySem.W.mg_of X G qg9,fun _=>.inr ⟨_,_,_,qh9,rfl,rfl,(by show 9≤sizeLine;decide),(.cons ⟨_,rfl⟩ (.cons ⟨_,rfl⟩ (.cons ⟨_,rfl⟩ (.cons ⟨_,rfl⟩ (.cons ⟨_,rfl⟩ (.cons ⟨_,rfl⟩ (.cons ⟨_,rfl⟩ (.cons ⟨_,rfl⟩ (.cons ⟨_,rfl⟩ .nil)))))))))⟩,
  PySem.W.mg_of X G qv0,
  PySem.W.mg_of X G qv1,
  PySem.W.mg_of X G qv2,
  PySem.W.mg_of X G qv3,
  PySem.W.mg_of X G qv4,
  ⟨pg3,pd3,po3,pe3⟩,
  ⟨pm3_,qa5,qi5,pk3⟩,
  pn3_0,
  pn3_1,
  pn3_2,
  ⟨pg4,pd4,po4,pe4⟩,
  ⟨pm4_,qa12,qi12,pk4⟩,
  pn4_0,
  pn4_1,
  pn4_2,
  xx0,
  xk0,
  qi6,
  ⟨⟨xy0_0,xy0_1,xy0_2,xy0_3,xy0_4,xy0_5,xy0_6⟩,xy0_7,xo0,xd0⟩,
  xn0,
  xe0_0,
  rx0,
  ⟨⟨ry0_0,ry0_1,ry0_2,ry0_3,ry0_4,ry0_5,ry0_6⟩,by rw [ry0_7];rfl⟩,
  re0_0,
  rx1,
  ⟨⟨ry1_0,ry1_1,ry1_2,ry1_3,ry1_4,ry1_5,ry1_6⟩,by rw [ry1_7];rfl⟩,
  re1_0⟩⟩
def K9 (K:PySem.W.Frag):Prop:=PySem.W.kitOne K (.type "int") (.type "bool")=some false
def JZ (K:PySem.W.Frag) (H:Hp) (x:V):Prop:=∃ T b,j8 K H x (.type T)∧PySem.W.kitOne K (.type T) (.type "int")=some b∧(b=true→PySem.W.kitOne K (.type T) (.type "bool")=some true)
structure KF (K:PySem.W.Frag):Prop where
 i_b:PySem.W.kitOne K (.type "int") (.type "bool")=some false
 s_b:PySem.W.kitOne K (.type "str") (.type "bool")=some false
 s_i:PySem.W.kitOne K (.type "str") (.type "int")=some false
 i_s:PySem.W.kitOne K (.type "int") (.type "str")=some false
 t_l:PySem.W.kitOne K (.type "tuple") (.type "list")=some false
 l_t:PySem.W.kitOne K (.type "list") (.type "tuple")=some false
 i_l:PySem.W.kitOne K (.type "int") (.type "list")=some false
 i_t:PySem.W.kitOne K (.type "int") (.type "tuple")=some false
 s_l:PySem.W.kitOne K (.type "str") (.type "list")=some false
 s_t:PySem.W.kitOne K (.type "str") (.type "tuple")=some false
def ZP (ws:List Str):Prop:=∀ w∈ws,w.length≤100∧Asc w
def zay (C:Addr) (o:Option Nat) (k:Nat) (Q:VK) (E:XK) (H:Hp):Prop:=match o with
 | some n=>if n≤60 then Q (.int ((k + n:Nat):Int)) H else E (.ref C) none H
 | none=>E (.ref C) none H
def jt (K:PySem.W.Frag):Sp:=fun vs H Q _=>∃ x,vs=[x]∧((∃ i,x=.int i∧∀ H',Same H H'→Q (.bl (inW i)) H')∨(JZ K H x∧∀ H',Same H H'→Q (.bl false) H'))
def km:Sp:=fun vs H Q _=>∃ w,vs=[.int w]∧inW w=true∧∀ H',Same H H'→Q (.str (yC w)) H'
def vk:Sp:=fun vs H Q _=>∃ x:Str,vs=[.str x]∧x.length≤1000∧∀ H',Same H H'→Q (.bl (vg x)) H'
def xx:Sp:=fun vs H Q _=>∃ x:Str,vs=[.str x]∧x.length≤1000∧∀ H',Same H H'→Q (.bl (xp x)) H'
def ju (t:Adr):Sp:=fun vs H Q E=>∃ x:Str,vs=[.str x]∧x.length≤1000∧Asc x∧∀ H',Same H H'→if xp x=true then Q (.int (xH x)) H' else E (.ref t.c_NoNumber) none H'
def wX:Sp:=fun vs H Q _=>∃ x:Str,vs=[.str x]∧x.length≤1000∧∀ H',Same H H'→Q (.bl (yr x)) H'
def kn (t:Adr):Sp:=fun vs H Q E=>∃ x:Str,vs=[.str x]∧x.length≤1000∧Asc x∧∀ H',Same H H'→(match jm x with | some v=>Q v H' | none=>E (.ref t.c_NoTerm) none H')
def wY (t:Adr):Sp:=fun vs H Q E=>∃ (a:Addr) (ws:List Str) (k:Nat),vs=[.ref a,.int k]∧H a=some (.lst (ws.map V.str))∧ws.length≤1000∧∀ H',Same H H'→zay t.c_NoTerm (yk (ws.drop k) 1) k Q E H'
def vV (t:Adr):Sp:=fun vs H Q E=>∃ (a:Addr) (ws:List Str) (k:Nat),vs=[.ref a,.int k]∧H a=some (.lst (ws.map V.str))∧ws.length≤1000∧ZP ws ∧
 ((∃ ps e,xw ws k=some (ps,e)∧∀ H' p r,Same H H'→H' p=some (.tup [.ref r,.int (e:Nat)])→H' r=some (.tup ps)→Q (.ref p) H')∨(xw ws k=none∧∀ H',Same H H'→E (.ref t.c_NoTerm) none H'))
structure WrF (K:PySem.W.Frag) (t:Adr):Prop where
 cl:Cls K t.c_RowWords
 n1:NoAttr K t.c_RowWords "words"
 n2:NoAttr K t.c_RowWords "number"
 n3:NoAttr K t.c_RowWords "at"
structure WrAt (t:Adr) (H:Hp) (x dx wa:Addr) (ws:List Str) (n:Int) (k:Nat):Prop where
 ix:H x=some (.ins t.c_RowWords dx [("words",.ref wa),("number",.int n),("at",.int k)])
 hw:H wa=some (.lst (ws.map V.str))
def SameX (x:Addr) (H H':Hp):Prop:=∀ b o,b≠x→H b=some o→H' b=some o
def x8 (t:Adr):Sp:=fun vs H Q _=>∃ x wa n dx ws,vs=[.ref x,.ref wa,.int n]∧H x=some (.ins t.c_RowWords dx [])∧H wa=some (.lst (List.map V.str ws))∧∀ H',SameX x H H'→WrAt t H' x dx wa ws n 0→Q .non H'
def zL (t:Adr):Sp:=fun vs H Q _=>∃ x dx wa ws n k w,vs=[.ref x]∧WrAt t H x dx wa ws n k∧ws[k]?=some w∧∀ H',SameX x H H'→WrAt t H' x dx wa ws n (k + 1)→Q (.str w) H'
def xq (t:Adr):Sp:=fun vs H Q _=>∃ x dx wa ws n k,vs=[.ref x]∧WrAt t H x dx wa ws n k∧ws[k]?=some "as"∧∀ H',SameX x H H'→WrAt t H' x dx wa ws n (k + 1)→Q .non H'
def zM (t:Adr):Sp:=fun vs H Q _=>∃ x dx wa ws n k w,vs=[.ref x]∧WrAt t H x dx wa ws n k∧ws[k]?=some w∧yr w=true∧∀ H',SameX x H H'→WrAt t H' x dx wa ws n (k + 1)→Q (.str w) H'
def zG (t:Adr):Sp:=fun vs H Q _=>∃ x dx wa ws n k ps e,vs=[.ref x]∧WrAt t H x dx wa ws n k∧xw ws k=some (ps,e)∧ws.length≤1000∧ZP ws∧∀ H' r,SameX x H H'→WrAt t H' x dx wa ws n e→H' r=some (.tup ps)→r≠x→Q (.ref r) H'
def y7 (t:Adr):Sp:=fun vs H Q _=>∃ x dx wa ws n,vs=[.ref x]∧WrAt t H x dx wa ws n ws.length∧∀ H',Same H H'→Q .non H'
inductive Hd where
 | take (sh:Str) (T:Tw) (sl:Str)
 | give (sh:Str) (T U:Tw)
 | lt (sl:Str) (T:Tw)
 | say (T:Tw)
 | off (T:Tw)
 | iff (T:Tw)
 | els
 | nd
def Hd.words:Hd→List Str
 | .take sh T sl=>([("take":Str),sh] ++ pre T) ++ [("as":Str),sl]
 | .give sh T U=>([("give":Str),sh] ++ pre T) ++ pre U
 | .lt sl T=>[("let":Str),sl] ++ pre T
 | .say T=>[("say":Str)] ++ pre T
 | .off T=>[("off":Str)] ++ pre T
 | .iff T=>[("if":Str)] ++ pre T
 | .els=>[("else":Str)]
 | .nd=>[("end":Str)]
structure TmOk (T:Tw):Prop where
 wf:wfT T
 ok:okT T=true
 ws:ZP (pre T)
def Hd.ok:Hd→Prop
 | .take sh T sl=>yr sh=true∧TmOk T∧yr sl=true
 | .give sh T U=>yr sh=true∧TmOk T∧TmOk U
 | .lt sl T=>yr sl=true∧TmOk T
 | .say T=>TmOk T
 | .off T=>TmOk T
 | .iff T=>TmOk T
 | .els=>True
 | .nd=>True
def HdAt (F:Addr→Prop) (H:Hp) (v:V):Hd→Prop
 | .take sh T sl=>∃ r te,v=.ref r∧H r=some (.tup [.str "take",.str sh,.ref te,.str sl])∧H te=some (.tup (pst T))
 | .give sh T U=>∃ r te tf,v=.ref r∧H r=some (.tup [.str "give",.str sh,.ref te,.ref tf])∧H te=some (.tup (pst T))∧H tf=some (.tup (pst U))
 | .lt sl T=>∃ r te,v=.ref r∧H r=some (.tup [.str "let",.str sl,.ref te])∧H te=some (.tup (pst T))
 | .say T=>∃ r te,v=.ref r∧H r=some (.tup [.str "say",.ref te])∧H te=some (.tup (pst T))
 | .off T=>∃ r te,v=.ref r∧H r=some (.tup [.str "off",.ref te])∧H te=some (.tup (pst T))
 | .iff T=>∃ r te la lb,v=.ref r∧H r=some (.tup [.str "if",.ref te,.ref la,.ref lb])∧H te=some (.tup (pst T))∧H la=some (.lst [])∧H lb=some (.lst [])∧F la∧F lb∧la≠lb
 | .els=>∃ r,v=.ref r∧H r=some (.tup [.str "else"])
 | .nd=>∃ r,v=.ref r∧H r=some (.tup [.str "end"])
def vm (t:Adr):Sp:=fun vs H Q _=>∃ x dx wa ws n sh T sl,vs=[.ref x]∧WrAt t H x dx wa ws n 1∧ws=Hd.words (.take sh T sl)∧Hd.ok (.take sh T sl)∧ZP ws∧ws.length≤60∧∀ H' v,SameX x H H'→WrAt t H' x dx wa ws n ws.length→HdAt (fun b=>H b=none) H' v (.take sh T sl)→Q v H'
def vW (t:Adr):Sp:=fun vs H Q _=>∃ x dx wa ws n hd,vs=[.ref x]∧WrAt t H x dx wa ws n 0∧ws=Hd.words hd∧hd.ok∧ZP ws∧ws.length≤60∧∀ H' v,SameX x H H'→WrAt t H' x dx wa ws n ws.length→HdAt (fun b=>H b=none) H' v hd→Q v H'
def Qa:Str:=⟨#[32]⟩
def Yd:Str:=⟨#[10]⟩
def Hd.line (h:Hd):Str:=Str.join Qa h.words
structure wZ (hd:Hd):Prop where
 ok:hd.ok
 ws:ZP hd.words
 ln:hd.words.length≤60
 bl:∀ w∈hd.words,32 ∉ w.cps.toList∧10 ∉ w.cps.toList
def ndE (t:Adr) (E:XK) (H:Hp) (k:Int):Prop:=∀ d H',Same H H'→H' d=some (.xd [("row",.int k)])→E (.ref t.c_NoDealing) (some d) H'
abbrev kT (t:Adr):Sp:=WI t.c_NoDealing "row"
def ql (t:Adr):Sp:=fun vs H Q E=>∃ (x:Str) (n:Nat) (hd:Hd),vs=[.str x,.int n]∧x=hd.line∧wZ hd∧(n < 40→∀ H' v,Same H H'→HdAt (fun b=>H b=none) H' v hd→Q v H')∧(40≤n→ndE t E H n)
structure RdF (K:PySem.W.Frag) (t:Adr):Prop where
 cl:Cls K t.c_Reading
 n1:NoAttr K t.c_Reading "rows"
 n2:NoAttr K t.c_Reading "blocks"
 n3:NoAttr K t.c_Reading "turned"
structure RdAt (t:Adr) (H:Hp) (x dx rl bl tl:Addr) (blocks:List V) (turned:List Bool):Prop where
 ix:H x=some (.ins t.c_Reading dx [("rows",.ref rl),("blocks",.ref bl),("turned",.ref tl)])
 hb:H bl=some (.lst blocks)
 ht:H tl=some (.lst (turned.map V.bl))
 n1:rl≠bl
 n2:rl≠tl
 n3:bl≠tl
 le:blocks.length=turned.length
 l5:blocks.length≤5
def Inn (H:Hp) (rl:Addr) (blocks:List V) (turned:List Bool) (inn:Addr):Prop:=(blocks=[]∧inn=rl)∨∃ bs r hd te la lb cs c,blocks=bs ++ [.ref r]∧turned=cs ++ [c]∧H r=some (.tup [hd,te,.ref la,.ref lb])∧inn=if c=true then lb else la
def wz (t:Adr):Sp:=fun vs H Q _=>∃ x dx,vs=[.ref x]∧H x=some (.ins t.c_Reading dx [])∧∀ H' rl bl tl,SameX x H H'→RdAt t H' x dx rl bl tl [] []→H' rl=some (.lst [])→H rl=none→H bl=none→H tl=none→Q .non H'
def ye (t:Adr):Sp:=fun vs H Q _=>∃ x dx rl bl tl blocks turned inn,vs=[.ref x]∧RdAt t H x dx rl bl tl blocks turned∧Inn H rl blocks turned inn∧∀ H',Same H H'→Q (.ref inn) H'
def Q8 (t:Adr) (H:Hp) (inn bl tl:Addr) (zs blocks:List V) (turned:List Bool) (v:V) (n:Int) (Q:VK) (E:XK):Prop:=(blocks.length < 5→∀ H1,Same H H1→Q .non (upd (upd (upd H1 inn (.lst (zs ++ [v]))) bl (.lst (blocks ++ [v]))) tl (.lst ((turned ++ [false]).map V.bl))))∧(blocks.length=5→ndE t E H n)
def Q9 (t:Adr) (H:Hp) (tl:Addr) (blocks:List V) (turned:List Bool) (n:Int) (Q:VK) (E:XK):Prop:=(∃ bs b cs,blocks=bs ++ [b]∧turned=cs ++ [false]∧∀ H1,Same H H1→Q .non (upd H1 tl (.lst ((cs ++ [true]).map V.bl))))∨((blocks=[]∨∃ bs b cs,blocks=bs ++ [b]∧turned=cs ++ [true])∧ndE t E H n)
def zaa (t:Adr) (H:Hp) (bl tl:Addr) (blocks:List V) (turned:List Bool) (n:Int) (Q:VK) (E:XK):Prop:=(∃ bs b cs c,blocks=bs ++ [b]∧turned=cs ++ [c]∧∀ H1,Same H H1→Q .non (upd (upd H1 bl (.lst bs)) tl (.lst (cs.map V.bl))))∨(blocks=[]∧ndE t E H n)
def xK (t:Adr):Sp:=fun vs H Q E=>∃ x v n dx rl bl tl blocks turned inn zs,vs=[.ref x,v,.int n]∧RdAt t H x dx rl bl tl blocks turned∧Inn H rl blocks turned inn∧H inn=some (.lst zs)∧zs.length≤1000∧inn≠bl∧inn≠tl∧Q8 t H inn bl tl zs blocks turned v n Q E
def x9 (t:Adr):Sp:=fun vs H Q E=>∃ x n dx rl bl tl blocks turned,vs=[.ref x,.int n]∧RdAt t H x dx rl bl tl blocks turned∧Q9 t H tl blocks turned n Q E
def wb (t:Adr):Sp:=fun vs H Q E=>∃ x n dx rl bl tl blocks turned,vs=[.ref x,.int n]∧RdAt t H x dx rl bl tl blocks turned∧zaa t H bl tl blocks turned n Q E
def Hd.plain:Hd→Prop
 | .iff _=>False
 | .els=>False
 | .nd=>False
 | _=>True
def zaz (t:Adr) (H:Hp) (rl bl tl:Addr) (blocks:List V) (turned:List Bool) (v:V) (n:Int) (hd:Hd) (Q:VK) (E:XK):Prop :=
 (hd=.els∧Q9 t H tl blocks turned n Q E)∨(hd=.nd∧zaa t H bl tl blocks turned n Q E) ∨
  ((∃ T,hd=.iff T)∧∃ inn zs,Inn H rl blocks turned inn∧H inn=some (.lst zs)∧zs.length≤1000∧inn≠bl∧inn≠tl∧Q8 t H inn bl tl zs blocks turned v n Q E) ∨
  (hd.plain∧∃ inn zs,Inn H rl blocks turned inn∧H inn=some (.lst zs)∧zs.length≤1000∧∀ H1,Same H H1→Q .non (upd H1 inn (.lst (zs ++ [v]))))
def wc (t:Adr):Sp:=fun vs H Q E=>∃ x v n dx rl bl tl blocks turned hd F,vs=[.ref x,v,.int n]∧RdAt t H x dx rl bl tl blocks turned∧HdAt F H v hd∧zaz t H rl bl tl blocks turned v n hd Q E
mutual
inductive Tr where
 | row (h:Hd)
 | iff (T:Tw) (a b:Trs)
inductive Trs where
 | nil
 | cons (x:Tr) (r:Trs)
end
mutual
def TrAt (F:Addr→Prop) (H:Hp) (v:V):Tr→Prop
 | .row h=>HdAt ki H v h
 | .iff T a b=>∃ r te la lb xs ys,v=.ref r∧F la∧F lb∧H r=some (.tup [.str "if",.ref te,.ref la,.ref lb])∧H te=some (.tup (pst T))∧H la=some (.lst xs)∧TrsAt F H xs a∧H lb=some (.lst ys)∧TrsAt F H ys b
def TrsAt (F:Addr→Prop) (H:Hp) (vs:List V):Trs→Prop
 | .nil=>vs=[]
 | .cons x r=>∃ v ws,vs=v :: ws∧TrAt F H v x∧TrsAt F H ws r
end
mutual
def Tr.deep:Tr→Nat
 | .row _=>0
 | .iff _ a b=>max a.deep b.deep + 1
def Trs.deep:Trs→Nat
 | .nil=>0
 | .cons x r=>max x.deep r.deep
end
def Trs.len:Trs→Nat
 | .nil=>0
 | .cons _ r=>r.len + 1
mutual
def Tr.ok:Tr→Prop
 | .row h=>wZ h∧h.plain
 | .iff T a b=>wZ (.iff T)∧a.ok∧b.ok
def Trs.ok:Trs→Prop
 | .nil=>True
 | .cons x r=>x.ok∧r.ok
end
def Trs.snoc:Trs→Tr→Trs
 | .nil,x=>.cons x .nil
 | .cons y r,x=>.cons y (r.snoc x)
mutual
def zaA:Tr→List Hd
 | .row h=>[h]
 | .iff T a b=>.iff T :: (J1 a ++ (els b ++ [Hd.nd]))
def els:Trs→List Hd
 | .nil=>[]
 | .cons x r=>.els :: (zaA x ++ J1 r)
def J1:Trs→List Hd
 | .nil=>[]
 | .cons x r=>zaA x ++ J1 r
end
structure Fm where
 T:Tw
 c:Bool
 a:Trs
 up:Trs
def stp:Trs→List Fm→Hd→Option (Trs × List Fm)
 | D,fs,.iff T=>if fs.length < 5 then some (.nil,⟨T,false,.nil,D⟩ :: fs) else none
 | D,fs,.els=>match fs with | f :: r=>if f.c=false then some (.nil,⟨f.T,true,D,f.up⟩ :: r) else none | []=>none
 | D,fs,.nd=>match fs with | f :: r=>some (f.up.snoc (.iff f.T (if f.c=true then f.a else D) (if f.c=true then D else .nil)),r) | []=>none
 | D,fs,h=>some (D.snoc (.row h),fs)
def run:Trs→List Fm→List Hd→Option (Trs × List Fm)
 | D,fs,[]=>some (D,fs)
 | D,fs,h :: r=>match stp D fs h with | some z=>run z.1 z.2 r | none=>none
def rdE:Trs→List Fm→Nat→List Hd→Except Nat Trs
 | D,fs,k,[]=>if fs.length=0 then .ok D else .error k
 | D,fs,k,h :: r=>if 40≤k then .error k else match stp D fs h with | some z=>rdE z.1 z.2 (k + 1) r | none=>.error k
def kU (t:Adr):Sp:=fun vs H Q E=>∃ (x:Str) (ts:List Hd),vs=[.str x]∧x=Str.join Yd (ts.map Hd.line)∧x.length≤100000∧ts.length≤150∧(∀ h∈ts,wZ h)∧(∀ D,rdE .nil [] 0 ts=.ok D→∀ H' l xs,Same H H'→H' l=some (.lst xs)→TrsAt ki H' xs D→Q (.ref l) H')∧∀ k,rdE .nil [] 0 ts=.error k→ndE t E H k
inductive Kd where
 | i | s | e | n
def kS:Kd→Str
 | .i=>"if" | .s=>"say" | .e=>"else" | .n=>"end"
abbrev Kw:=Kd × Int
def vb:Kd→List Bool→Bool
 | .i,cs=>decide (cs.length < 5)
 | .e,cs=>match cs.getLast? with | some c=>!c | none=>false
 | .n,cs=>match cs with | []=>false | _ :: _=>true
 | .s,_=>true
def jv:Kd→List Bool→List Bool
 | .i,cs=>cs ++ [false]
 | .e,cs=>cs.dropLast ++ [true]
 | .n,cs=>cs.dropLast
 | .s,cs=>cs
def vB:List Bool→Nat→List Kw→Int
 | cs,k,[]=>match cs with | []=>-1 | _ :: _=>k
 | cs,k,h :: r=>if k=40∨vb h.1 cs=false then k else vB (jv h.1 cs) (k + 1) r
def lfT (w:Int):Tw:=.leaf (yC w)
def wt:Kw→Hd
 | (.i,w)=>.iff (lfT w)
 | (.s,w)=>.say (lfT w)
 | (.e,_)=>.els
 | (.n,_)=>.nd
def VI (H:Hp) (v:V) (h:Kw):Prop:=∃ r,v=.ref r∧H r=some (.tup [.str (kS h.1),.int h.2])
def jW (H:Hp) (l:Addr) (hs:List Kw):Prop:=∃ xs,H l=some (.lst xs)∧Paired (VI H) xs hs∧∀ h∈hs,inW h.2=true
def wA (K:PySem.W.Frag):Sp:=fun vs H Q _=>∃ (a:Addr) (ns:List Int) (k:Nat),vs=[.ref a,.int k]∧SqL K H a (ns.map V.int)∧ns.length≤63∧∀ c H',Same H H'→Q (.int c) H'
def y8:Sp:=fun vs H Q _=>∃ k tl cs,vs=[.str (kS k),.ref tl]∧H tl=some (.lst (List.map V.bl cs))∧cs.length≤200∧∀ H',Same H H'→Q (.bl (vb k cs)) H'
def yL:Sp:=fun vs H Q _=>∃ k tl cs,vs=[.str (kS k),.ref tl]∧H tl=some (.lst (List.map V.bl cs))∧cs.length≤200∧∀ l H',Same H H'→H' l=some (.lst (List.map V.bl (jv k cs)))→(l=tl∨H l=none)→Q (.ref l) H'
def vn:Sp:=fun vs H Q _=>∃ (p:Addr) (spot:Int) (ns:List Int),vs=[.ref p,.int spot]∧H p=some (.lst (ns.map V.int))∧ns.length≤63∧∀ r l hs (m:Nat) H',Same H H'→H' r=some (.tup [.ref l,.int m])→jW H' l hs→hs.length≤63→m≤63→Q (.ref r) H'
def jx:Sp:=fun vs H Q _=>∃ l hs,vs=[.ref l]∧jW H l hs∧hs.length≤150∧∀ H',Same H H'→Q (.int (vB [] 0 hs)) H'
def Y6 (H:Hp) (v:V) (p:Int × Int):Prop:=∃ r,v=.ref r∧H r=some (.tup [.int p.1,.int p.2])
def ArAt (H:Hp) (a:Addr) (ar:List (Int × Int)):Prop:=∃ vs,H a=some (.tup vs)∧Paired (Y6 H) vs ar
abbrev Fd:=List (Int × Int) × Kd × Int
def Ye (H:Hp) (v:V) (f:Fd):Prop:=∃ r a,v=.ref r∧H r=some (.tup [.ref a,.str (kS f.2.1),.int f.2.2])∧ArAt H a f.1
def Y7 (H:Hp) (l:Addr) (fs:List Fd):Prop:=∃ ys,H l=some (.lst ys)∧Paired (Ye H) ys fs
def Y8:Kw→List (Int × Int)→List (Int × Int)
 | (.i,w),ar=>ar ++ [(w,0)]
 | (.e,_),ar=>ar.dropLast ++ [((ar.getLast?.getD (0,0)).1,1)]
 | (.n,_),ar=>ar.dropLast
 | (.s,_),ar=>ar
def XY:Kw→List (Int × Int)→List Fd
 | (.i,w),ar=>[(ar,.i,w)]
 | (.s,w),ar=>[(ar,.s,w)]
 | _,_=>[]
def duF:List (Int × Int)→List Kw→List Fd
 | _,[]=>[]
 | ar,h :: r=>XY h ar ++ duF (Y8 h ar) r
def VJ:List (Int × Int)→List Kw→Prop
 | _,[]=>True
 | ar,h :: r=>(h.1=.e→ar≠[])∧VJ (Y8 h ar) r
def jy:Sp:=fun vs H Q _=>∃ l hs,vs=[.ref l]∧jW H l hs∧hs.length≤150∧VJ [] hs∧∀ p H',Same H H'→Y7 H' p (duF [] hs)→Q (.ref p) H'
def wT (T:Tw):Int:=match pst T with | [.int w]=>w | _=>0
mutual
def wkT:Tr→List (Int × Int)→List Fd
 | .row (.say T),ar=>[(ar,.s,wT T)]
 | .row _,_=>[]
 | .iff T a b,ar=>(ar,.i,wT T) :: (yD a (ar ++ [(wT T,0)]) ++ yD b (ar ++ [(wT T,1)]))
def yD:Trs→List (Int × Int)→List Fd
 | .nil,_=>[]
 | .cons x r,ar=>wkT x ar ++ yD r ar
end
mutual
def swT:Tr→Prop
 | .row h=>∃ w,h=.say (lfT w)∧inW w=true
 | .iff T a b=>(∃ w,T=lfT w∧inW w=true)∧wB a∧wB b
def wB:Trs→Prop
 | .nil=>True
 | .cons x r=>swT x∧wB r
end
def yf (n:Nat):Sp:=fun vs H Q _=>∃ l xs D a ar,vs=[.ref l,.ref a]∧H l=some (.lst xs)∧TrsAt ki H xs D∧wB D∧D.deep < n∧(yD D ar).length≤200∧ArAt H a ar∧ar.length + D.deep≤200∧∀ p H',Same H H'→Y7 H' p (yD D ar)→Q (.ref p) H'
structure NdF (K:PySem.W.Frag) (t:Adr):Prop where
 es:ExS K t.c_NoDealing
 nx:NoAttr K t.c_NoDealing "row"
 ex:PySem.W.exmOne K (.ref t.c_NoDealing) (.ref t.c_NoDealing)=some true
def sp_law (K:PySem.W.Frag):Sp:=fun vs H Q _=>∃ (a:Addr) (ns:List Int),vs=[.ref a]∧SqL K H a (ns.map V.int)∧ns.length≤63∧∀ H',Q (.bl true) H'
def wC (K:PySem.W.Frag) (t:Adr):TS:=(zn (zw (zo (tOp (rI0 fun i j=>.bl (decide (i < j))) (ze 1) (tCB (yB K) (zd (ze 0) zj))))
   (zA (tOp (xP K) (ze 0) (ze 1)))
   zq)
  (zA (tC (.int 0))))
def jz (K:PySem.W.Frag) (t:Adr):TS:=(zn (zw (zo (tOp rEq (ze 0) (tC (.str "if"))))
   (zA (tOp (rI0 fun i j=>.bl (decide (i < j))) (tCB (yB K) (zd (ze 1) zj)) (tC (.int 5))))
   zq)
  (zn (zw (zo (tOp rEq (ze 0) (tC (.str "else"))))
    (zA (wP (tOp (xJ K) (ze 1) (yi zj)) (jY (tOp (xP K) (ze 1) (tUn (rU fun i=>.int (-i)) (tC (.int 1)))))))
    zq)
  (zn (zw (zo (tOp rEq (ze 0) (tC (.str "end"))))
    (zA (tOp (xJ K) (ze 1) (yi zj)))
    zq)
  (zA (tC (.bl true))))))
def w5 (K:PySem.W.Frag) (t:Adr):TS:=(zn (zw (zo (tOp rEq (ze 0) (tC (.str "if"))))
   (zA (tOp wJ (ze 1) (yi (zd (tC (.bl false)) zj))))
   zq)
  (zn (zw (zo (tOp rEq (ze 0) (tC (.str "else"))))
    (zA (tOp wJ (tSl (Zv K) (ze 1) xD (xz (tUn (rU fun i=>.int (-i)) (tC (.int 1))))) (yi (zd (tC (.bl true)) zj))))
    zq)
  (zn (zw (zo (tOp rEq (ze 0) (tC (.str "end"))))
    (zA (tSl (Zv K) (ze 1) xD (xz (tUn (rU fun i=>.int (-i)) (tC (.int 1))))))
    zq)
  (zA (ze 1)))))
def wD (K:PySem.W.Frag) (t:Adr):TS:=(zn (zJ (tOp (rI0 fun i j=>.int (i - j)) (tOp (rI (fun _ j=>0 < j) fun i j=>.int (i % j)) (tOp (rI0 fun i j=>.int (i + j)) (tOp (rI qL fun i j=>.int (i / j)) (tOp (xP K) (ze 0) (ze 4)) (tC (.int 7))) (tOp (rI Wk fun i j=>.int (i ^ j.toNat)) (tC (.int 10)) (tC (.int 30)))) (tOp (rI0 fun i j=>.int (i + j)) (tOp (rI CMulB fun i j=>.int (i * j)) (tC (.int 2)) (tOp (rI Wk fun i j=>.int (i ^ j.toNat)) (tC (.int 10)) (tC (.int 30)))) (tC (.int 1)))) (tOp (rI Wk fun i j=>.int (i ^ j.toNat)) (tC (.int 10)) (tC (.int 30)))) (zm 6))
  (zn (zU (tBM K "list" zr (ze 2) (zd (yh (zd (ze 5) (zd (ze 6) zj))) zj)))
  (zw (tB (zI y8 [] E0 (zd (ze 5) (zd (ze 3) zj))))
    (zJ (zI yL [] E0 (zd (ze 5) (zd (ze 3) zj))) (zm 3))
    zq)))
def v6 (K:PySem.W.Frag) (t:Adr):TS:=(zA (yh (zd (ze 2) (zd (tCB (yB K) (zd (ze 3) zj)) zj))))
def v7 (K:PySem.W.Frag) (t:Adr):TS:=(zn (ww (kB (zd (tCB (yB K) (zd (ze 0) zj)) zj)) (zm 4)
   (zn (zJ (tOp (xP K) (yi (zd (tC (.str "if")) (zd (tC (.str "say")) (zd (tC (.str "else")) (zd (tC (.str "end")) (zd (tC (.str "if")) (zd (tC (.str "say")) (zd (tC (.str "end")) zj)))))))) (tOp (rI (fun _ j=>0 < j) fun i j=>.int (i % j)) (tOp (xP K) (ze 0) (ze 4)) (tC (.int 7)))) (zm 5))
  (zw (tOr (tB (zI y8 [] E0 (zd (ze 5) (zd (ze 3) zj)))) (zo (tOp rEq (ze 4) (ze 1))))
    (wD K t)
    zq)))
  (v6 K t))
def vo (K:PySem.W.Frag) (t:Adr):TS:=(zn (zJ (yi zj) (zm 2))
  (zn (zJ (yi zj) (zm 3))
  (v7 K t)))
def jZ (K:PySem.W.Frag) (t:Adr):TS:=(zn (zw (zo (tOp (xJ K) (ze 1) (yi zj)))
   (zA (tCB (yB K) (zd (ze 0) zj)))
   zq)
  (zA (tUn (rU fun i=>.int (-i)) (tC (.int 1)))))
def j0 (K:PySem.W.Frag) (t:Adr):TS:=(zn (ww (kB (zd (tCB (yB K) (zd (ze 0) zj)) zj)) (zm 2)
   (zn (zw (tOr (zo (tOp rEq (ze 2) (tC (.int 40)))) (vI (tB (zI y8 [] E0 (zd (tOp (zV K) (tOp (xP K) (ze 0) (ze 2)) (tC (.int 0))) (zd (ze 1) zj))))))
   (zA (ze 2))
   zq)
  (zJ (zI yL [] E0 (zd (tOp (zV K) (tOp (xP K) (ze 0) (ze 2)) (tC (.int 0))) (zd (ze 1) zj))) (zm 1))))
  (jZ K t))
def jA (K:PySem.W.Frag) (t:Adr):TS:=(zn (zJ (yi zj) (zm 1))
  (j0 K t))
def wE (K:PySem.W.Frag) (t:Adr):TS:=(zn (qS K (ze 0) (yi zj) "rows")
  (zn (qS K (ze 0) (yi zj) "blocks")
  (qS K (ze 0) (yi zj) "turned")))
def xL (K:PySem.W.Frag) (t:Adr):TS:=(JW t.c_NoDealing (ze 0) (ze 1) "row")
def wd (K:PySem.W.Frag) (t:Adr) (E:XK):TS:=(zn (zw (tOr (zo (tOp (kc K) (yU K (ze 0) "blocks") (yi zj))) (tB (tOp (xP K) (yU K (ze 0) "turned") (tUn (rU fun i=>.int (-i)) (tC (.int 1))))))
   (yN t.c_NoDealing "row" (zd (ze 1) zj) E)
   zq)
  (JS (yU K (ze 0) "turned") (tUn (rU fun i=>.int (-i)) (tC (.int 1))) (tC (.bl true))))
def we (K:PySem.W.Frag) (t:Adr) (E:XK):TS:=(zn (zw (zo (tOp (kc K) (yU K (ze 0) "blocks") (yi zj)))
   (yN t.c_NoDealing "row" (zd (ze 1) zj) E)
   zq)
  (zn (zU (Zx K "list" xu (yU K (ze 0) "blocks")))
  (zU (Zx K "list" xu (yU K (ze 0) "turned")))))
def y9 (K:PySem.W.Frag) (t:Adr):TS:=(zn (zw (zo (tOp (kc K) (yU K (ze 0) "blocks") (yi zj)))
   (zA (yU K (ze 0) "rows"))
   zq)
  (zA (tIf (tB (tOp (xP K) (yU K (ze 0) "turned") (tUn (rU fun i=>.int (-i)) (tC (.int 1))))) (tOp (zV K) (tOp (xP K) (yU K (ze 0) "blocks") (tUn (rU fun i=>.int (-i)) (tC (.int 1)))) (tC (.int 3))) (tOp (zV K) (tOp (xP K) (yU K (ze 0) "blocks") (tUn (rU fun i=>.int (-i)) (tC (.int 1)))) (tC (.int 2))))))
def xM (K:PySem.W.Frag) (t:Adr) (E:XK):TS:=(zn (zw (zo (tOp rEq (tCB (yB K) (zd (yU K (ze 0) "blocks") zj)) (tC (.int 5))))
   (yN t.c_NoDealing "row" (zd (ze 2) zj) E)
   zq)
  (zn (zU (tBM K "list" zr (yj t.c_Reading "innermost" (ye t) [] E (ze 0) zj) (zd (ze 1) zj)))
  (zn (zU (tBM K "list" zr (yU K (ze 0) "blocks") (zd (ze 1) zj)))
  (zU (tBM K "list" zr (yU K (ze 0) "turned") (zd (tC (.bl false)) zj))))))
def wg (K:PySem.W.Frag) (t:Adr) (E:XK):TS:=(zw (zo (tOp rEq (tOp (zV K) (ze 1) (tC (.int 0))) (tC (.str "else"))))
   (zU (yj t.c_Reading "turns" (x9 t) [] E (ze 0) (zd (ze 2) zj)))
   (zw (zo (tOp rEq (tOp (zV K) (ze 1) (tC (.int 0))) (tC (.str "end"))))
   (zU (yj t.c_Reading "shuts" (wb t) [] E (ze 0) (zd (ze 2) zj)))
   (zw (zo (tOp rEq (tOp (zV K) (ze 1) (tC (.int 0))) (tC (.str "if"))))
   (zU (yj t.c_Reading "begins" (xK t) [] E (ze 0) (zd (ze 1) (zd (ze 2) zj))))
   (zU (tBM K "list" zr (yj t.c_Reading "innermost" (ye t) [] E (ze 0) zj) (zd (ze 1) zj))))))
def wj (K:PySem.W.Frag) (t:Adr):TS:=(zn (qS K (ze 0) (ze 1) "words")
  (zn (qS K (ze 0) (ze 2) "number")
  (qS K (ze 0) (tC (.int 0)) "at")))
def yV (K:PySem.W.Frag) (t:Adr):TS:=(zn (zw (zo (tOp rEq (yU K (ze 0) "at") (tCB (yB K) (zd (yU K (ze 0) "words") zj))))
   wQ
   zq)
  (zn (zJ (tOp (xP K) (yU K (ze 0) "words") (yU K (ze 0) "at")) (zm 1))
  (zn (Zb K (ze 0) (tC (.int 1)) Kv "at")
  (zA (ze 1)))))
def ko (K:PySem.W.Frag) (t:Adr):TS:=(zn (zw (tOr (zo (tOp rEq (ze 0) (tC (.str "")))) (zo (tOp (rI0 fun i j=>.bl (decide (j < i))) (tCB (yB K) (zd (ze 0) zj)) (tC (.int 6)))))
   (zA (tC (.bl false)))
   zq)
  (zn (zw (tOr (zo (tOp (rIn K false) (ze 0) (tC (.ref t.c_JOINING)))) (zo (tOp (rIn K false) (ze 0) (tC (.ref t.c_ROW_WORDS)))))
    (zA (tC (.bl false)))
    zq)
  (zA (tCB (Jd K) (zd (jj (Jh (ze 0)) (zm 0) Z8 (tOp KH (ze 0) (tC (.str "abcdefghijklmnopqrstuvwxyz"))) 1 []) zj)))))
def yW (K:PySem.W.Frag) (t:Adr):TS:=(zn (zJ (yj t.c_RowWords "draw_word" (zL t) [] E0 (ze 0) zj) (zm 1))
  (zn (zw (vI (tB (zI wX [] E0 (zd (ze 1) zj))))
    wQ
    zq)
  (zA (ze 1))))
def w6 (K:PySem.W.Frag) (t:Adr) (E:XK):TS:=(zn (zJ (tC (.int 1)) (zm 2))
  (zn (zJ (ze 1) (zm 3))
  (zn (Wi (zo (tOp (rI0 fun i j=>.bl (decide (j < i))) (ze 2) (tC (.int 0)))) (zn (zw (zo (tOp (rI0 fun i j=>.bl (decide (j≤i))) (ze 3) (tCB (yB K) (zd (ze 0) zj))))
    (vP t.c_NoTerm (zd (tC (.str "the words end ahead of the term's end")) zj) E)
    zq)
  (zn (zw (zo (tOp rEq (tOp (rI0 fun i j=>.int (i - j)) (ze 3) (ze 1)) (tC (.int 60))))
    (vP t.c_NoTerm (zd (tC (.str "a term of more than sixty words")) zj) E)
    zq)
  (zn (zJ (tIf (zo (tOp (rIn K false) (tOp (xP K) (ze 0) (ze 3)) (tC (.ref t.c_JOINING)))) (tOp (rI0 fun i j=>.int (i + j)) (ze 2) (tC (.int 1))) (tOp (rI0 fun i j=>.int (i - j)) (ze 2) (tC (.int 1)))) (zm 2))
  (Kr 3 (tC (.int 1)) (ipI fun i j=>i + j))))))
  (zA (ze 3)))))
def jB (K:PySem.W.Frag) (t:Adr):TS:=(zn (zw (tOr (vI (tB (tCB (vO K) (zd (ze 0) (zd (tC (.ty "int")) zj))))) (tB (tCB (vO K) (zd (ze 0) (zd (tC (.ty "bool")) zj)))))
   (zA (tC (.bl false)))
   zq)
  (zA (Wl (rI0 fun i j=>.bl (decide (i≤j))) (rI0 fun i j=>.bl (decide (i≤j))) (tUn (rU fun i=>.int (-i)) (tOp (rI Wk fun i j=>.int (i ^ j.toNat)) (tC (.int 10)) (tC (.int 30)))) (ze 0) (tOp (rI Wk fun i j=>.int (i ^ j.toNat)) (tC (.int 10)) (tC (.int 30))))))
def vp (K:PySem.W.Frag) (t:Adr):TS:=(zA (wP (tOp rNe (ze 0) (tC (.str ""))) (tCB (Jd K) (zd (jj (Jh (ze 0)) (zm 0) Z8 (tOp KH (ze 0) (tC (.str "0123456789"))) 1 []) zj))))
def kq (K:PySem.W.Frag) (t:Adr):TS:=(zA (tCB Ww (zd (ze 0) zj)))
def vq (K:PySem.W.Frag) (t:Adr):TS:=(zn (zJ (tIf (tB (tBM K "str" wx (ze 0) (zd (tC (.str "-")) zj))) (tSl QT (ze 0) (xz (tC (.int 1))) xD) (ze 0)) (zm 1))
  (zn (zw (tOr (zo (tOp (rI0 fun i j=>.bl (decide (j < i))) (tCB (yB K) (zd (ze 1) zj)) (tC (.int 31)))) (vI (tB (zI vk [] E0 (zd (ze 1) zj)))))
    (zA (tC (.bl false)))
    zq)
  (zn (zJ (tCB Je (zd (ze 0) zj)) (zm 2))
  (zA (wP (zI (jt K) [] E0 (zd (ze 2) zj)) (tOp rEq (zI km [] E0 (zd (ze 2) zj)) (ze 0)))))))
def jC (K:PySem.W.Frag) (t:Adr) (E:XK):TS:=(zn (zw (vI (tB (zI xx [] E (zd (ze 0) zj))))
   (vP t.c_NoNumber (zd (XE (ze 0)) zj) E)
   zq)
  (zA (tCB Je (zd (ze 0) zj))))
def kr (K:PySem.W.Frag) (t:Adr) (E:XK):TS:=(zn (zw (tB (zI wX [] E (zd (ze 0) zj)))
   (zA (ze 0))
   zq)
  (zn (zw (tB (zI xx [] E (zd (ze 0) zj)))
    (zA (zI (ju t) [] E (zd (ze 0) zj)))
    zq)
  (vP t.c_NoTerm (zd (XE (ze 0)) zj) E)))
def vX (K:PySem.W.Frag) (t:Adr) (E:XK):TS:=(zn (zJ (zI (wY t) [] E (zd (ze 0) (zd (ze 1) zj))) (zm 2))
  (zn (zJ (yi zj) (zm 3))
  (zn (ww (VA K (zd (tSl (Zv K) (ze 0) (xz (ze 1)) (xz (ze 2))) zj)) (zm 4)
    (zw (zo (tOp (rIn K false) (ze 4) (tC (.ref t.c_JOINING))))
    (zn (zJ (Zx K "list" xu (ze 3)) (zm 5))
  (zn (zJ (Zx K "list" xu (ze 3)) (zm 6))
  (zU (tBM K "list" zr (ze 3) (zd (tOp (Zu K) (tOp (Zu K) (ze 5) (ze 6)) (yh (zd (ze 4) zj))) zj)))))
   (zU (tBM K "list" zr (ze 3) (zd (yh (zd (zI (kn t) [] E (zd (ze 4) zj)) zj)) zj)))))
  (zA (yh (zd (Zx K "list" xu (ze 3)) (zd (ze 2) zj)))))))
def yX (K:PySem.W.Frag) (t:Adr):TS:=(zn (zJ (zI (vV t) [] E0 (zd (yU K (ze 0) "words") (zd (yU K (ze 0) "at") zj))) (zm 1))
  (zn (qS K (ze 0) (tOp (zV K) (ze 1) (tC (.int 1))) "at")
  (zA (tOp (zV K) (ze 1) (tC (.int 0))))))
def xt (K:PySem.W.Frag) (t:Adr):TS:=(zw (zo (tOp rNe (yj t.c_RowWords "draw_word" (zL t) [] E0 (ze 0) zj) (tC (.str "as"))))
   wQ
   zq)
def vt (K:PySem.W.Frag) (t:Adr):TS:=(zn (zJ (yj t.c_RowWords "draw_name" (zM t) [] E0 (ze 0) zj) (zm 1))
  (zn (zJ (yj t.c_RowWords "draw_term" (zG t) [] E0 (ze 0) zj) (zm 2))
  (zn (zU (yj t.c_RowWords "draw_as" (xq t) [] E0 (ze 0) zj))
  (zA (yh (zd (tC (.str "take")) (zd (ze 1) (zd (ze 2) (zd (yj t.c_RowWords "draw_name" (zM t) [] E0 (ze 0) zj) zj)))))))))
def jD (K:PySem.W.Frag) (t:Adr):TS:=(zn (zw (zo (tOp (rIn K false) (ze 1) (yh (zd (tC (.str "say")) (zd (tC (.str "off")) zj)))))
   (zA (yh (zd (ze 1) (zd (yj t.c_RowWords "draw_term" (zG t) [] E0 (ze 0) zj) zj))))
   zq)
  (zn (zw (zo (tOp rEq (ze 1) (tC (.str "if"))))
    (zA (yh (zd (tC (.str "if")) (zd (yj t.c_RowWords "draw_term" (zG t) [] E0 (ze 0) zj) (zd (yi zj) (zd (yi zj) zj))))))
    zq)
  (zn (zw (zo (tOp (rIn K false) (ze 1) (yh (zd (tC (.str "else")) (zd (tC (.str "end")) zj)))))
    (zA (yh (zd (ze 1) zj)))
    zq)
  wQ)))
def jE (K:PySem.W.Frag) (t:Adr):TS:=(zn (zw (zo (tOp rEq (ze 1) (tC (.str "let"))))
   (zA (yh (zd (tC (.str "let")) (zd (yj t.c_RowWords "draw_name" (zM t) [] E0 (ze 0) zj) (zd (yj t.c_RowWords "draw_term" (zG t) [] E0 (ze 0) zj) zj)))))
   zq)
  (jD K t))
def jF (K:PySem.W.Frag) (t:Adr):TS:=(zn (zw (zo (tOp rEq (ze 1) (tC (.str "give"))))
   (zA (yh (zd (tC (.str "give")) (zd (yj t.c_RowWords "draw_name" (zM t) [] E0 (ze 0) zj) (zd (yj t.c_RowWords "draw_term" (zG t) [] E0 (ze 0) zj) (zd (yj t.c_RowWords "draw_term" (zG t) [] E0 (ze 0) zj) zj))))))
   zq)
  (jE K t))
def vY (K:PySem.W.Frag) (t:Adr):TS:=(zn (zJ (yj t.c_RowWords "draw_word" (zL t) [] E0 (ze 0) zj) (zm 1))
  (zn (zw (zo (tOp rEq (ze 1) (tC (.str "take"))))
    (zA (zI (vm t) [] E0 (zd (ze 0) zj)))
    zq)
  (jF K t)))
def xa (K:PySem.W.Frag) (t:Adr):TS:=(zw (zo (tOp (rI0 fun i j=>.bl (decide (i < j))) (yU K (ze 0) "at") (tCB (yB K) (zd (yU K (ze 0) "words") zj))))
   wQ
   zq)
def qm (K:PySem.W.Frag) (t:Adr) (E:XK):TS:=(zn (zJ (tBM K "str" wW (ze 0) (zd (tC (.str " ")) zj)) (zm 2))
  (zn (zw (tOr (zo (tOp (rI0 fun i j=>.bl (decide (j≤i))) (ze 1) (tC (.int 40)))) (zo (tOp (rI0 fun i j=>.bl (decide (j < i))) (tCB (yB K) (zd (ze 2) zj)) (tC (.int 60)))))
    (yN t.c_NoDealing "row" (zd (ze 1) zj) E)
    zq)
  (zn (zJ (Zs t.c_RowWords (x8 t) [] E (zd (ze 2) (zd (ze 1) zj))) (zm 3))
  (zn (zJ (zI (vW t) [] E (zd (ze 3) zj)) (zm 4))
  (zn (zU (yj t.c_RowWords "draw_end" (y7 t) [] E (ze 3) zj))
  (zA (ze 4)))))))
def qo (K:PySem.W.Frag) (t:Adr) (E:XK):TS:=(zn (zw (zo (tOp (xJ K) (yU K (ze 2) "blocks") (yi zj)))
   (yN t.c_NoDealing "row" (zd (tCB (yB K) (zd (ze 1) zj)) zj) E)
   zq)
  (zA (yU K (ze 2) "rows")))
def qp (K:PySem.W.Frag) (t:Adr) (E:XK):TS:=(zn (ww (VD K (zd (ze 1) zj)) (qR K 2 (wR (zm 3) (wR (zm 4) qQ)))
   (zU (yj t.c_Reading "reads" (wc t) [] E (ze 2) (zd (zI (ql t) [] E (zd (ze 4) (zd (ze 3) zj))) (zd (ze 3) zj)))))
  (qo K t E))
def qq (K:PySem.W.Frag) (t:Adr) (E:XK):TS:=(zn (zJ (Zs t.c_Reading (wz t) [] E zj) (zm 2))
  (qp K t E))
def Y9 (K:PySem.W.Frag) (t:Adr) (E:XK):TS:=(zn (zJ (tIf (zo (tOp rNe (ze 0) (tC (.str "")))) (tBM K "str" wW (ze 0) (zd (tC (.str "\n")) zj)) (yi zj)) (zm 1))
  (qq K t E))
def xm (K:PySem.W.Frag) (t:Adr) (n:Nat):TS:=(zn (zw (tOr (zo (tOp Xz (ze 5) (tC .non))) (tOr (zo (tOp Xz (ze 6) (tC .non))) (zo (tOp rNe (tOp (zV K) (ze 3) (tC (.int 0))) (tC (.str "if"))))))
   (zA (tC .non))
   zq)
  (zJ (tOp wJ (tOp wJ (ze 2) (ze 5)) (ze 6)) (zm 2)))
def xn (K:PySem.W.Frag) (t:Adr) (n:Nat):TS:=(zn (zJ (zI (yf  n) [] E0 (zd (tOp (zV K) (ze 3) (tC (.int 3))) (zd (tOp (xV K) (ze 1) (yh (zd (yh (zd (ze 4) (zd (tC (.int 1)) zj))) zj))) zj))) (zm 6))
  (xm K t n))
def wk (K:PySem.W.Frag) (t:Adr) (n:Nat):TS:=(zn (zJ (zI (yf  n) [] E0 (zd (tOp (zV K) (ze 3) (tC (.int 2))) (zd (tOp (xV K) (ze 1) (yh (zd (yh (zd (ze 4) (zd (tC (.int 0)) zj))) zj))) zj))) (zm 5))
  (xn K t n))
def vC (K:PySem.W.Frag) (t:Adr) (n:Nat):TS:=(zw (tOr (zo (tOp rNe (tCB (yB K) (zd (ze 3) zj)) (tC (.int 2)))) (zo (tOp rEq (tOp (zV K) (ze 3) (tC (.int 0))) (tC (.str "if")))))
   (zA (tC .non))
   zq)
def xo (K:PySem.W.Frag) (t:Adr) (n:Nat):TS:=(zn (zU (tBM K "list" zr (ze 2) (zd (yh (zd (ze 1) (zd (tOp (zV K) (ze 3) (tC (.int 0))) (zd (ze 4) zj)))) zj)))
  (zw (zo (tOp rEq (tCB (yB K) (zd (ze 3) zj)) (tC (.int 4))))
    (wk K t n)
    (vC K t n)))
def wm (K:PySem.W.Frag) (t:Adr) (n:Nat):TS:=(zn (zw (tOr (vI (tB (tCB (vO K) (zd (ze 3) (zd (tC (.ty "tuple")) zj))))) (tOr (zo (tOp (rI0 fun i j=>.bl (decide (i < j))) (tCB (yB K) (zd (ze 3) zj)) (tC (.int 2)))) (tOr (vI (tB (tCB (vO K) (zd (tOp (zV K) (ze 3) (tC (.int 1))) (zd (tC (.ty "tuple")) zj))))) (zo (tOp rNe (tCB (yB K) (zd (tOp (zV K) (ze 3) (tC (.int 1))) zj)) (tC (.int 1)))))))
   (zA (tC .non))
   zq)
  (zn (zJ (tOp (zV K) (tOp (zV K) (ze 3) (tC (.int 1))) (tC (.int 0))) (zm 4))
  (zn (zw (tOr (vI (tB (tCB (vO K) (zd (ze 4) (zd (tC (.ty "int")) zj))))) (tB (tCB (vO K) (zd (ze 4) (zd (tC (.ty "bool")) zj)))))
    (zA (tC .non))
    zq)
  (xo K t n))))
def vD (K:PySem.W.Frag) (t:Adr) (n:Nat):TS:=(zA (ze 2))
def vE (K:PySem.W.Frag) (t:Adr) (n:Nat):TS:=(zn (ww (v5 K (ze 0)) (zm 3)
   (wm K t n))
  (vD K t n))
def va (K:PySem.W.Frag) (t:Adr) (n:Nat):TS:=(zn (zw (vI (tB (tCB (vO K) (zd (ze 0) (zd (tC (.ty "list")) zj)))))
   (zA (tC .non))
   zq)
  (zn (zJ (yi zj) (zm 2))
  (vE K t n)))
def j1 (K:PySem.W.Frag) (t:Adr):TS:=(zA (ze 1))
def j2 (K:PySem.W.Frag) (t:Adr):TS:=(zn (ww (v5 K (ze 0)) (qR K 2 (wR (zm 3) (wR (zm 4) qQ)))
   (zw (zo (tOp rEq (ze 3) (tC (.str "if"))))
   (zn (zU (tBM K "list" zr (ze 1) (zd (yh (zd (ze 2) (zd (ze 3) (zd (ze 4) zj)))) zj)))
  (zJ (tOp (xV K) (ze 2) (yh (zd (yh (zd (ze 4) (zd (tC (.int 0)) zj))) zj))) (zm 2)))
   (zw (zo (tOp rEq (ze 3) (tC (.str "else"))))
   (zJ (tOp (xV K) (tSl (YH K) (ze 2) xD (xz (tUn (rU fun i=>.int (-i)) (tC (.int 1))))) (yh (zd (yh (zd (tOp (zV K) (tOp (zV K) (ze 2) (tUn (rU fun i=>.int (-i)) (tC (.int 1)))) (tC (.int 0))) (zd (tC (.int 1)) zj))) zj))) (zm 2))
   (zw (zo (tOp rEq (ze 3) (tC (.str "end"))))
   (zJ (tSl (YH K) (ze 2) xD (xz (tUn (rU fun i=>.int (-i)) (tC (.int 1))))) (zm 2))
   (zU (tBM K "list" zr (ze 1) (zd (yh (zd (ze 2) (zd (ze 3) (zd (ze 4) zj)))) zj)))))))
  (j1 K t))
def jG (K:PySem.W.Frag) (t:Adr):TS:=(zn (zJ (yi zj) (zm 1))
  (zn (zJ (yh zj) (zm 2))
  (j2 K t)))
def qr (K:PySem.W.Frag) (t:Adr):TS:=(zn (zJ (tC .non) (zm 10))
  (zn (qP K (vi (vh (kU t) (zd (ze 8) zj))) t.c_NoDealing 11 (zJ (qO K (ze 11) "row") (zm 10)))
  (zA (wP (tCB (vO K) (zd (ze 10) (zd (tC (.ty "int")) zj))) (wP (jY (tCB (vO K) (zd (ze 10) (zd (tC (.ty "bool")) zj)))) (tOp rEq (ze 10) (ze 9)))))))
def qt (K:PySem.W.Frag) (t:Adr):TS:=(zn (zw (zo (tOp (rI0 fun i j=>.bl (decide (i < j))) (ze 9) (tC (.int 0))))
   (zA (tOp (WC K false) (zI (yf  6) [] E0 (zd (zI (kU t) [] E0 (zd (ze 8) zj)) (zd (yh zj) zj))) (zI jy [] E0 (zd (ze 5) zj))))
   zq)
  (qr K t))
def YI (K:PySem.W.Frag) (t:Adr):TS:=(zn (zJ (zI jx [] E0 (zd (ze 5) zj)) (zm 9))
  (qt K t))
def qu (K:PySem.W.Frag) (t:Adr):TS:=(zn (zJ (tBM K "str" (wK K) (tC (.str "\n")) (zd (jj (v5 K (ze 5)) (zm 0) Z8 (tIf (zo (tOp (rIn K false) (tOp (zV K) (ze 0) (tC (.int 0))) (yh (zd (tC (.str "else")) (zd (tC (.str "end")) zj))))) (tOp (zV K) (ze 0) (tC (.int 0))) (tOp Yz (tOp Yz (tOp (zV K) (ze 0) (tC (.int 0))) (tC (.str " "))) (tCB Ww (zd (tOp (zV K) (ze 0) (tC (.int 1))) zj)))) 1 []) zj)) (zm 8))
  (YI K t))
def XZ (K:PySem.W.Frag) (t:Adr):TS:=(zn (zJ (tOp wJ (ze 5) (tOp KC (yi (zd (yh (zd (tC (.str "end")) (zd (tC (.int 0)) zj))) zj)) (ze 7))) (zm 5))
  (qu K t))
def ZQ (K:PySem.W.Frag) (t:Adr):TS:=(zn (zJ (ze 6) (zm 7))
  (zn (zw (zo (tOp rEq (tOp (rI (fun _ j=>0 < j) fun i j=>.int (i % j)) (tOp (rI qL fun i j=>.int (i / j)) (ze 1) (tC (.int 2))) (tC (.int 3))) (tC (.int 1))))
    (zJ (tCB JU (zd (tC (.int 0)) (zd (tOp (rI0 fun i j=>.int (i + j)) (tOp (rI0 fun i j=>.int (i - j)) (ze 6) (tC (.int 1))) (tOp (rI (fun _ j=>0 < j) fun i j=>.int (i % j)) (tOp (rI qL fun i j=>.int (i / j)) (ze 1) (tC (.int 6))) (tC (.int 3)))) zj))) (zm 7))
    zq)
  (XZ K t)))
def X0 (K:PySem.W.Frag) (t:Adr):TS:=(zn (zJ (zI vn [] E0 (zd (ze 3) (zd (ze 4) zj))) (qR K 2 (wR (zm 5) (wR (zm 6) qQ))))
  (ZQ K t))
def X1 (K:PySem.W.Frag) (t:Adr):TS:=(zn (zJ (tUn (rU fun i=>.int (-i)) (tC (.int 1))) (zm 4))
  (zn (zw (zo (tOp rEq (tOp (rI (fun _ j=>0 < j) fun i j=>.int (i % j)) (ze 1) (tC (.int 2))) (tC (.int 1))))
    (zJ (tOp (rI (fun _ j=>0 < j) fun i j=>.int (i % j)) (tOp (rI qL fun i j=>.int (i / j)) (ze 1) (tC (.int 2))) (tOp (rI0 fun i j=>.int (i + j)) (tCB (yB K) (zd (ze 3) zj)) (tC (.int 1)))) (zm 4))
    zq)
  (X0 K t)))
def X2 (K:PySem.W.Frag) (t:Adr):TS:=(zn (zJ (tSl (Zv K) (ze 0) (xz (tC (.int 1))) (xz (tOp (rI0 fun i j=>.int (i + j)) (tC (.int 1)) (ze 2)))) (zm 3))
  (X1 K t))
def WM (K:PySem.W.Frag) (t:Adr):TS:=(zn (zJ (zI (wA K) [] E0 (zd (ze 0) (zd (tC (.int 0)) zj))) (zm 1))
  (zn (zJ (tC (.int 80)) (zm 2))
  (zn (zw (zo (tOp (rI0 fun i j=>.bl (decide (j < i))) (tOp (rI (fun _ j=>0 < j) fun i j=>.int (i % j)) (tOp (rI qL fun i j=>.int (i / j)) (ze 1) (tC (.int 18))) (tC (.int 3))) (tC (.int 0))))
    (zJ (tOp (rI0 fun i j=>.int (i + j)) (tC (.int 35)) (tOp (rI (fun _ j=>0 < j) fun i j=>.int (i % j)) (tOp (rI qL fun i j=>.int (i / j)) (ze 1) (tC (.int 54))) (tC (.int 4)))) (zm 2))
    zq)
  (X2 K t))))
section
variable {K:PySem.W.Frag} {t:Adr} {H:Hp} {Q:VK}
theorem J2 {j:Int} (h0:0≤j) (h1:j≤100):Wk 10 j:=⟨h0,by lia,by decide⟩
theorem zH {n:Nat} (h:n≤100000):n≤sizeLine:=Nat.le_trans h (by decide)
theorem vF (T:String):PySem.W.kitOne K (.type T) (.type T)=some true:=by
 unfold PySem.W.kitOne
 rw [if_pos (by simp)]
theorem kf (K:PySem.W.Frag):KF K:=⟨by with_unfolding_all rfl,by with_unfolding_all rfl,by with_unfolding_all rfl,by with_unfolding_all rfl,by with_unfolding_all rfl,by with_unfolding_all rfl,by with_unfolding_all rfl,by with_unfolding_all rfl,by with_unfolding_all rfl,by with_unfolding_all rfl⟩
theorem Xa {x:V} (hK:K9 K) (h:(∃ i,x=.int i∧∀ H',Same H H'→Q (.bl (inW i)) H')∨(JZ K H x∧∀ H',Same H H'→Q (.bl false) H')) :
  jB K t { nx:=fun _ H'=>Q .non H',rt:=Q } (L2.start ["thing"] [x]) H:=by
 simp only [jB,L2.start,zn,zA,zq,tOp,tUn,ze,tC,zd,zj,zw,tOr,vI,tB,tCB,Wl,rI,rI0,rU,vO,List.map,List.replicate,List.length,List.append,jqa,jqb,jqc,jqd,jqe,jqf,jqg,jqh,jqi,jqj,jqk,jql,jqm,jqn,and_true,true_and,and_assoc,jqo,jqp,jqq,Nat.reduceSub,Nat.reduceAdd,jqr,jqs,jqt,Int.reduceToNat,Int.reducePow,Int.reduceNeg,Int.reduceMul,Int.reduceAdd,if_true,ite_true,jqu,ite_false,if_false]
 rcases h with ⟨i,rfl,q⟩ | ⟨⟨T,b,ty,k1,k2⟩,q⟩
 ·have q:=q H (Same.refl H)
  refine ⟨_,.int i,true,vF _,?_⟩
  rw [if_neg (by decide)]
  refine ⟨_,.int i,false,hK,?_⟩
  rw [if_neg (by decide)]
  refine ⟨J2 (by decide) (by decide),_,rfl,vM (fun c=>⟨J2 (by decide) (by decide),_,rfl,?_⟩) fun c=>?_⟩
  ·have e:inW i=decide (i≤1000000000000000000000000000000):=by
    unfold inW
    by_cases h:i≤1000000000000000000000000000000
    ·rw [decide_eq_true h,decide_eq_true ⟨c,h⟩]
    ·rw [decide_eq_false h,decide_eq_false fun z=>h z.2]
   rw [e] at q
   exact q
  ·have e:inW i=false:=decide_eq_false fun z=>c z.1
   rw [e] at q
   exact q
 ·have q:=q H (Same.refl H)
  refine ⟨_,ty,b,k1,vM (fun _=>q) fun c=>⟨_,ty,true,k2 (by simpa using c),?_⟩⟩
  rw [if_pos rfl]
  exact q
theorem Xb {w:Int} (hw:inW w=true):w.natAbs.log2 < 1920:=by
 have hw':-1000000000000000000000000000000≤w∧w≤1000000000000000000000000000000:=of_decide_eq_true hw
 by_cases h0:w.natAbs=0
 ·rw [h0];decide
 ·exact Nat.lt_of_lt_of_le ((Nat.log2_lt h0 (k:=100)).mpr (Nat.lt_of_le_of_lt (by lia:w.natAbs≤1000000000000000000000000000000) (by decide +kernel))) (by decide)
theorem X3 {w:Int} (hw:inW w=true) (q:∀ H',Same H H'→Q (.str (yC w)) H') :
  kq K t { nx:=fun _ H'=>Q .non H',rt:=Q } (L2.start ["worth"] [.int w]) H:=by
 simp only [kq,L2.start,zA,ze,zd,zj,tCB,Ww,List.map,List.replicate,List.length,List.append,jqa,jqb,jqc,jqd,jqe,jqf,jqg,jqh,jqi,jqj,jqk,jql,jqm,jqn,and_true,true_and,and_assoc,jqo,jqp,jqq,Nat.reduceSub,Nat.reduceAdd,jqr,jqs,jqt,Int.reduceToNat,Int.reducePow,Int.reduceNeg,Int.reduceMul,Int.reduceAdd,if_true,ite_true,jqu,ite_false,if_false]
 exact ⟨Xb hw,q _ (Same.refl H)⟩
theorem Qb {x:Str} {f:Nat→Bool} {ys:List V} (hl:ys.length=x.cps.size) (hv:∀ (i:Nat) (v:V),ys[i]?=some v→∃ c,x.cps[i]?=some c∧v=.bl (f c)):ys=(x.cps.toList.map f).map V.bl:=by
 apply List.ext_getElem?
 intro i
 by_cases hi:i < ys.length
 ·obtain ⟨c,hc,e⟩:=hv i ys[i] (List.getElem?_eq_getElem hi)
  rw [List.getElem?_eq_getElem hi,e,List.getElem?_map,List.getElem?_map]
  have hc':x.cps.toList[i]?=some c:=by simpa using hc
  rw [hc'];rfl
 ·rw [List.getElem?_eq_none (by lia),List.getElem?_eq_none]
  rw [List.length_map,List.length_map]
  have:x.cps.toList.length=x.cps.size:=by simp
  lia
theorem ZR {x:Str} (hx:x.length≤1000) (q:∀ H',Same H H'→Q (.bl (vg x)) H') :
  vp K t { nx:=fun _ H'=>Q .non H',rt:=Q } (L2.start ["text"] [.str x]) H:=by
 simp only [vp,L2.start,zm,zA,tOp,ze,tC,zd,zj,wP,tCB,jj,Z8,ZC,Jh,rNe,KH,Jd,y0,List.map,List.replicate,List.length,List.append,jqa,jqb,jqc,jqd,jqe,jqf,jqg,jqh,jqi,jqj,jqk,jql,jqm,jqn,and_true,true_and,and_assoc,jqo,jqp,jqq,Nat.reduceSub,Nat.reduceAdd,jqr,jqs,jqt,Int.reduceToNat,Int.reducePow,Int.reduceNeg,Int.reduceMul,Int.reduceAdd,if_true,ite_true,jqu,ite_false,if_false]
 refine vM (fun c D hD=>?_) fun c=>?_
 ·refine ZF (J:=Its x) x.cps.size (by show x.length≤_;lia) (fun τ=>∃ o,τ=[o]) (fun i v=>∃ c,x.cps[i]?=some c∧v=.bl (inF c)) ⟨_,rfl⟩ (fun i H _ h=>h) (fun H _=>Nat.le_refl _) hD ?_ ?_
  ·rintro i v τ H2 H' ⟨o,rfl⟩ hS hi ⟨rfl,c,hc,rfl⟩
   exact ⟨_,rfl,_,rfl,⟨_,rfl⟩,⟨c,hc,rfl⟩,Same.refl _⟩
  ·intro ys H' hl hv hS hq
   refine ⟨x.cps.toList.map inF,SqL.of (by rw [← Qb hl hv];exact hq),?_⟩
   have e:vg x=(x.cps.toList.map inF).all id:=by
    unfold vg
    rw [decide_eq_false c,List.all_map];rfl
   rw [← e]
   exact q _ hS
 ·have e:vg x=false:=by
   unfold vg
   rw [decide_eq_true (Classical.not_not.mp c)];rfl
  rw [e] at q
  exact q _ (Same.refl H)
theorem J3 {x:Str} (hx:x.length≤1000) (q:∀ H',Same H H'→Q (.bl (xp x)) H'):(yZ x).length≤sizeLine∧if 31 < ((yZ x).length:Int) then Q (V.bl false) H else
   (yZ x).length≤1000∧∀ H',Same H H'→if vg (yZ x)=false then Q (V.bl false) H' else
    ∃ n,intText? x=some n∧x.length≤640∧((∀ H2,Same H' H2→if inW n=true then inW n=true∧∀ H3,Same H2 H3→Q (V.bl (decide (yC n=x))) H3 else Q (V.bl false) H2) ∨
     JZ K H' (V.int n)∧∀ H2,Same H' H2→Q (V.bl false) H2):=by
 have h1:=Js x
 have h2:=qe x
 refine ⟨zH (by lia),vM (fun c=>?_) fun c=>⟨by lia,fun H' s=>vM (fun f=>?_) fun f=>?_⟩⟩
 ·have e:xp x=false:=by unfold xp;rw [decide_eq_true (by lia:31 < (yZ x).length)];rfl
  rw [e] at q;exact q _ (Same.refl H)
 ·have e:xp x=false:=by unfold xp;rw [f];simp
  rw [e] at q;exact q _ s
 ·have f':vg (yZ x)=true:=by simpa using f
  have en:xp x=(inW (xH x) && decide (yC (xH x)=x)):=by
   unfold xp
   rw [f',decide_eq_false (by lia:¬ 31 < (yZ x).length)];rfl
  refine ⟨_,ZH f' (by lia),by lia,.inl fun H2 s2=>vM (fun w=>⟨w,fun H3 s3=>?_⟩) fun w=>?_⟩
  ·rw [w,Bool.true_and] at en
   rw [en] at q
   exact q _ (s.trans (s2.trans s3))
  ·rw [Bool.eq_false_iff.mpr w,Bool.false_and] at en
   rw [en] at q
   exact q _ (s.trans s2)
theorem ZS {x:Str} (hx:x.length≤1000) (q:∀ H',Same H H'→Q (.bl (xp x)) H') :
  vq K t { nx:=fun _ H'=>Q .non H',rt:=Q } (L2.start ["text","figures","worth"] [.str x]) H:=by
 simp only [vq,vk,jt,km,L2.start,zn,zJ,zm,zA,zq,tOp,ze,tC,zd,zj,zw,tOr,vI,zo,tB,wP,tIf,tCB,tBM,tyV,tSl,xz,xD,zI,xQ,rEq,rI0,QT,yB,Je,wx,y0,List.map,List.replicate,List.length,List.append,jqa,jqb,jqc,jqd,jqe,jqf,jqg,jqh,jqi,jqj,jqk,jql,jqm,jqn,and_true,true_and,and_assoc,jqo,jqp,jqq,Nat.reduceSub,Nat.reduceAdd,jqr,jqs,jqt,Int.reduceToNat,Int.reducePow,Int.reduceNeg,Int.reduceMul,Int.reduceAdd,if_true,ite_true,jqu,ite_false,if_false]
 have r:=J3 (K:=K) hx q
 unfold yZ at r
 rw [Vx]
 have e1:(Str.ofString "-").cps.toList=[45]:=by decide +kernel
 have e2:(Str.ofString "-").length=1:=by decide +kernel
 rw [e1,e2]
 by_cases c:(x.cps.toList.take 1 == [45])=true
 ·simp only [if_pos c] at r ⊢
  exact ⟨zH (by lia),r⟩
 ·simp only [if_neg c] at r ⊢
  exact r
theorem Xc {x:Str} {E:XK} (hx:x.length≤1000) (ha:Asc x) (q:∀ H',Same H H'→if xp x=true then Q (.int (xH x)) H' else E (.ref t.c_NoNumber) none H') :
  jC K t E { nx:=fun _ H'=>Q .non H',rt:=Q } (L2.start ["text"] [.str x]) H:=by
 simp only [jC,xx,L2.start,vP,XE,zn,zA,zq,ze,zd,zj,zw,vI,tB,tCB,zI,Je,List.map,List.replicate,List.length,List.append,jqa,jqb,jqc,jqd,jqe,jqf,jqg,jqh,jqi,jqj,jqk,jql,jqm,jqn,and_true,true_and,and_assoc,jqo,jqp,jqq,Nat.reduceSub,Nat.reduceAdd,jqr,jqs,jqt,Int.reduceToNat,Int.reducePow,Int.reduceNeg,Int.reduceMul,Int.reduceAdd,if_true,ite_true,jqu,ite_false,if_false]
 refine ⟨hx,fun H' s=>?_⟩
 have q:=q H' s
 by_cases hn:xp x=true
 ·rw [if_neg (by rw [hn];decide)]
  rw [if_pos hn] at q
  unfold xp at hn
  rw [Bool.and_eq_true,Bool.not_eq_true',Bool.or_eq_false_iff,decide_eq_false_iff_not] at hn
  have h2:=qe x
  have hf:vg (yZ x)=true:=by simpa using hn.1.2
  exact ⟨_,ZH hf (by lia),by lia,q⟩
 ·rw [if_neg hn] at q
  rw [if_pos (by simpa using hn)]
  exact ⟨by lia,ha,fun y=>⟨by decide,q⟩⟩
theorem dB {i j:Int} (h0:0 < j:=by decide) (h1:j < 10000000000000000000000000000000000000000000000:=by decide):qL i j:=by
 have hb:(10000000000000000000000000000000000000000000000:Int) < big:=by decide +kernel
 exact ⟨h0,by lia⟩
theorem Qy {α:Type} {xs:List α} {i:Int} (h0:0≤i) (h1:i < xs.length):∃ x,atI xs i=some x∧x∈xs:=by
 obtain ⟨n,rfl⟩:∃ n:Nat,i=(n:Int):=⟨i.toNat,by lia⟩
 have hn:n < xs.length:=by lia
 refine ⟨xs[n],?_,List.getElem_mem hn⟩
 unfold atI ixN
 rw [if_pos h0,if_pos h1]
 simp [hn]
theorem zab {α:Type} {xs:List α} (e:Int) (n:Nat) (hl:xs.length=n) (hn:0 < (n:Int)):∃ x,atI xs (e % n)=some x∧x∈xs :=
 Qy (Int.emod_nonneg _ (by lia)) (by rw [hl];exact Int.emod_lt_of_pos _ hn)
theorem X4 {x:Str} (h:6 < x.length):yr x=false:=by
 unfold yr
 rw [decide_eq_true h]
 simp
theorem X5 {x:Str} (hx:x.length≤1000) (hJ:∀ H,SqT K H t.c_JOINING jw) (hR:∀ H,SqT K H t.c_ROW_WORDS wl) (q:∀ H',Same H H'→Q (.bl (yr x)) H') :
  ko K t { nx:=fun _ H'=>Q .non H',rt:=Q } (L2.start ["text"] [.str x]) H:=by
 simp only [ko,L2.start,zn,zm,zA,zq,tOp,ze,tC,zd,zj,zw,tOr,zo,tCB,jj,Z8,ZC,xQ,Jh,rEq,rI0,rIn,KH,yB,Jd,y0,List.map,List.replicate,List.length,List.append,jqa,jqb,jqc,jqd,jqe,jqf,jqg,jqh,jqi,jqj,jqk,jql,jqm,jqn,and_true,true_and,and_assoc,jqo,jqp,jqq,Nat.reduceSub,Nat.reduceAdd,jqr,jqs,jqt,Int.reduceToNat,Int.reducePow,Int.reduceNeg,Int.reduceMul,Int.reduceAdd,if_true,ite_true,jqu,ite_false,if_false]
 refine vM (fun e=>?_) fun e0=>⟨zH (by lia),vM (fun e=>?_) fun e6=>⟨_,.inr (hJ H),rfl,rfl,vM (fun e=>?_) fun eJ=>⟨_,.inr (hR H),rfl,rfl,vM (fun e=>?_) fun eR D hD=>?_⟩⟩⟩
 ·rw [show yr x=false by rw [e];decide +kernel] at q
  exact q _ (Same.refl H)
 ·rw [X4 (by lia)] at q
  exact q _ (Same.refl H)
 ·rw [show yr x=false by unfold yr;rw [e];simp] at q
  exact q _ (Same.refl H)
 ·rw [show yr x=false by unfold yr;rw [e];simp] at q
  exact q _ (Same.refl H)
 have en:yr x=x.cps.toList.all inL:=by
  unfold yr
  rw [decide_eq_false e0,decide_eq_false (by lia:¬ 6 < x.length),Bool.eq_false_iff.mpr eJ,Bool.eq_false_iff.mpr eR]
  simp
 refine ZF (J:=Its x) x.cps.size (by show x.length≤_;lia) (fun τ=>∃ o,τ=[o]) (fun i v=>∃ c,x.cps[i]?=some c∧v=.bl (inL c)) ⟨_,rfl⟩ (fun i H _ h=>h) (fun H _=>Nat.le_refl _) hD ?_ ?_
 ·rintro i v τ H2 H' ⟨o,rfl⟩ hS hi ⟨rfl,c,hc,rfl⟩
  exact ⟨_,rfl,_,rfl,⟨_,rfl⟩,⟨c,hc,rfl⟩,Same.refl _⟩
 ·intro ys H' hl hv hS hq
  have ey:ys=(x.cps.toList.map inL).map V.bl:=by
   apply List.ext_getElem?
   intro i
   by_cases hi:i < ys.length
   ·obtain ⟨c,hc,e⟩:=hv i ys[i] (List.getElem?_eq_getElem hi)
    rw [List.getElem?_eq_getElem hi,e,List.getElem?_map,List.getElem?_map]
    have hc':x.cps.toList[i]?=some c:=by simpa using hc
    rw [hc'];rfl
   ·rw [List.getElem?_eq_none (by lia),List.getElem?_eq_none]
    rw [List.length_map,List.length_map]
    have:x.cps.toList.length=x.cps.size:=by simp
    lia
  refine ⟨x.cps.toList.map inL,SqL.of (by rw [← ey];exact hq),?_⟩
  rw [List.all_map,show (id ∘ inL)=inL from rfl,← en]
  exact q _ hS
theorem qv {a:Addr} {ns:List Int} {k:Nat} (hS:SqL K H a (ns.map V.int)) (hl:ns.length≤63) (q:∀ c H',Same H H'→Q (.int c) H') :
  wC K t { nx:=fun _ H'=>Q .non H',rt:=Q } (L2.start ["script","k"] [.ref a,.int k]) H:=by
 simp only [wC,L2.start,zn,zA,zq,tOp,ze,tC,zd,zj,zw,zo,tCB,xQ,xP,rI0,yB,List.map,List.replicate,List.length,List.append,jqa,jqb,jqc,jqd,jqe,jqf,jqg,jqh,jqi,jqj,jqk,jql,jqm,jqn,and_true,true_and,and_assoc,jqo,jqp,jqq,Nat.reduceSub,Nat.reduceAdd,jqr,jqs,jqt,Int.reduceToNat,Int.reducePow,Int.reduceNeg,Int.reduceMul,Int.reduceAdd,if_true,ite_true,jqu,ite_false,if_false]
 refine ⟨_,.inl ⟨_,hS,rfl⟩,vM (fun c=>?_) fun _=>q _ _ (Same.refl H)⟩
 obtain ⟨v,hv,hm⟩:=Qy (xs:=ns.map V.int) (i:=(k:Int)) (by lia) c
 obtain ⟨i,_,rfl⟩:=List.mem_map.mp hm
 exact ⟨_,hS,_,hv,q _ _ (Same.refl H)⟩
theorem kW {xs:List V} {y:V}:(xs ++ [y])[(xs ++ [y]).length - 1]?=some y:=by simp
theorem vG {xs:List V} {y:V}:(xs ++ [y]).dropLast=xs:=by simp
theorem yg {H H':Hp} {w:Addr} {o:HO} (s:Same H H') (hw:H w=none):Same H (upd H' w o):=fun b u e=>by rw [zk (zx e hw)];exact s b u e
theorem J4 {α:Type} {l:List α} (h:1 < l.length):∃ r a b,l=r ++ [a,b]:=by
 have h0:l≠[]:=fun z=>by rw [z] at h;simp at h
 have e:=List.dropLast_concat_getLast h0
 have h1:l.dropLast≠[]:=fun z=>by rw [z] at e;rw [← e] at h;simp at h
 have e1:=List.dropLast_concat_getLast h1
 have e2:l.dropLast ++ [l.getLast h0]=(l.dropLast.dropLast ++ [l.dropLast.getLast h1]) ++ [l.getLast h0]:=by rw [e1]
 exact ⟨l.dropLast.dropLast,l.dropLast.getLast h1,l.getLast h0,e.symm.trans (e2.trans (by simp))⟩
theorem X6 {x:Str} {E:XK} (hx:x.length≤1000) (ha:Asc x) (q:∀ H',Same H H'→(match jm x with | some v=>Q v H' | none=>E (.ref t.c_NoTerm) none H')) :
  kr K t E { nx:=fun _ H'=>Q .non H',rt:=Q } (L2.start ["word"] [.str x]) H:=by
 simp only [kr,wX,xx,ju,L2.start,vP,XE,zn,zA,zq,ze,zd,zj,zw,tB,zI,List.map,List.replicate,List.length,List.append,jqa,jqb,jqc,jqd,jqe,jqf,jqg,jqh,jqi,jqj,jqk,jql,jqm,jqn,and_true,true_and,and_assoc,jqo,jqp,jqq,Nat.reduceSub,Nat.reduceAdd,jqr,jqs,jqt,Int.reduceToNat,Int.reducePow,Int.reduceNeg,Int.reduceMul,Int.reduceAdd,if_true,ite_true,jqu,ite_false,if_false]
 unfold jm at q
 refine ⟨hx,fun H1 s1=>vM (fun c=>?_) fun c=>⟨hx,fun H2 s2=>vM (fun d=>⟨hx,ha,fun H3 s3=>?_⟩) fun d=>⟨by lia,ha,fun y=>⟨by decide,?_⟩⟩⟩⟩
 ·have q:=q H1 s1
  rw [if_pos c] at q
  exact q
 ·have q:=q H3 (s1.trans (s2.trans s3))
  rw [if_neg c,if_pos d] at q
  rw [if_pos d]
  exact q
 ·have q:=q H2 (s1.trans s2)
  rw [if_neg c,if_neg d] at q
  exact q
theorem qw {xs:List V} {n:Nat} {v:V} (h:xs[n]?=some v):atI xs (n:Int)=some v:=Kz h
theorem VL (l:List Str):yk l 0=some 0:=by cases l <;> (unfold yk;rfl)
theorem J5 {l:List Str} {d n:Nat} (h:yk l (d + 1)=some n):1≤n:=by
 cases l with
 | nil=>unfold yk at h;cases h
 | cons w r =>
  unfold yk at h
  obtain ⟨m,_,rfl⟩:=Option.map_eq_some_iff.mp h
  show 1≤m + 1
  lia
theorem VM {ws:List Str} {k i d:Nat} {w:Str} {R:Option Nat} (h:R=(yk (ws.drop (k + i)) (d + 1)).map (· + i)) (hw:ws[k + i]?=some w):R=(yk (ws.drop (k + (i + 1))) (if isJ (.str w)=true then d + 2 else d)).map (· + (i + 1)):=by
 have hi:=(List.getElem?_eq_some_iff.mp hw).1
 have hv:=(List.getElem?_eq_some_iff.mp hw).2
 rw [h,List.drop_eq_getElem_cons hi,hv]
 show ((yk (ws.drop (k + i + 1)) (if isJ (.str w)=true then d + 2 else d)).map (· + 1)).map (· + i)=_
 rw [Option.map_map]
 exact congrArg (fun f=>Option.map f (yk (ws.drop (k + (i + 1))) (if isJ (.str w)=true then d + 2 else d))) (funext fun n=>by show n + 1 + i=n + (i + 1);lia)
def bhI (a:Addr) (ws:List Str) (k:Nat) (H:Hp) (m:Nat) (σ:St) (H':Hp):Prop:=∃ i d:Nat,σ=[some (.ref a),some (.int (k:Int)),some (.int (d:Int)),some (.int ((k + i:Nat):Int))]∧i + m=61∧i≤60∧yk (ws.drop k) 1=(yk (ws.drop (k + i)) d).map (· + i)∧H'=H
theorem qX {E:XK} {a:Addr} {ws:List Str} {k:Nat} (hJ:∀ H:Hp,SqT K H t.c_JOINING jw) (h1:H a=some (.lst (ws.map V.str))) (h2:ws.length≤1000) (q:∀ H',Same H H'→zay t.c_NoTerm (yk (ws.drop k) 1) k Q E H') :
  w6 K t E { nx:=fun _ H'=>Q .non H',rt:=Q } (L2.start ["words","at","due","place"] [.ref a,.int k]) H:=by
 simp only [w6,Wi,L2.start,vP,zn,zJ,zm,zA,zq,tOp,ze,tC,zd,zj,zw,zo,tIf,tCB,Kr,ipI,xQ,xP,rEq,rI0,rIn,yB,y0,List.map,List.replicate,List.length,List.append,jqa,jqb,jqc,jqd,jqe,jqf,jqg,jqh,jqi,jqj,jqk,jql,jqm,jqn,and_true,true_and,and_assoc,jqo,jqp,jqq,Nat.reduceSub,Nat.reduceAdd,jqr,jqs,jqt,Int.reduceToNat,Int.reducePow,Int.reduceNeg,Int.reduceMul,Int.reduceAdd,if_true,ite_true,jqu,ite_false,if_false]
 have q:=q H (Same.refl H)
 refine ⟨bhI a ws k H,⟨61,0,1,rfl,rfl,by lia,by simp,rfl⟩,?_⟩
 rintro m σ H1 ⟨i,d,rfl,hm,hi,hsc,rfl⟩
 simp only [L2.start,vP,zn,zJ,zm,zA,zq,tOp,ze,tC,zd,zj,zw,zo,tIf,tCB,Kr,ipI,xQ,xP,rEq,rI0,rIn,yB,y0,List.map,List.replicate,List.length,List.append,jqa,jqb,jqc,jqd,jqe,jqf,jqg,jqh,jqi,jqj,jqk,jql,jqm,jqn,and_true,true_and,and_assoc,jqo,jqp,jqq,Nat.reduceSub,Nat.reduceAdd,jqr,jqs,jqt,Int.reduceToNat,Int.reducePow,Int.reduceNeg,Int.reduceMul,Int.reduceAdd,if_true,ite_true,jqu,ite_false,if_false]
 refine vM (fun c=>?_) fun c=>?_
 ·obtain ⟨d,rfl⟩:∃ d0,d=d0 + 1:=⟨d - 1,by lia⟩
  refine ⟨bhI a ws k _ (m - 1),fun σ' H' z=>⟨m - 1,by lia,z⟩,ws.length,.inl ⟨_,SqL.of h1,by rw [List.length_map]⟩,vM (fun e=>⟨by decide,?_⟩) fun e=>vM (fun e2=>⟨by decide,?_⟩) fun e2=>?_⟩
  ·have e0:ws.drop (k + i)=[]:=List.drop_eq_nil_of_le (by lia)
   rw [e0] at hsc
   have hsc:yk (ws.drop k) 1=none:=hsc
   rw [hsc] at q
   exact q
  ·cases hs:yk (ws.drop (k + i)) (d + 1) with
   | none =>
    rw [hs] at hsc
    rw [hsc] at q
    exact q
   | some n =>
    have:=J5 hs
    rw [hs] at hsc
    rw [hsc] at q
    change (if n + i≤60 then _ else _) at q
    rw [if_neg (by lia)] at q
    exact q
  ·have hlt:k + i < ws.length:=by lia
   obtain ⟨w,hw⟩:∃ w,ws[k + i]?=some w:=⟨_,List.getElem?_eq_getElem hlt⟩
   have hwV:(ws.map V.str)[k + i]?=some (V.str w):=by rw [List.getElem?_map,hw];rfl
   have st:=VM hsc hw
   refine ⟨_,SqL.of h1,_,qw hwV,_,.inr (hJ _),rfl,rfl,vM (fun j=>?_) fun j=>?_⟩
   ·rw [if_pos (show isJ (.str w)=true from j)] at st
    refine ⟨i + 1,d + 2,?_,by lia,by lia,st,rfl⟩
    rw [show (((d + 1:Nat):Int) + 1)=((d + 2:Nat):Int) by lia,show (((k + i:Nat):Int) + 1)=((k + (i + 1):Nat):Int) by lia]
   ·rw [if_neg (show ¬ isJ (.str w)=true from j)] at st
    refine ⟨i + 1,d,?_,by lia,by lia,st,rfl⟩
    rw [show (((d + 1:Nat):Int) - 1)=((d:Nat):Int) by lia,show (((k + i:Nat):Int) + 1)=((k + (i + 1):Nat):Int) by lia]
 ·obtain rfl:d=0:=by lia
  rw [VL] at hsc
  rw [hsc] at q
  change (if 0 + i≤60 then Q (.int ((k + (0 + i):Nat):Int)) _ else _) at q
  rw [if_pos (by lia),Nat.zero_add] at q
  exact q
theorem Qc {xs:List V} {k n:Nat} (h:k + n≤xs.length):j9 xs (some (k:Int)) (some ((k + n:Nat):Int))=(xs.drop k).take n:=by
 unfold j9
 have e1:HT.sIx xs.length 0 (some (k:Int))=k:=by
  show (if (k:Int) < 0 then ((k:Int) + (xs.length:Int)).toNat else min (k:Int).toNat xs.length)=k
  rw [if_neg (by lia),Int.toNat_natCast]
  lia
 have e2:HT.sIx xs.length xs.length (some ((k + n:Nat):Int))=k + n:=by
  show (if ((k + n:Nat):Int) < 0 then (((k + n:Nat):Int) + (xs.length:Int)).toNat else min ((k + n:Nat):Int).toNat xs.length)=k + n
  rw [if_neg (by lia),Int.toNat_natCast]
  lia
 rw [e1,e2,Nat.add_sub_cancel_left]
theorem VN {l:List (List V)} {a b:List V} {w:Str} (hw:isJ (.str w)=true):xI (l ++ [b,a]) w=.ok (l ++ [a ++ b ++ [.str w]]):=by
 unfold xI
 rw [if_pos hw]
 simp
theorem VO {st:List (List V)} {w:Str} (hw:isJ (.str w)=true) (h:st.length≤1):xI st w=.error false:=by
 unfold xI
 rw [if_pos hw]
 match st,h with
 | [],_=>rfl
 | [a],_=>rfl
 | a :: b :: r,h=>exact absurd h (by rw [List.length_cons,List.length_cons];lia)
def v9 (L:List (Addr × List V)):Nat:=(L.map fun n=>n.2.length).sum
theorem qx (a b:List (Addr × List V)):v9 (a ++ b)=v9 a + v9 b:=by unfold v9;rw [List.map_append,List.sum_append]
theorem kt {H:Hp} {x w:Addr} {l m:List V} (h:H x=some (.tup l)) (hw:H w=some (.lst m)):x≠w:=fun z=>by
 rw [z,hw] at h;cases h
def tfI (a w p:Addr) (seg:List Str) (k e:Nat) (H:Hp) (i:Nat) (σ:St) (H':Hp):Prop:=∃ L:List (Addr × List V),(∃ o4 o5 o6,σ=[some (.ref a),some (.int (k:Int)),some (.int (e:Int)),some (.ref w),o4,o5,o6])∧wy (seg.reverse.take i) []=.ok (L.map Prod.snd)∧v9 L≤i∧L.length≤i∧(∀ n∈L,n.2≠[]∧H' n.1=some (.tup n.2))∧H' w=some (.lst (L.map fun n=>V.ref n.1))∧H' p=some (.lst (seg.map V.str))∧Same H H'
theorem J6 {ws:List Str} {k n:Nat} (h:yk (ws.drop k) 1=some n) (hn:n≤60):xw ws k=match wy ((ws.drop k).take n).reverse [] with | .ok [ps]=>some (ps,k + n) | _=>none:=by
 unfold xw
 rw [h]
 exact if_pos hn
theorem Yf {E:XK} {a:Addr} {ws:List Str} {k:Nat} (hJ:∀ H:Hp,SqT K H t.c_JOINING jw) (h1:H a=some (.lst (ws.map V.str))) (h2:ws.length≤1000) (h3:ZP ws)
  (q:(∃ ps e,xw ws k=some (ps,e)∧∀ H' p r,Same H H'→H' p=some (.tup [.ref r,.int (e:Nat)])→H' r=some (.tup ps)→Q (.ref p) H')∨(xw ws k=none∧∀ H',Same H H'→E (.ref t.c_NoTerm) none H')) :
  vX K t E { nx:=fun _ H'=>Q .non H',rt:=Q } (L2.start ["words","at","behind","parts","word","first","second"] [.ref a,.int k]) H:=by
 simp only [vX,wY,kn,L2.start,VA,zr,xu,yu,Wt,Zu,zn,zJ,zm,zA,zU,tOp,ze,tC,yi,yh,zd,zj,ww,zw,zo,tBM,Zx,tyV,tSl,xz,zI,rIn,Zv,List.map,List.replicate,List.length,List.append,jqa,jqb,jqc,jqd,jqe,jqf,jqg,jqh,jqi,jqj,jqk,jql,jqm,jqn,and_true,true_and,and_assoc,jqo,jqp,jqq,Nat.reduceSub,Nat.reduceAdd,jqr,jqs,jqt,Int.reduceToNat,Int.reducePow,Int.reduceNeg,Int.reduceMul,Int.reduceAdd,if_true,ite_true,jqu,ite_false,if_false]
 have no:∀ {H'},xw ws k=none→Same H H'→E (.ref t.c_NoTerm) none H':=fun {H'} hp s=>by
  rcases q with ⟨ps,e,hp2,_⟩ | ⟨_,q⟩
  ·rw [hp] at hp2;cases hp2
  ·exact q _ s
 refine ⟨ws,k,rfl,h1,h2,fun H1 s1=>?_⟩
 cases hs:yk (ws.drop k) 1 with
 | none=>exact no (by unfold xw;rw [hs]) s1
 | some n =>
  show (if n≤60 then _ else E (.ref t.c_NoTerm) none H1)
  refine vM (fun hn=>?_) fun hn=>no (by unfold xw;rw [hs];exact if_neg hn) s1
  obtain ⟨T,hT,hpre,hkn,hlen⟩:=Wz hs
  have hpe:=J6 hs hn
  have hps:=ZJ hs hn hT hpre
  have hrun:=jT hT []
  rw [← hpre] at hrun
  have hseg:∀ x∈(ws.drop k).take n,x.length≤100∧Asc x:=fun x hx=>h3 x (List.mem_of_mem_drop (List.mem_of_mem_take hx))
  have hsl:((ws.drop k).take n).length=n:=by rw [hpre,hlen]
  have hcut:j9 (ws.map V.str) (some (k:Int)) (some ((k + n:Nat):Int))=((ws.drop k).take n).map V.str:=by
   rw [Qc (by rw [List.length_map];exact hkn),List.map_take,List.map_drop]
  generalize (ws.drop k).take n=seg at *
  have err:∀ {e:Bool} {H'},wy seg.reverse []=.error e→Same H H'→E (.ref t.c_NoTerm) none H':=fun {e H'} z s=>no (by rw [hpe,z]) s
  have nstuck:wy seg.reverse []≠.error false:=fun z=>by
   rw [hrun] at z
   split at z <;> cases z
  simp only [L2.start,VA,zr,xu,yu,Wt,Zu,zn,zJ,zm,zA,zU,tOp,ze,tC,yi,yh,zd,zj,ww,zw,zo,tBM,Zx,tyV,tSl,xz,zI,rIn,Zv,List.map,List.replicate,List.length,List.append,jqa,jqb,jqc,jqd,jqe,jqf,jqg,jqh,jqi,jqj,jqk,jql,jqm,jqn,and_true,true_and,and_assoc,jqo,jqp,jqq,Nat.reduceSub,Nat.reduceAdd,jqr,jqs,jqt,Int.reduceToNat,Int.reducePow,Int.reduceNeg,Int.reduceMul,Int.reduceAdd,if_true,ite_true,jqu,ite_false,if_false]
  refine ⟨by decide,fun w hw=>⟨_,SqL.of (isV w hw _ _ (s1 _ _ h1)),fun p hp=>?_⟩⟩
  rw [hcut]
  have hw0:H w=none:=s1.free hw
  have hpw:w≠p:=zx zc hp
  refine ⟨_,SqL.of zc,JA (seg.map V.str) (tfI a w p seg k (k + n) H) ⟨[],⟨_,_,_,rfl⟩,by simp [wy],Nat.le_refl _,Nat.le_refl _,(fun n z=>nomatch z),by rw [zk hpw];exact zc,zc,s1.trans ((isV w hw).trans (isV p hp))⟩ (fun i σ H' ⟨_,_,_,_,_,_,_,z,_⟩=>SqL.of z) ?_ ?_⟩
  ·rintro i v σ H' hi hv ⟨L,⟨o4,o5,o6,rfl⟩,hr,hle,hL,hN,hst,hpp,hS⟩
   rw [List.length_map] at hi hv
   rw [List.getElem?_map] at hv
   obtain ⟨x,hx,rfl⟩:=Option.map_eq_some_iff.mp hv
   have hx':seg.reverse[i]?=some x:=by rw [List.getElem?_reverse hi];exact hx
   have one:=JB hr hx'
   have okx:=hseg x (List.mem_of_getElem? hx)
   simp only [L2.start,VA,zr,xu,yu,Wt,Zu,zn,zJ,zm,zA,zU,tOp,ze,tC,yi,yh,zd,zj,ww,zw,zo,tBM,Zx,tyV,tSl,xz,zI,rIn,Zv,List.map,List.replicate,List.length,List.append,jqa,jqb,jqc,jqd,jqe,jqf,jqg,jqh,jqi,jqj,jqk,jql,jqm,jqn,and_true,true_and,and_assoc,jqo,jqp,jqq,Nat.reduceSub,Nat.reduceAdd,jqr,jqs,jqt,Int.reduceToNat,Int.reducePow,Int.reduceNeg,Int.reduceMul,Int.reduceAdd,if_true,ite_true,jqu,ite_false,if_false]
   refine ⟨jw,.inr (hJ _),rfl,rfl,vM (fun c=>?_) fun c=>?_⟩
   ·have hj:isJ (.str x)=true:=c
    rcases Nat.lt_or_ge 1 L.length with h2l | h2l
    ·obtain ⟨L0,nb,na,rfl⟩:=J4 h2l
     have e1:(L0 ++ [nb,na]).map (fun n=>V.ref n.1)=(L0.map (fun n=>V.ref n.1) ++ [.ref nb.1]) ++ [.ref na.1]:=by simp
     have e2:(L0 ++ [nb,na]).map Prod.snd=L0.map Prod.snd ++ [nb.2,na.2]:=by simp
     have nA:=hN na (by simp)
     have nB:=hN nb (by simp)
     have aw:=kt nA.2 hst
     have bw:=kt nB.2 hst
     rw [e2] at one
     have one:=one.trans (VN hj)
     rw [e1] at hst
     have l3:L0.length + 2=(L0 ++ [nb,na]).length:=by simp
     have lp:v9 (L0 ++ [nb,na])=v9 L0 + (nb.2.length + na.2.length):=by rw [qx];simp [v9]
     refine ⟨.inl ⟨_,SqL.of hst⟩,_,hst,_,kW,.inl ⟨_,SqL.of zc⟩,_,by rw [vG];exact zc,_,kW,.inl ⟨_,SqL.of zc⟩,?_⟩
     rw [vG,vG]
     obtain ⟨H2,eH,g1,g2⟩:∃ H2,H2=upd (upd H' w (.lst (L0.map (fun n=>V.ref n.1) ++ [.ref nb.1]))) w (.lst (L0.map (fun n=>V.ref n.1)))∧H2 w=some (.lst (L0.map (fun n=>V.ref n.1)))∧∀ b,b≠w→H2 b=H' b:=⟨_,rfl,zc,fun b hb=>by rw [zk hb,zk hb]⟩
     have S2:Same H H2:=by rw [eH];exact yg (yg hS hw0) hw0
     rw [← eH]
     clear eH
     refine ⟨na.1,rfl,nb.1,rfl,_,SqT.of ((g2 _ aw).trans nA.2),_,SqT.of ((g2 _ bw).trans nB.2),nA.1,zH (by lia),fun z=>absurd z nB.1,fun _ p1 hp1=>⟨by decide,?_⟩⟩
     obtain ⟨H3,eH,s3,q3⟩:=Ze (o:=HO.tup (na.2 ++ nb.2)) hp1
     rw [← eH]
     clear eH
     intro p2 hp2
     obtain ⟨H4,eH,s4,q4⟩:=Ze (o:=HO.tup [V.str x]) hp2
     rw [← eH]
     clear eH
     refine ⟨_,SqT.of (s4 _ _ q3),_,SqT.of q4,(fun z=>nA.1 (List.append_eq_nil_iff.mp z).1),zH (by rw [List.length_append];show _ + 1≤_;lia),fun z=>(by cases z),fun _ p3 hp3=>?_⟩
     obtain ⟨H5,eH,s5,q5⟩:=Ze (o:=HO.tup (na.2 ++ nb.2 ++ [V.str x])) hp3
     rw [← eH]
     clear eH
     have S25:=s3.trans (s4.trans s5)
     have pw:p3≠w:=kt q5 (S25 _ _ g1)
     refine ⟨_,S25 _ _ g1,?_,L0 ++ [(p3,na.2 ++ nb.2 ++ [V.str x])],⟨_,_,_,rfl⟩,by rw [one];simp,?_,by simp;lia,fun m hm=>?_,by rw [zc];simp,?_,yg (S2.trans S25) hw0⟩
     ·rw [List.length_map]
      exact Nat.lt_of_le_of_lt (by lia:L0.length≤1000) (by decide)
     ·rw [qx]
      have:v9 [(p3,na.2 ++ nb.2 ++ [V.str x])]=na.2.length + nb.2.length + 1:=by simp [v9];lia
      lia
     ·rcases List.mem_append.mp hm with h | h
      ·have hm':=hN m (List.mem_append_left _ h)
       have mw:=kt hm'.2 hst
       exact ⟨hm'.1,by rw [zk mw];exact S25 _ _ ((g2 _ mw).trans hm'.2)⟩
      ·have:m=(p3,na.2 ++ nb.2 ++ [V.str x]):=by simpa using h
       rw [this]
       exact ⟨by simp,by rw [zk pw];exact q5⟩
     ·rw [zk hpw.symm]
      exact S25 _ _ ((g2 _ hpw.symm).trans hpp)
    ·exact absurd (XJ (one.trans (VO hj (by rw [List.length_map];exact h2l)))) nstuck
   ·have hj:¬ isJ (.str x)=true:=c
    refine ⟨.inl ⟨_,SqL.of hst⟩,by lia,okx.2,fun H2 s2=>?_⟩
    cases hp:jm x with
    | none =>
     have se:xI (L.map Prod.snd) x=.error true:=by
      unfold xI
      rw [if_neg hj,hp]
     exact err (XJ (one.trans se)) (hS.trans s2)
    | some v =>
     have se:xI (L.map Prod.snd) x=.ok (L.map Prod.snd ++ [[v]]):=by
      unfold xI
      rw [if_neg hj,hp]
     have one:=one.trans se
     refine ⟨by decide,fun p1 hp1=>?_⟩
     obtain ⟨H3,eH,s3,q3⟩:=Ze (o:=HO.tup [v]) hp1
     rw [← eH]
     clear eH
     have S23:=s2.trans s3
     have pw:p1≠w:=kt q3 (S23 _ _ hst)
     refine ⟨_,S23 _ _ hst,?_,L ++ [(p1,[v])],⟨_,_,_,rfl⟩,by rw [one];simp,?_,by simp;lia,fun m hm=>?_,by rw [zc];simp,?_,yg (hS.trans S23) hw0⟩
     ·rw [List.length_map]
      exact Nat.lt_of_le_of_lt (by lia:L.length≤1000) (by decide)
     ·rw [qx]
      have:v9 [(p1,[v])]=1:=by simp [v9]
      lia
     ·rcases List.mem_append.mp hm with h | h
      ·have hm':=hN m h
       have mw:=kt hm'.2 hst
       exact ⟨hm'.1,by rw [zk mw];exact S23 _ _ hm'.2⟩
      ·have:m=(p1,[v]):=by simpa using h
       rw [this]
       exact ⟨by simp,by rw [zk pw];exact q3⟩
     ·rw [zk hpw.symm]
      exact S23 _ _ hpp
  ·rintro σ H' ⟨L,⟨o4,o5,o6,rfl⟩,hr,hle,hL,hN,hst,hpp,hS⟩
   rw [List.take_of_length_le (by simp)] at hr
   simp only [L2.start,VA,zr,xu,yu,Wt,Zu,zn,zJ,zm,zA,zU,tOp,ze,tC,yi,yh,zd,zj,ww,zw,zo,tBM,Zx,tyV,tSl,xz,zI,rIn,Zv,List.map,List.replicate,List.length,List.append,jqa,jqb,jqc,jqd,jqe,jqf,jqg,jqh,jqi,jqj,jqk,jql,jqm,jqn,and_true,true_and,and_assoc,jqo,jqp,jqq,Nat.reduceSub,Nat.reduceAdd,jqr,jqs,jqt,Int.reduceToNat,Int.reducePow,Int.reduceNeg,Int.reduceMul,Int.reduceAdd,if_true,ite_true,jqu,ite_false,if_false]
   rw [hrun] at hr
   by_cases hok:okT T=true
   ·rw [if_pos hok] at hr hps
    have e:L.map Prod.snd=[pst T]:=by injection hr with hr;exact hr.symm
    obtain ⟨n1,rfl⟩:∃ n1,L=[n1]:=List.length_eq_one_iff.mp (by have:=congrArg List.length e;simpa using this)
    have e1:n1.2=pst T:=by simpa using e
    have nA:=hN n1 (by simp)
    have nw:=kt nA.2 hst
    rcases q with ⟨ps,e,hp2,q⟩ | ⟨hp2,_⟩
    ·rw [hps] at hp2
     cases hp2
     refine ⟨.inl ⟨_,SqL.of hst⟩,_,hst,_,rfl,by decide,fun p1 hp1=>?_⟩
     have S2:Same H (upd H' w (.lst [])):=yg hS hw0
     refine q _ p1 n1.1 (S2.trans (isV p1 hp1)) zc (isV p1 hp1 _ _ ?_)
     rw [zk nw,nA.2,e1]
    ·rw [hps] at hp2;cases hp2
   ·rw [if_neg hok] at hr;cases hr
theorem jH {w:Int} (hw:inW w=true):wfT (.leaf (yC w))∧okT (.leaf (yC w))=true∧pvw (yC w)=.int w∧ZP [yC w]:=by
 obtain ⟨h1,h2,h3⟩:=vR hw
 have hN:yr (yC w)=false:=Bool.eq_false_iff.mpr fun z=>by rw [Yb z] at h1;cases h1
 have hp:jm (yC w)=some (.int w):=by
  unfold jm
  rw [hN,if_neg (by decide),if_pos h1,h2]
 refine ⟨Bool.eq_false_iff.mpr fun z=>?_,?_,by unfold pvw;rw [hp];rfl,fun x hx=>?_⟩
 ·rw [(KT z).2] at h1;cases h1
 ·show (jm (yC w)).isSome=true
  rw [hp];rfl
 ·have:x=yC w:=by simpa using hx
  rw [this]
  exact ⟨by lia,Asc.num w⟩
theorem xb {H H':Hp} {D:Addr} (s:Same H H') (h:H' D=none):H D=none:=by
 cases e:H D with
 | none=>rfl
 | some o=>rw [s _ _ e] at h;cases h
theorem jI {H1:Hp} {R b:Addr} {o:HO} (h:H1 R=some o) (hb:H1 b=none):b≠R:=fun z=>by rw [z,h] at hb;cases hb
theorem wrF {P:Str→Option Value} (T:Txt K P t):WrF K t:=⟨T.cl_RowWords,T.na_RowWords_words,T.na_RowWords_number,T.na_RowWords_at⟩
theorem rdF {P:Str→Option Value} (T:Txt K P t):RdF K t:=⟨T.cl_Reading,T.na_Reading_rows,T.na_Reading_blocks,T.na_Reading_turned⟩
theorem SameX.refl (x:Addr) (H:Hp):SameX x H H:=fun _ _ _ e=>e
theorem SameX.trans {x:Addr} {H1 H2 H3:Hp} (a:SameX x H1 H2) (b:SameX x H2 H3):SameX x H1 H3:=fun c o n e=>b c o n (a c o n e)
theorem sx {x:Addr} {H H':Hp} (s:Same H H'):SameX x H H':=fun b o _ e=>s b o e
theorem SameX.upd {x:Addr} {H H':Hp} {o:HO} (s:SameX x H H'):SameX x H (upd H' x o):=fun b u n e=>by rw [zk n];exact s b u n e
theorem SameX.same {x:Addr} {H0 H H':Hp} (s:SameX x H H') (s0:Same H0 H) (f:H0 x=none):Same H0 H':=fun b u e=>s b u (zx e f) (s0 b u e)
theorem WrAt.same {H H':Hp} {x dx wa:Addr} {ws:List Str} {n:Int} {k:Nat} (W:WrAt t H x dx wa ws n k) (s:Same H H'):WrAt t H' x dx wa ws n k:=⟨s _ _ W.ix,s _ _ W.hw⟩
theorem WrAt.ne {H:Hp} {x dx wa:Addr} {ws:List Str} {n:Int} {k:Nat} (W:WrAt t H x dx wa ws n k):wa≠x:=wN W.hw W.ix (fun z=>nomatch z)
theorem WrAt.put {H:Hp} {x dx wa:Addr} {ws:List Str} {n:Int} {k:Nat} (W:WrAt t H x dx wa ws n k) (j:Nat):WrAt t (upd H x (.ins t.c_RowWords dx [("words",.ref wa),("number",.int n),("at",.int j)])) x dx wa ws n j:=⟨zc,by rw [zk W.ne];exact W.hw⟩
theorem kX {x wa:Addr} {n:Int} {dx:Addr} {ws:List Str} (F:WrF K t) (h1:H x=some (.ins t.c_RowWords dx [])) (h2:H wa=some (.lst (List.map V.str ws))) (q:∀ H',SameX x H H'→WrAt t H' x dx wa ws n 0→Q .non H') :
  wj K t { nx:=fun _ H'=>Q .non H',rt:=Q } (L2.start ["self","words","number"] [.ref x,.ref wa,.int n]) H:=by
 simp only [wj,qS,yH,L2.start,zn,ze,tC,List.map,List.replicate,List.length,List.append,jqa,jqb,jqc,jqd,jqe,jqf,jqg,jqh,jqi,jqj,jqk,jql,jqm,jqn,and_true,true_and,and_assoc,jqo,jqp,jqq,Nat.reduceSub,Nat.reduceAdd,jqr,jqs,jqt,Int.reduceToNat,Int.reducePow,Int.reduceNeg,Int.reduceMul,Int.reduceAdd,if_true,ite_true,jqu,ite_false,if_false]
 have ne:wa≠x:=wN h2 h1 (fun z=>nomatch z)
 refine ⟨_,_,_,h1,F.cl,F.n1,by decide,_,_,_,zc,F.cl,F.n2,(by simp [yH]),_,_,_,zc,F.cl,F.n3,(by simp [yH];split <;> simp),q _ (SameX.upd (SameX.upd (SameX.upd (SameX.refl x H)))) ⟨zc,?_⟩⟩
 rw [zk ne,zk ne,zk ne];exact h2
theorem vZ {x dx wa:Addr} {ws:List Str} {n:Int} {k:Nat} {w:Str} (F:WrF K t) (W:WrAt t H x dx wa ws n k) (h2:ws[k]?=some w) (q:∀ H',SameX x H H'→WrAt t H' x dx wa ws n (k + 1)→Q (.str w) H') :
  yV K t { nx:=fun _ H'=>Q .non H',rt:=Q } (L2.start ["self","word"] [.ref x]) H:=by
 simp only [yV,Zb,Kv,yU,yH,Zb,Kv,L2.start,zn,zJ,zm,zA,zq,wQ,tOp,ze,tC,zd,zj,zw,zo,tCB,xQ,xP,rEq,yB,y0,List.map,List.replicate,List.length,List.append,jqa,jqb,jqc,jqd,jqe,jqf,jqg,jqh,jqi,jqj,jqk,jql,jqm,jqn,and_true,true_and,and_assoc,jqo,jqp,jqq,Nat.reduceSub,Nat.reduceAdd,jqr,jqs,jqt,Int.reduceToNat,Int.reducePow,Int.reduceNeg,Int.reduceMul,Int.reduceAdd,if_true,ite_true,jqu,ite_false,if_false]
 have hk:k < ws.length:=(List.getElem?_eq_some_iff.mp h2).1
 refine ⟨_,_,_,W.ix,F.cl,F.n3,_,rfl,_,_,_,W.ix,F.cl,F.n1,_,rfl,ws.length,.inl ⟨_,SqL.of W.hw,(List.length_map ..).symm⟩,rfl,?_⟩
 rw [if_neg (fun z=>by have:=V.int.inj z;lia)]
 refine ⟨_,_,_,W.ix,F.cl,F.n1,_,rfl,_,_,_,W.ix,F.cl,F.n3,_,rfl,?_⟩
 exact ⟨wa,rfl,_,k,rfl,SqL.of W.hw,.str w,qw (by rw [List.getElem?_map,h2];rfl),_,_,_,W.ix,F.cl,F.n3,_,rfl,_,rfl,_,_,W.ix,(by simp),q _ (SameX.upd (SameX.refl x H)) (W.put (k + 1))⟩
theorem jJ {x dx wa:Addr} {ws:List Str} {n:Int} {k:Nat} (W:WrAt t H x dx wa ws n k) (h2:ws[k]?=some "as") (q:∀ H',SameX x H H'→WrAt t H' x dx wa ws n (k + 1)→Q .non H') :
  xt K t { nx:=fun _ H'=>Q .non H',rt:=Q } (L2.start ["self"] [.ref x]) H:=by
 simp only [xt,zL,yj,L2.start,zq,wQ,tOp,ze,tC,zj,zw,zo,rNe,y0,List.map,List.replicate,List.length,List.append,jqa,jqb,jqc,jqd,jqe,jqf,jqg,jqh,jqi,jqj,jqk,jql,jqm,jqn,and_true,true_and,and_assoc,jqo,jqp,jqq,Nat.reduceSub,Nat.reduceAdd,jqr,jqs,jqt,Int.reduceToNat,Int.reducePow,Int.reduceNeg,Int.reduceMul,Int.reduceAdd,if_true,ite_true,jqu,ite_false,if_false]
 refine ⟨_,_,W.ix,rfl,dx,wa,ws,n,k,W,_,h2,fun H' s w'=>?_⟩
 rw [if_neg (fun z=>z rfl)]
 exact q H' s w'
theorem v3 {x dx wa:Addr} {ws:List Str} {n:Int} {k:Nat} {w:Str} (W:WrAt t H x dx wa ws n k) (h2:ws[k]?=some w) (h3:yr w=true) (q:∀ H',SameX x H H'→WrAt t H' x dx wa ws n (k + 1)→Q (.str w) H') :
  yW K t { nx:=fun _ H'=>Q .non H',rt:=Q } (L2.start ["self","word"] [.ref x]) H:=by
 simp only [yW,zL,wX,yj,L2.start,zn,zJ,zm,zA,zq,wQ,ze,zd,zj,zw,vI,tB,zI,List.map,List.replicate,List.length,List.append,jqa,jqb,jqc,jqd,jqe,jqf,jqg,jqh,jqi,jqj,jqk,jql,jqm,jqn,and_true,true_and,and_assoc,jqo,jqp,jqq,Nat.reduceSub,Nat.reduceAdd,jqr,jqs,jqt,Int.reduceToNat,Int.reducePow,Int.reduceNeg,Int.reduceMul,Int.reduceAdd,if_true,ite_true,jqu,ite_false,if_false]
 refine ⟨_,_,W.ix,rfl,dx,wa,ws,n,k,W,w,h2,fun H' s w'=>⟨by have:=(vU h3).2.1;lia,fun H2 s2=>?_⟩⟩
 rw [if_neg (by rw [h3];decide)]
 exact q H2 (s.trans (sx s2)) (w'.same s2)
theorem v4 {x dx wa:Addr} {ws:List Str} {n:Int} {k:Nat} {ps:List V} {e:Nat} (F:WrF K t) (W:WrAt t H x dx wa ws n k) (h2:xw ws k=some (ps,e)) (h3:ws.length≤1000) (h4:ZP ws) (q:∀ H' r,SameX x H H'→WrAt t H' x dx wa ws n e→H' r=some (.tup ps)→r≠x→Q (.ref r) H') :
  yX K t { nx:=fun _ H'=>Q .non H',rt:=Q } (L2.start ["self","found"] [.ref x]) H:=by
 simp only [yX,vV,yU,qS,yH,L2.start,zV,zn,zJ,zm,zA,tOp,ze,tC,zd,zj,zI,zV,List.map,List.replicate,List.length,List.append,jqa,jqb,jqc,jqd,jqe,jqf,jqg,jqh,jqi,jqj,jqk,jql,jqm,jqn,and_true,true_and,and_assoc,jqo,jqp,jqq,Nat.reduceSub,Nat.reduceAdd,jqr,jqs,jqt,Int.reduceToNat,Int.reducePow,Int.reduceNeg,Int.reduceMul,Int.reduceAdd,if_true,ite_true,jqu,ite_false,if_false]
 refine ⟨_,_,_,W.ix,F.cl,F.n1,_,rfl,_,_,_,W.ix,F.cl,F.n3,_,rfl,_,rfl,ws,k,rfl,W.hw,h3,h4,.inl ⟨ps,e,h2,fun H1 p r s1 hp hr=>?_⟩⟩
 have np:p≠x:=wN hp (s1 _ _ W.ix) (fun z=>nomatch z)
 have nr:r≠x:=wN hr (s1 _ _ W.ix) (fun z=>nomatch z)
 exact ⟨_,SqT.of hp,_,rfl,_,_,_,s1 _ _ W.ix,F.cl,F.n3,(by simp),_,SqT.of (by rw [zk np];exact hp),_,rfl,q _ r (SameX.upd (sx s1)) ((W.same s1).put e) (by rw [zk nr];exact hr) nr⟩
theorem jc {x dx wa:Addr} {ws:List Str} {n:Int} (F:WrF K t) (W:WrAt t H x dx wa ws n ws.length) (q:∀ H',Same H H'→Q .non H') :
  xa K t { nx:=fun _ H'=>Q .non H',rt:=Q } (L2.start ["self"] [.ref x]) H:=by
 simp only [xa,yU,L2.start,zq,wQ,tOp,ze,zd,zj,zw,zo,tCB,xQ,rI0,yB,List.map,List.replicate,List.length,List.append,jqa,jqb,jqc,jqd,jqe,jqf,jqg,jqh,jqi,jqj,jqk,jql,jqm,jqn,and_true,true_and,and_assoc,jqo,jqp,jqq,Nat.reduceSub,Nat.reduceAdd,jqr,jqs,jqt,Int.reduceToNat,Int.reducePow,Int.reduceNeg,Int.reduceMul,Int.reduceAdd,if_true,ite_true,jqu,ite_false,if_false]
 refine ⟨_,_,_,W.ix,F.cl,F.n3,_,rfl,_,_,_,W.ix,F.cl,F.n1,_,rfl,ws.length,.inl ⟨_,SqL.of W.hw,(List.length_map ..).symm⟩,_,rfl,?_⟩
 rw [if_neg (by lia)]
 exact q H (Same.refl H)
theorem J7 {A B:List Str} {n i:Nat} (h:n=A.length + i):(A ++ B)[n]?=B[i]?:=by subst h;rw [List.getElem?_append_right (by lia)];congr 1;lia
theorem ZT {x dx wa:Addr} {ws:List Str} {n:Int} {sh:Str} {T:Tw} {sl:Str} (W:WrAt t H x dx wa ws n 1) (h2:ws=Hd.words (.take sh T sl)) (h3:Hd.ok (.take sh T sl)) (h4:ZP ws) (h5:ws.length≤60) (q:∀ H' v,SameX x H H'→WrAt t H' x dx wa ws n ws.length→HdAt (fun b=>H b=none) H' v (.take sh T sl)→Q v H') :
  vt K t { nx:=fun _ H'=>Q .non H',rt:=Q } (L2.start ["words","shelf","place"] [.ref x]) H:=by
 simp only [vt,zM,zG,xq,yj,L2.start,zn,zJ,zm,zA,zU,ze,tC,yh,zd,zj,List.map,List.replicate,List.length,List.append,jqa,jqb,jqc,jqd,jqe,jqf,jqg,jqh,jqi,jqj,jqk,jql,jqm,jqn,and_true,true_and,and_assoc,jqo,jqp,jqq,Nat.reduceSub,Nat.reduceAdd,jqr,jqs,jqt,Int.reduceToNat,Int.reducePow,Int.reduceNeg,Int.reduceMul,Int.reduceAdd,if_true,ite_true,jqu,ite_false,if_false]
 obtain ⟨o1,o2,o3⟩:=h3
 have e0:ws=([("take":Str),sh] ++ pre T) ++ [("as":Str),sl]:=h2
 have lw:ws.length=2 + (pre T).length + 2:=by rw [e0];simp;lia
 have e1:ws[1]?=some sh:=by rw [e0];simp
 have e2:xw ws 2=some (pst T,2 + (pre T).length):=by
  rw [e0]
  exact xT (A:=[("take":Str),sh]) o2.wf o2.ok (by lia)
 have e3:ws[2 + (pre T).length]?=some ("as":Str):=by rw [e0];exact J7 (i:=0) (by simp;lia)
 have e4:ws[2 + (pre T).length + 1]?=some sl:=by rw [e0];exact J7 (i:=1) (by simp;lia)
 refine ⟨_,_,W.ix,rfl,dx,wa,ws,n,1,W,sh,e1,o1,fun H1 s1 W1=>?_⟩
 refine ⟨_,_,W1.ix,rfl,dx,wa,ws,n,2,W1,_,_,e2,by lia,h4,fun H2 r s2 W2 hr nr=>?_⟩
 refine ⟨_,_,W2.ix,rfl,dx,wa,ws,n,_,W2,e3,fun H3 s3 W3=>?_⟩
 refine ⟨_,_,W3.ix,rfl,dx,wa,ws,n,_,W3,sl,e4,o3,fun H4 s4 W4=>⟨by decide,fun p hp=>?_⟩⟩
 have s5:=isV (o:=HO.tup [V.str (Str.ofString "take"),V.str sh,V.ref r,V.str sl]) p hp
 refine q _ (.ref p) (s1.trans (s2.trans (s3.trans (s4.trans (sx s5))))) (by rw [lw];exact W4.same s5) ⟨p,r,rfl,zc,s5 _ _ (s4 r _ nr (s3 r _ nr hr))⟩
theorem Hd.w_ne (hd:Hd):hd.words≠[]:=by cases hd <;> simp [Hd.words]
theorem Xd {x:Addr} {H H':Hp} {b:Addr} {o:HO} (s:SameX x H H') (hx:H' x=some o) (hb:H' b=none):H b=none:=by
 cases e:H b with
 | none=>rfl
 | some u =>
  by_cases n:b=x
  ·rw [n,hx] at hb;cases hb
  ·rw [s b u n e] at hb;cases hb
theorem Yg {x dx wa:Addr} {ws:List Str} {n:Int} {hd:Hd} (W:WrAt t H x dx wa ws n 0) (h2:ws=hd.words) (h3:hd.ok) (h4:ZP ws) (h5:ws.length≤60) (q:∀ H' v,SameX x H H'→WrAt t H' x dx wa ws n ws.length→HdAt (fun b=>H b=none) H' v hd→Q v H') :
  vY K t { nx:=fun _ H'=>Q .non H',rt:=Q } (L2.start ["words","first"] [.ref x]) H:=by
 simp only [vY,jF,jE,jD,zL,zM,zG,vm,yj,L2.start,zn,zJ,zm,zA,zq,wQ,tOp,ze,tC,yi,yh,zd,zj,zw,zo,zI,rEq,rIn,y0,List.map,List.replicate,List.length,List.append,jqa,jqb,jqc,jqd,jqe,jqf,jqg,jqh,jqi,jqj,jqk,jql,jqm,jqn,and_true,true_and,and_assoc,jqo,jqp,jqq,Nat.reduceSub,Nat.reduceAdd,jqr,jqs,jqt,Int.reduceToNat,Int.reducePow,Int.reduceNeg,Int.reduceMul,Int.reduceAdd,if_true,ite_true,jqu,ite_false,if_false]
 cases hd with
 | take sh T sl =>
  have e0:ws=([("take":Str),sh] ++ pre T) ++ [("as":Str),sl]:=h2
  refine ⟨_,_,W.ix,rfl,dx,wa,ws,n,0,W,"take",by rw [e0];rfl,fun H1 s1 W1=>?_⟩
  rw [if_pos rfl]
  exact ⟨dx,wa,ws,n,W1,sh,T,sl,h2,h3,h4,h5,fun H' v s w h=>q H' v (s1.trans s) w h⟩
 | give sh T U =>
  obtain ⟨o1,o2,o3⟩:=h3
  have e0:ws=([("give":Str),sh] ++ pre T) ++ pre U:=h2
  have lw:ws.length=2 + (pre T).length + (pre U).length:=by rw [e0];simp;lia
  have e1:ws[1]?=some sh:=by rw [e0];simp
  have e2:xw ws 2=some (pst T,2 + (pre T).length):=by
   rw [e0]
   exact xT (A:=[("give":Str),sh]) o2.wf o2.ok (by lia)
  have e3:xw ws (2 + (pre T).length)=some (pst U,2 + (pre T).length + (pre U).length):=by
   have:=xT (A:=[("give":Str),sh] ++ pre T) (B:=[]) o3.wf o3.ok (by lia)
   rw [List.append_nil,← e0,show ([("give":Str),sh] ++ pre T).length=2 + (pre T).length by simp;lia] at this
   exact this
  refine ⟨_,_,W.ix,rfl,dx,wa,ws,n,0,W,"give",by rw [e0];rfl,fun H1 s1 W1=>?_⟩
  rw [if_neg (by decide +kernel),if_pos rfl]
  refine ⟨_,_,W1.ix,rfl,dx,wa,ws,n,1,W1,sh,e1,o1,fun H2 s2 W2=>?_⟩
  refine ⟨_,_,W2.ix,rfl,dx,wa,ws,n,2,W2,_,_,e2,by lia,h4,fun H3 r s3 W3 hr nr=>?_⟩
  refine ⟨_,_,W3.ix,rfl,dx,wa,ws,n,_,W3,_,_,e3,by lia,h4,fun H4 r2 s4 W4 hr2 nr2=>⟨by decide,fun p hp=>?_⟩⟩
  have s5:=isV (o:=HO.tup [V.str (Str.ofString "give"),V.str sh,V.ref r,V.ref r2]) p hp
  exact q _ (.ref p) (s1.trans (s2.trans (s3.trans (s4.trans (sx s5))))) (by rw [lw];exact W4.same s5) ⟨p,r,r2,rfl,zc,s5 _ _ (s4 r _ nr hr),s5 _ _ hr2⟩
 | lt sl T =>
  obtain ⟨o1,o2⟩:=h3
  have e0:ws=[("let":Str),sl] ++ pre T:=h2
  have lw:ws.length=2 + (pre T).length:=by rw [e0];simp;lia
  have e1:ws[1]?=some sl:=by rw [e0];simp
  have e2:xw ws 2=some (pst T,2 + (pre T).length):=by
   have:=xT (A:=[("let":Str),sl]) (B:=[]) o2.wf o2.ok (by lia)
   rw [List.append_nil,← e0] at this
   exact this
  refine ⟨_,_,W.ix,rfl,dx,wa,ws,n,0,W,"let",by rw [e0];rfl,fun H1 s1 W1=>?_⟩
  rw [if_neg (by decide +kernel),if_neg (by decide +kernel),if_pos rfl]
  refine ⟨_,_,W1.ix,rfl,dx,wa,ws,n,1,W1,sl,e1,o1,fun H2 s2 W2=>?_⟩
  refine ⟨_,_,W2.ix,rfl,dx,wa,ws,n,2,W2,_,_,e2,by lia,h4,fun H3 r s3 W3 hr nr=>⟨by decide,fun p hp=>?_⟩⟩
  have s5:=isV (o:=HO.tup [V.str (Str.ofString "let"),V.str sl,V.ref r]) p hp
  exact q _ (.ref p) (s1.trans (s2.trans (s3.trans (sx s5)))) (by rw [lw];exact W3.same s5) ⟨p,r,rfl,zc,s5 _ _ hr⟩
 | say T =>
  have e0:ws=[("say":Str)] ++ pre T:=h2
  have lw:ws.length=1 + (pre T).length:=by rw [e0];simp;lia
  have e2:xw ws 1=some (pst T,1 + (pre T).length):=by
   have:=xT (A:=[("say":Str)]) (B:=[]) (TmOk.wf h3) (TmOk.ok h3) (by lia)
   rw [List.append_nil,← e0] at this
   exact this
  refine ⟨_,_,W.ix,rfl,dx,wa,ws,n,0,W,"say",by rw [e0];rfl,fun H1 s1 W1=>?_⟩
  rw [if_neg (by decide +kernel),if_neg (by decide +kernel),if_neg (by decide +kernel)]
  refine ⟨by decide,fun p hp=>⟨_,.inr (SqT.of zc),rfl,rfl,?_⟩⟩
  rw [if_pos (by decide +kernel)]
  have s2:=isV (o:=HO.tup [V.str (Str.ofString "say"),V.str (Str.ofString "off")]) p hp
  have W2:=W1.same s2
  refine ⟨_,_,W2.ix,rfl,dx,wa,ws,n,1,W2,_,_,e2,by lia,h4,fun H3 r s3 W3 hr nr=>⟨by decide,fun p2 hp2=>?_⟩⟩
  have s5:=isV (o:=HO.tup [V.str (Str.ofString "say"),V.ref r]) p2 hp2
  exact q _ (.ref p2) (s1.trans ((sx s2).trans (s3.trans (sx s5)))) (by rw [lw];exact W3.same s5) ⟨p2,r,rfl,zc,s5 _ _ hr⟩
 | off T =>
  have e0:ws=[("off":Str)] ++ pre T:=h2
  have lw:ws.length=1 + (pre T).length:=by rw [e0];simp;lia
  have e2:xw ws 1=some (pst T,1 + (pre T).length):=by
   have:=xT (A:=[("off":Str)]) (B:=[]) (TmOk.wf h3) (TmOk.ok h3) (by lia)
   rw [List.append_nil,← e0] at this
   exact this
  refine ⟨_,_,W.ix,rfl,dx,wa,ws,n,0,W,"off",by rw [e0];rfl,fun H1 s1 W1=>?_⟩
  rw [if_neg (by decide +kernel),if_neg (by decide +kernel),if_neg (by decide +kernel)]
  refine ⟨by decide,fun p hp=>⟨_,.inr (SqT.of zc),rfl,rfl,?_⟩⟩
  rw [if_pos (by decide +kernel)]
  have s2:=isV (o:=HO.tup [V.str (Str.ofString "say"),V.str (Str.ofString "off")]) p hp
  have W2:=W1.same s2
  refine ⟨_,_,W2.ix,rfl,dx,wa,ws,n,1,W2,_,_,e2,by lia,h4,fun H3 r s3 W3 hr nr=>⟨by decide,fun p2 hp2=>?_⟩⟩
  have s5:=isV (o:=HO.tup [V.str (Str.ofString "off"),V.ref r]) p2 hp2
  exact q _ (.ref p2) (s1.trans ((sx s2).trans (s3.trans (sx s5)))) (by rw [lw];exact W3.same s5) ⟨p2,r,rfl,zc,s5 _ _ hr⟩
 | iff T =>
  have e0:ws=[("if":Str)] ++ pre T:=h2
  have lw:ws.length=1 + (pre T).length:=by rw [e0];simp;lia
  have e2:xw ws 1=some (pst T,1 + (pre T).length):=by
   have:=xT (A:=[("if":Str)]) (B:=[]) (TmOk.wf h3) (TmOk.ok h3) (by lia)
   rw [List.append_nil,← e0] at this
   exact this
  refine ⟨_,_,W.ix,rfl,dx,wa,ws,n,0,W,"if",by rw [e0];rfl,fun H1 s1 W1=>?_⟩
  rw [if_neg (by decide +kernel),if_neg (by decide +kernel),if_neg (by decide +kernel)]
  refine ⟨by decide,fun p hp=>⟨_,.inr (SqT.of zc),rfl,rfl,?_⟩⟩
  rw [if_neg (by decide +kernel),if_pos rfl]
  have s2:=isV (o:=HO.tup [V.str (Str.ofString "say"),V.str (Str.ofString "off")]) p hp
  have W2:=W1.same s2
  refine ⟨_,_,W2.ix,rfl,dx,wa,ws,n,1,W2,_,_,e2,by lia,h4,fun H3 r s3 W3 hr nr=>⟨Nat.zero_le _,fun la hla=>⟨Nat.zero_le _,fun lb hlb=>⟨by decide,fun p2 hp2=>?_⟩⟩⟩⟩
  have s4:=isV (o:=HO.lst []) la hla
  have s5:=isV (o:=HO.lst []) lb hlb
  have s6:=isV (o:=HO.tup [V.str (Str.ofString "if"),V.ref r,V.ref la,V.ref lb]) p2 hp2
  have S3:=s1.trans ((sx s2).trans s3)
  have S:=s4.trans (s5.trans s6)
  have fa:H la=none:=Xd S3 W3.ix hla
  have fb:H lb=none:=Xd (S3.trans (sx s4)) (s4 _ _ W3.ix) hlb
  exact q _ (.ref p2) (S3.trans (sx S)) (by rw [lw];exact W3.same S) ⟨p2,r,la,lb,rfl,zc,S _ _ hr,s6 _ _ (s5 _ _ zc),s6 _ _ zc,fa,fb,Ne.symm (jI zc hlb)⟩
 | els =>
  have e0:ws=[("else":Str)]:=h2
  refine ⟨_,_,W.ix,rfl,dx,wa,ws,n,0,W,"else",by rw [e0];rfl,fun H1 s1 W1=>?_⟩
  rw [if_neg (by decide +kernel),if_neg (by decide +kernel),if_neg (by decide +kernel)]
  refine ⟨by decide,fun p hp=>⟨_,.inr (SqT.of zc),rfl,rfl,?_⟩⟩
  rw [if_neg (by decide +kernel),if_neg (by decide +kernel)]
  refine ⟨by decide,fun p2 hp2=>⟨_,.inr (SqT.of zc),rfl,rfl,?_⟩⟩
  rw [if_pos (by decide +kernel)]
  refine ⟨by decide,fun p3 hp3=>?_⟩
  have S:=(isV p hp).trans ((isV p2 hp2).trans (isV (o:=HO.tup [V.str (Str.ofString "else")]) p3 hp3))
  exact q _ (.ref p3) (s1.trans (sx S)) (by rw [e0];rw [e0] at W1;exact W1.same S) ⟨p3,rfl,zc⟩
 | nd =>
  have e0:ws=[("end":Str)]:=h2
  refine ⟨_,_,W.ix,rfl,dx,wa,ws,n,0,W,"end",by rw [e0];rfl,fun H1 s1 W1=>?_⟩
  rw [if_neg (by decide +kernel),if_neg (by decide +kernel),if_neg (by decide +kernel)]
  refine ⟨by decide,fun p hp=>⟨_,.inr (SqT.of zc),rfl,rfl,?_⟩⟩
  rw [if_neg (by decide +kernel),if_neg (by decide +kernel)]
  refine ⟨by decide,fun p2 hp2=>⟨_,.inr (SqT.of zc),rfl,rfl,?_⟩⟩
  rw [if_pos (by decide +kernel)]
  refine ⟨by decide,fun p3 hp3=>?_⟩
  have S:=(isV p hp).trans ((isV p2 hp2).trans (isV (o:=HO.tup [V.str (Str.ofString "end")]) p3 hp3))
  exact q _ (.ref p3) (s1.trans (sx S)) (by rw [e0];rw [e0] at W1;exact W1.same S) ⟨p3,rfl,zc⟩
def NB (w:Str):Prop:=32 ∉ w.cps.toList∧10 ∉ w.cps.toList
theorem zaB {w:Str} {lo:Nat} (h:∀ c∈w.cps.toList,33≤c):NB w:=⟨fun z=>by have:=h _ z;lia,fun z=>by have:=h _ z;lia⟩
theorem zac (w:Int):NB (yC w):=zaB (lo:=0) fun c hc=>by
 have d:∀ (m c:Nat),c∈dg m→33≤c:=fun m c h=>by have:=ka m c h;lia
 rcases Int.lt_or_le w 0 with h0 | h0
 ·obtain ⟨m,rfl,hm⟩:∃ m:Nat,w=-(m:Int)∧0 < m:=⟨w.natAbs,by lia,by lia⟩
  rw [wr hm] at hc
  rcases List.mem_cons.mp hc with rfl | hc
  ·decide
  ·exact d m c hc
 ·obtain ⟨m,rfl⟩:∃ m:Nat,w=(m:Int):=⟨w.natAbs,by lia⟩
  rw [y6] at hc
  exact d m c hc
def WOk (w:Str):Prop:=(w.length≤100∧Asc w)∧NB w
theorem Zj {x:Str} (h:(decide (x.length≤100) && x.cps.toList.all (fun c=>decide (c < 128) && decide (c≠32) && decide (c≠10)))=true):WOk x:=by
 rw [Bool.and_eq_true,List.all_eq_true] at h
 have g:∀ c∈x.cps.toList,c < 128∧c≠32∧c≠10:=fun c hc=>by
  have:=h.2 c hc
  simp only [Bool.and_eq_true,decide_eq_true_eq] at this
  exact ⟨this.1.1,this.1.2,this.2⟩
 exact ⟨⟨of_decide_eq_true h.1,fun c hc=>(g c hc).1⟩,fun z=>(g _ z).2.1 rfl,fun z=>(g _ z).2.2 rfl⟩
theorem jK (c:Nat) (m:Nat):∀ (ws:List Str),(∀ w∈ws,w.length≤m)→(Str.join ⟨#[c]⟩ ws).length≤ws.length * (m + 1)
 | [],_=>by simp [Str.join,Str.empty,Str.length]
 | [x],h=>by
  show x.length≤1 * (m + 1)
  have:=h x List.mem_cons_self
  lia
 | x :: y :: r,h=>by
  have h1:=h x List.mem_cons_self
  have h2:=jK c m (y :: r) fun w hw=>h w (List.mem_cons_of_mem _ hw)
  rw [YG,Vb,Vb]
  have:(⟨#[c]⟩:Str).length=1:=rfl
  simp only [List.length_cons] at h2 ⊢
  have e:(r.length + 1 + 1) * (m + 1)=(r.length + 1) * (m + 1) + (m + 1):=by rw [Nat.add_mul (r.length + 1) 1,Nat.one_mul]
  lia
theorem X7 {c d:Nat}:∀ {ws:List Str},d∈(Str.join ⟨#[c]⟩ ws).cps.toList→d=c∨∃ w∈ws,d∈w.cps.toList
 | [],h=>by simp [Str.join,Str.empty] at h
 | [x],h=>.inr ⟨x,List.mem_cons_self,h⟩
 | x :: y :: r,h=>by
  rw [xU] at h
  rcases List.mem_append.mp h with h | h
  ·exact .inr ⟨x,List.mem_cons_self,h⟩
  ·rcases List.mem_cons.mp h with h | h
   ·exact .inl h
   ·rcases X7 (ws:=y :: r) h with h | ⟨w,hw,h⟩
    ·exact .inl h
    ·exact .inr ⟨w,List.mem_cons_of_mem _ hw,h⟩
theorem J8:Str.ofString " "=Qa:=by decide +kernel
theorem Qz:Str.ofString "\n"=Yd:=by decide +kernel
theorem J9 {hd:Hd} (L:wZ hd):hd.line.length≤10000:=by
 have:=jK 32 100 hd.words fun w hw=>(L.ws w hw).1
 have l:=L.ln
 show (Str.join ⟨#[32]⟩ hd.words).length≤_
 have:hd.words.length * 101≤60 * 101:=Nat.mul_le_mul_right _ l
 lia
theorem WN {hd:Hd} (L:wZ hd):Txt.split hd.line (Str.ofString " ")=hd.words:=by
 rw [J8]
 exact ZM hd.w_ne fun w hw=>(L.bl w hw).1
theorem HdAt.to {F G:Addr→Prop} {H H':Hp} {v:V} {hd:Hd} (g:∀ b,F b→G b) (s:Same H H') (h:HdAt F H v hd):HdAt G H' v hd:=by
 cases hd with
 | take sh T sl =>
  obtain ⟨r,te,e,e1,e2⟩:=h
  exact ⟨r,te,e,s _ _ e1,s _ _ e2⟩
 | give sh T U =>
  obtain ⟨r,te,tf,e,e1,e2,e3⟩:=h
  exact ⟨r,te,tf,e,s _ _ e1,s _ _ e2,s _ _ e3⟩
 | lt sl T =>
  obtain ⟨r,te,e,e1,e2⟩:=h
  exact ⟨r,te,e,s _ _ e1,s _ _ e2⟩
 | say T =>
  obtain ⟨r,te,e,e1,e2⟩:=h
  exact ⟨r,te,e,s _ _ e1,s _ _ e2⟩
 | off T =>
  obtain ⟨r,te,e,e1,e2⟩:=h
  exact ⟨r,te,e,s _ _ e1,s _ _ e2⟩
 | iff T =>
  obtain ⟨r,te,la,lb,e,e1,e2,e3,e4,f1,f2,n⟩:=h
  exact ⟨r,te,la,lb,e,s _ _ e1,s _ _ e2,s _ _ e3,s _ _ e4,g _ f1,g _ f2,n⟩
 | els =>
  obtain ⟨r,e,e1⟩:=h
  exact ⟨r,e,s _ _ e1⟩
 | nd =>
  obtain ⟨r,e,e1⟩:=h
  exact ⟨r,e,s _ _ e1⟩
theorem vH {E:XK} {H1:Hp} {k:Int} (h:ndE t E H k) (s:Same H H1):∀ d,H1 d=none→E (.ref t.c_NoDealing) (some d) (upd H1 d (.xd [("row",.int k)])):=fun d hd=>h d _ (s.trans (isV d hd)) zc
theorem ndE.mono {E:XK} {H1:Hp} {k:Int} (h:ndE t E H k) (s:Same H H1):ndE t E H1 k:=fun d H' s' e=>h d H' (s.trans s') e
theorem ku {x:Addr} {y:V} (h1:H x=some (exN x t.c_NoDealing)) (q:∀ d,H d=none→d≠x→Q .non (upd (upd H d (.xd [("row",y)])) x (exM x t.c_NoDealing d))) :
  xL K t { nx:=fun _ H'=>Q .non H',rt:=Q } (L2.start ["self","row"] [.ref x,y]) H:=by
 simp only [xL,JW,L2.start,ze,List.map,List.replicate,List.length,List.append,jqa,jqb,jqc,jqd,jqe,jqf,jqg,jqh,jqi,jqj,jqk,jql,jqm,jqn,and_true,true_and,and_assoc,jqo,jqp,jqq,Nat.reduceSub,Nat.reduceAdd,jqr,jqs,jqt,Int.reduceToNat,Int.reducePow,Int.reduceNeg,Int.reduceMul,Int.reduceAdd,if_true,ite_true,jqu,ite_false,if_false]
 exact ⟨h1,q⟩
theorem WO {x:Str} {n:Nat} {hd:Hd} (h1:x=hd.line) (L:wZ hd) {E:XK} (q1:n < 40→∀ H' v,Same H H'→HdAt (fun b=>H b=none) H' v hd→Q v H') (q2:40≤n→ndE t E H n) :
  qm K t E { nx:=fun _ H'=>Q .non H',rt:=Q } (L2.start ["text","number","words","drawn","row"] [.str x,.int n]) H:=by
 subst h1
 simp only [qm,x8,vW,y7,yj,Zs,wW,yN,L2.start,zn,zJ,zm,zA,zU,zq,tOp,ze,tC,zd,zj,zw,tOr,zo,tCB,tBM,tyV,zI,xQ,rI0,yB,List.map,List.replicate,List.length,List.append,jqa,jqb,jqc,jqd,jqe,jqf,jqg,jqh,jqi,jqj,jqk,jql,jqm,jqn,and_true,true_and,and_assoc,jqo,jqp,jqq,Nat.reduceSub,Nat.reduceAdd,jqr,jqs,jqt,Int.reduceToNat,Int.reducePow,Int.reduceNeg,Int.reduceMul,Int.reduceAdd,if_true,ite_true,jqu,ite_false,if_false]
 rw [WN L]
 have ll:=J9 L
 have ln:=L.ln
 have lm:(List.map V.str hd.words).length=hd.words.length:=List.length_map ..
 refine ⟨by decide +kernel,by lia,by lia,fun l hl=>?_⟩
 have s0:=isV (o:=HO.lst (List.map V.str hd.words)) l hl
 by_cases h3:n < 40
 case neg=>rw [if_pos (by lia)];exact vH (q2 (by lia)) s0
 have q:=q1 h3
 rw [if_neg (by lia)]
 refine ⟨hd.words.length,.inl ⟨_,SqL.of zc,lm.symm⟩,?_⟩
 rw [if_neg (by lia)]
 intro x dx hx hdx n
 have s1:=isV (o:=HO.lst (List.map V.str hd.words)) l hl
 have l1:upd H l (HO.lst (List.map V.str hd.words)) l=some (.lst (List.map V.str hd.words)):=zc
 generalize upd H l (HO.lst (List.map V.str hd.words))=H1 at *
 have s2:=isV (o:=HO.own x) dx hdx
 have hx2:upd H1 dx (HO.own x) x=none:=by rw [zk (Ne.symm n)];exact hx
 have s3:=isV (o:=HO.ins t.c_RowWords dx []) x hx2
 refine ⟨dx,zc,hd.words,(s2.trans s3) _ _ l1,fun H2 s4 W2=>?_⟩
 refine ⟨dx,l,hd.words,_,W2,hd,rfl,L.ok,L.ws,L.ln,fun H3 v s5 W3 hv=>?_⟩
 refine ⟨_,_,W3.ix,rfl,dx,l,hd.words,_,W3,fun H4 s6=>?_⟩
 have fx:H x=none:=xb (s1.trans s2) hx2
 have S3:Same H H3:=(s4.trans s5).same (s1.trans (s2.trans s3)) fx
 have S4:=S3.trans s6
 have S2:Same H H2:=s4.same (s1.trans (s2.trans s3)) fx
 exact q H4 v S4 (hv.to (fun b hb=>xb S2 hb) s6)
theorem qy {x dx:Addr} (F:RdF K t) (h1:H x=some (.ins t.c_Reading dx [])) (q:∀ H' rl bl tl,SameX x H H'→RdAt t H' x dx rl bl tl [] []→H' rl=some (.lst [])→H rl=none→H bl=none→H tl=none→Q .non H') :
  wE K t { nx:=fun _ H'=>Q .non H',rt:=Q } (L2.start ["self"] [.ref x]) H:=by
 simp only [wE,qS,yH,L2.start,zn,ze,yi,zj,List.map,List.replicate,List.length,List.append,jqa,jqb,jqc,jqd,jqe,jqf,jqg,jqh,jqi,jqj,jqk,jql,jqm,jqn,and_true,true_and,and_assoc,jqo,jqp,jqq,Nat.reduceSub,Nat.reduceAdd,jqr,jqs,jqt,Int.reduceToNat,Int.reducePow,Int.reduceNeg,Int.reduceMul,Int.reduceAdd,if_true,ite_true,jqu,ite_false,if_false]
 refine ⟨Nat.zero_le _,fun rl hrl=>?_⟩
 have nr:x≠rl:=zx h1 hrl
 refine ⟨_,_,_,(by rw [zk nr];exact h1),F.cl,F.n1,by decide,Nat.zero_le _,?_⟩
 have S1:SameX x H (upd (upd H rl (.lst [])) x (.ins t.c_Reading dx (yH "rows" (.ref rl) []))):=SameX.upd (sx (isV rl hrl))
 have x1:upd (upd H rl (.lst [])) x (.ins t.c_Reading dx (yH "rows" (.ref rl) [])) x=some (.ins t.c_Reading dx (yH "rows" (.ref rl) [])):=zc
 have r1:upd (upd H rl (.lst [])) x (.ins t.c_Reading dx (yH "rows" (.ref rl) [])) rl=some (.lst []):=by rw [zk (Ne.symm nr),zc]
 generalize upd (upd H rl (.lst [])) x (.ins t.c_Reading dx (yH "rows" (.ref rl) []))=H1 at *
 intro bl hbl
 have nb:x≠bl:=zx x1 hbl
 refine ⟨_,_,_,(by rw [zk nb];exact x1),F.cl,F.n2,(by simp [yH]),Nat.zero_le _,?_⟩
 have S2:SameX x H (upd (upd H1 bl (.lst [])) x (.ins t.c_Reading dx (yH "blocks" (.ref bl) (yH "rows" (.ref rl) [])))):=SameX.upd (S1.trans (sx (isV bl hbl)))
 have x2:upd (upd H1 bl (.lst [])) x (.ins t.c_Reading dx (yH "blocks" (.ref bl) (yH "rows" (.ref rl) []))) x=some (.ins t.c_Reading dx (yH "blocks" (.ref bl) (yH "rows" (.ref rl) []))):=zc
 have r2:upd (upd H1 bl (.lst [])) x (.ins t.c_Reading dx (yH "blocks" (.ref bl) (yH "rows" (.ref rl) []))) rl=some (.lst []):=by rw [zk (Ne.symm nr),zk (zx r1 hbl)];exact r1
 have b2:upd (upd H1 bl (.lst [])) x (.ins t.c_Reading dx (yH "blocks" (.ref bl) (yH "rows" (.ref rl) []))) bl=some (.lst []):=by rw [zk (Ne.symm nb),zc]
 have nrb:rl≠bl:=zx r1 hbl
 generalize upd (upd H1 bl (.lst [])) x (.ins t.c_Reading dx (yH "blocks" (.ref bl) (yH "rows" (.ref rl) [])))=H2 at *
 intro tl htl
 have nt:x≠tl:=zx x2 htl
 refine ⟨_,_,_,(by rw [zk nt];exact x2),F.cl,F.n3,(by simp [yH];split <;> simp),q _ rl bl tl (SameX.upd (S2.trans (sx (isV tl htl)))) ⟨zc,?_,?_,nrb,zx r2 htl,zx b2 htl,rfl,Nat.zero_le _⟩ ?_ hrl (Xd S1 x1 hbl) (Xd S2 x2 htl)⟩
 ·rw [zk (Ne.symm nb),zk (zx b2 htl)];exact b2
 ·rw [zk (Ne.symm nt),zc];rfl
 ·rw [zk (Ne.symm nr),zk (zx r2 htl)];exact r2
theorem qz {α:Type} {xs:List α} {a:α}:atI (xs ++ [a]) (-1)=some a:=by
 unfold atI ixN
 rw [if_neg (by decide),if_pos (by simp;lia)]
 have:(-1 + ((xs ++ [a]).length:Int)).toNat=xs.length:=by simp;lia
 rw [this]
 simp
theorem jd {x dx rl bl tl:Addr} {blocks:List V} {turned:List Bool} {inn:Addr} (F:RdF K t) (R:RdAt t H x dx rl bl tl blocks turned) (h2:Inn H rl blocks turned inn) (q:∀ H',Same H H'→Q (.ref inn) H') :
  y9 K t { nx:=fun _ H'=>Q .non H',rt:=Q } (L2.start ["self"] [.ref x]) H:=by
 simp only [y9,yU,L2.start,kc,zV,zn,zA,zq,tOp,tUn,ze,tC,yi,zj,zw,zo,tB,tIf,xP,zV,rU,List.map,List.replicate,List.length,List.append,jqa,jqb,jqc,jqd,jqe,jqf,jqg,jqh,jqi,jqj,jqk,jql,jqm,jqn,and_true,true_and,and_assoc,jqo,jqp,jqq,Nat.reduceSub,Nat.reduceAdd,jqr,jqs,jqt,Int.reduceToNat,Int.reducePow,Int.reduceNeg,Int.reduceMul,Int.reduceAdd,if_true,ite_true,jqu,ite_false,if_false]
 refine ⟨_,_,_,R.ix,F.cl,F.n2,_,rfl,Nat.zero_le _,fun p hp=>?_⟩
 have s1:=isV (o:=HO.lst []) p hp
 refine ⟨bl,rfl,blocks,SqL.of (s1 _ _ R.hb),SqL.of zc,?_⟩
 rcases h2 with ⟨e,rfl⟩ | ⟨bs,r,hd,te,la,lb,cs,c,rfl,rfl,hr,e⟩
 ·rw [if_pos e]
  exact ⟨_,_,_,s1 _ _ R.ix,F.cl,F.n1,_,rfl,q _ s1⟩
 ·rw [if_neg (by simp)]
  have a1:atI ((cs ++ [c]).map V.bl) (-1)=some (V.bl c):=by rw [List.map_append];exact qz
  have a2:atI (bs ++ [V.ref r]) (-1)=some (V.ref r):=qz
  refine ⟨_,_,_,s1 _ _ R.ix,F.cl,F.n3,_,rfl,_,rfl,_,SqL.of (s1 _ _ R.ht),_,a1,c,rfl,?_⟩
  cases c with
  | true =>
   rw [if_pos rfl] at e ⊢
   subst e
   exact ⟨_,_,_,s1 _ _ R.ix,F.cl,F.n2,_,rfl,_,rfl,_,SqL.of (s1 _ _ R.hb),_,a2,_,rfl,_,SqT.of (s1 _ _ hr),_,rfl,q _ s1⟩
  | false =>
   rw [if_neg (by decide)] at e ⊢
   subst e
   exact ⟨_,_,_,s1 _ _ R.ix,F.cl,F.n2,_,rfl,_,rfl,_,SqL.of (s1 _ _ R.hb),_,a2,_,rfl,_,SqT.of (s1 _ _ hr),_,rfl,q _ s1⟩
theorem kx {x:Addr} {v:V} {n:Int} {dx rl bl tl:Addr} {blocks:List V} {turned:List Bool} {inn:Addr} {zs:List V} (F:RdF K t) (R:RdAt t H x dx rl bl tl blocks turned) (h2:Inn H rl blocks turned inn) (h3:H inn=some (.lst zs)) (h4:zs.length≤1000) (h5:inn≠bl) (h6:inn≠tl) {E:XK} (hq:Q8 t H inn bl tl zs blocks turned v n Q E) :
  xM K t E { nx:=fun _ H'=>Q .non H',rt:=Q } (L2.start ["self","row","number"] [.ref x,v,.int n]) H:=by
 simp only [xM,ye,yU,yj,yN,L2.start,zr,yu,zn,zU,zq,tOp,ze,tC,zd,zj,zw,zo,tCB,tBM,tyV,xQ,rEq,yB,y0,List.map,List.replicate,List.length,List.append,jqa,jqb,jqc,jqd,jqe,jqf,jqg,jqh,jqi,jqj,jqk,jql,jqm,jqn,and_true,true_and,and_assoc,jqo,jqp,jqq,Nat.reduceSub,Nat.reduceAdd,jqr,jqs,jqt,Int.reduceToNat,Int.reducePow,Int.reduceNeg,Int.reduceMul,Int.reduceAdd,if_true,ite_true,jqu,ite_false,if_false]
 refine ⟨_,_,_,R.ix,F.cl,F.n2,_,rfl,blocks.length,.inl ⟨_,SqL.of R.hb,rfl⟩,?_⟩
 have l50:=R.l5
 by_cases h7:blocks.length < 5
 case neg=>rw [if_pos (by lia)];exact vH (hq.2 (by lia)) (Same.refl H)
 have q:=hq.1 h7
 rw [if_neg (by lia)]
 refine ⟨_,_,R.ix,rfl,dx,rl,bl,tl,blocks,turned,R,inn,h2,fun H1 s1=>⟨.inl ⟨_,SqL.of (s1 _ _ h3)⟩,zs,s1 _ _ h3,Nat.lt_of_le_of_lt (by lia:zs.length≤1000) (by decide),?_⟩⟩
 have nxi:x≠inn:=wN R.ix h3 (fun z=>nomatch z)
 have nxb:x≠bl:=wN R.ix R.hb (fun z=>nomatch z)
 have hb1:upd H1 inn (HO.lst (zs ++ [v])) bl=some (.lst blocks):=by rw [zk (Ne.symm h5)];exact s1 _ _ R.hb
 have ht1:upd (upd H1 inn (HO.lst (zs ++ [v]))) bl (HO.lst (blocks ++ [v])) tl=some (.lst (turned.map V.bl)):=by rw [zk (Ne.symm R.n3),zk (Ne.symm h6)];exact s1 _ _ R.ht
 have l5:=R.l5
 have le:=R.le
 have hx1:upd H1 inn (HO.lst (zs ++ [v])) x=some (.ins t.c_Reading dx [("rows",.ref rl),("blocks",.ref bl),("turned",.ref tl)]):=by rw [zk nxi];exact s1 _ _ R.ix
 have hx2:upd (upd H1 inn (HO.lst (zs ++ [v]))) bl (HO.lst (blocks ++ [v])) x=some (.ins t.c_Reading dx [("rows",.ref rl),("blocks",.ref bl),("turned",.ref tl)]):=by rw [zk nxb,zk nxi];exact s1 _ _ R.ix
 refine ⟨_,_,_,hx1,F.cl,F.n2,_,rfl,.inl ⟨_,SqL.of hb1⟩,bl,rfl,blocks,hb1,Nat.lt_of_le_of_lt (by lia:blocks.length≤1000) (by decide),_,_,_,hx2,F.cl,F.n3,_,rfl,.inl ⟨_,SqL.of ht1⟩,tl,rfl,_,ht1,Nat.lt_of_le_of_lt (by rw [List.length_map];lia:(turned.map V.bl).length≤1000) (by decide),?_⟩
 rw [show turned.map V.bl ++ [V.bl false]=(turned ++ [false]).map V.bl by simp]
 exact q H1 s1
theorem kY {x:Addr} {n:Int} {dx rl bl tl:Addr} {bks:List V} {trd:List Bool} {E:XK} (F:RdF K t) (R0:RdAt t H x dx rl bl tl bks trd) (hq:zaa t H bl tl bks trd n Q E) :
  we K t E { nx:=fun _ H'=>Q .non H',rt:=Q } (L2.start ["self","number"] [.ref x,.int n]) H:=by
 simp only [we,yU,yN,L2.start,kc,xu,Wt,zn,zU,zq,tOp,ze,yi,zd,zj,zw,zo,Zx,tyV,List.map,List.replicate,List.length,List.append,jqa,jqb,jqc,jqd,jqe,jqf,jqg,jqh,jqi,jqj,jqk,jql,jqm,jqn,and_true,true_and,and_assoc,jqo,jqp,jqq,Nat.reduceSub,Nat.reduceAdd,jqr,jqs,jqt,Int.reduceToNat,Int.reducePow,Int.reduceNeg,Int.reduceMul,Int.reduceAdd,if_true,ite_true,jqu,ite_false,if_false]
 refine ⟨_,_,_,R0.ix,F.cl,F.n2,_,rfl,Nat.zero_le _,fun p hp=>?_⟩
 have s1:=isV (o:=HO.lst []) p hp
 refine ⟨bl,rfl,_,SqL.of (s1 _ _ R0.hb),SqL.of zc,?_⟩
 rcases hq with ⟨blocks,b,turned,c,rfl,rfl,q⟩ | ⟨e,q⟩
 case inr=>rw [if_pos e];exact vH q s1
 have R:=R0
 rw [if_neg (by simp)]
 refine ⟨_,_,_,s1 _ _ R.ix,F.cl,F.n2,_,rfl,.inl ⟨_,SqL.of (s1 _ _ R.hb)⟩,_,rfl,_,s1 _ _ R.hb,_,kW,?_⟩
 rw [vG]
 have nxb:x≠bl:=wN R.ix R.hb (fun z=>nomatch z)
 have ht1:upd (upd H p (HO.lst [])) bl (HO.lst blocks) tl=some (.lst (turned.map V.bl ++ [V.bl c])):=by
  rw [zk (Ne.symm R.n3)]
  have:=s1 _ _ R.ht
  rw [List.map_append] at this
  exact this
 have hx1:upd (upd H p (HO.lst [])) bl (HO.lst blocks) x=some (.ins t.c_Reading dx [("rows",.ref rl),("blocks",.ref bl),("turned",.ref tl)]):=by rw [zk nxb];exact s1 _ _ R.ix
 refine ⟨_,_,_,hx1,F.cl,F.n3,_,rfl,.inl ⟨_,SqL.of ht1⟩,tl,rfl,_,ht1,_,kW,?_⟩
 rw [vG]
 exact q _ s1
theorem Qd {F:Addr→Prop} {v:V} {hd:Hd} (h:HdAt F H v hd):∃ r xs w,v=.ref r∧H r=some (.tup xs)∧atI xs 0=some (.str w)∧(w="else"↔hd=.els)∧(w="end"↔hd=.nd)∧(w="if"↔∃ T,hd=.iff T):=by
 cases hd with
 | take sh T sl =>
  obtain ⟨r,te,e,e1,e2⟩:=h
  exact ⟨r,_,"take",e,e1,rfl,⟨fun z=>absurd z (by decide +kernel),fun z=>nomatch z⟩,⟨fun z=>absurd z (by decide +kernel),fun z=>nomatch z⟩,⟨fun z=>absurd z (by decide +kernel),fun ⟨_,z⟩=>nomatch z⟩⟩
 | give sh T U =>
  obtain ⟨r,te,tf,e,e1,e2⟩:=h
  exact ⟨r,_,"give",e,e1,rfl,⟨fun z=>absurd z (by decide +kernel),fun z=>nomatch z⟩,⟨fun z=>absurd z (by decide +kernel),fun z=>nomatch z⟩,⟨fun z=>absurd z (by decide +kernel),fun ⟨_,z⟩=>nomatch z⟩⟩
 | lt sl T =>
  obtain ⟨r,te,e,e1,e2⟩:=h
  exact ⟨r,_,"let",e,e1,rfl,⟨fun z=>absurd z (by decide +kernel),fun z=>nomatch z⟩,⟨fun z=>absurd z (by decide +kernel),fun z=>nomatch z⟩,⟨fun z=>absurd z (by decide +kernel),fun ⟨_,z⟩=>nomatch z⟩⟩
 | say T =>
  obtain ⟨r,te,e,e1,e2⟩:=h
  exact ⟨r,_,"say",e,e1,rfl,⟨fun z=>absurd z (by decide +kernel),fun z=>nomatch z⟩,⟨fun z=>absurd z (by decide +kernel),fun z=>nomatch z⟩,⟨fun z=>absurd z (by decide +kernel),fun ⟨_,z⟩=>nomatch z⟩⟩
 | off T =>
  obtain ⟨r,te,e,e1,e2⟩:=h
  exact ⟨r,_,"off",e,e1,rfl,⟨fun z=>absurd z (by decide +kernel),fun z=>nomatch z⟩,⟨fun z=>absurd z (by decide +kernel),fun z=>nomatch z⟩,⟨fun z=>absurd z (by decide +kernel),fun ⟨_,z⟩=>nomatch z⟩⟩
 | iff T =>
  obtain ⟨r,te,la,lb,e,e1,e2⟩:=h
  exact ⟨r,_,"if",e,e1,rfl,⟨fun z=>absurd z (by decide +kernel),fun z=>nomatch z⟩,⟨fun z=>absurd z (by decide +kernel),fun z=>nomatch z⟩,⟨fun _=>⟨T,rfl⟩,fun _=>rfl⟩⟩
 | els =>
  obtain ⟨r,e,e1⟩:=h
  exact ⟨r,_,"else",e,e1,rfl,⟨fun _=>rfl,fun _=>rfl⟩,⟨fun z=>absurd z (by decide +kernel),fun z=>nomatch z⟩,⟨fun z=>absurd z (by decide +kernel),fun ⟨_,z⟩=>nomatch z⟩⟩
 | nd =>
  obtain ⟨r,e,e1⟩:=h
  exact ⟨r,_,"end",e,e1,rfl,⟨fun z=>absurd z (by decide +kernel),fun z=>nomatch z⟩,⟨fun _=>rfl,fun _=>rfl⟩,⟨fun z=>absurd z (by decide +kernel),fun ⟨_,z⟩=>nomatch z⟩⟩
theorem VP {o1:V} {xl rd dx rl bl tl:Addr} {o3 o4:Option V} {blocks vs:List V} {turned:List Bool} {E:XK} (F:RdF K t) (R:RdAt t H rd dx rl bl tl blocks turned) (hl:H xl=some (.lst vs)) (q:blocks=[]→∀ H',Same H H'→Q (.ref rl) H') (q2:blocks≠[]→ndE t E H vs.length) :
  qo K t E { nx:=fun _ H'=>Q .non H',rt:=Q } [some o1,some (.ref xl),some (.ref rd),o3,o4] H:=by
 simp only [qo,yU,xJ,yN,L2.start,zn,zA,zq,tOp,ze,yi,zd,zj,zw,zo,tCB,xQ,yB,List.map,List.replicate,List.length,List.append,jqa,jqb,jqc,jqd,jqe,jqf,jqg,jqh,jqi,jqj,jqk,jql,jqm,jqn,and_true,true_and,and_assoc,jqo,jqp,jqq,Nat.reduceSub,Nat.reduceAdd,jqr,jqs,jqt,Int.reduceToNat,Int.reducePow,Int.reduceNeg,Int.reduceMul,Int.reduceAdd,if_true,ite_true,jqu,ite_false,if_false]
 refine ⟨_,_,_,R.ix,F.cl,F.n2,_,rfl,Nat.zero_le _,fun p hp=>?_⟩
 have s1:=isV (o:=HO.lst []) p hp
 refine ⟨bl,rfl,_,SqL.of (s1 _ _ R.hb),SqL.of zc,?_⟩
 by_cases e:blocks=[]
 ·rw [if_neg (by simp [e])]
  exact ⟨_,_,_,s1 _ _ R.ix,F.cl,F.n1,_,rfl,q e _ s1⟩
 ·rw [if_pos (by simp [e])]
  exact ⟨vs.length,.inl ⟨_,SqL.of (s1 _ _ hl),rfl⟩,vH (q2 e) s1⟩
theorem RdAt.same {H H':Hp} {x dx rl bl tl:Addr} {b:List V} {c:List Bool} (R:RdAt t H x dx rl bl tl b c) (s:Same H H'):RdAt t H' x dx rl bl tl b c:=⟨s _ _ R.ix,s _ _ R.hb,s _ _ R.ht,R.n1,R.n2,R.n3,R.le,R.l5⟩
theorem Qe {hd:Hd} (L:wZ hd):10 ∉ hd.line.cps.toList:=fun h=>by
 rcases X7 (c:=32) h with h | ⟨w,hw,h⟩
 ·cases h
 ·exact (L.bl w hw).2 h
theorem Qf {hd:Hd} (L:wZ hd) (hw:∃ w r,hd.words=w :: r∧w.cps.toList≠[]):hd.line≠"":=fun z=>by
 obtain ⟨w,r,e,n⟩:=hw
 have z:(Str.join ⟨#[32]⟩ hd.words).cps.toList=[]:=by
  show hd.line.cps.toList=[]
  rw [z];decide +kernel
 rw [e] at z
 cases r with
 | nil=>exact n z
 | cons y r =>
  rw [xU] at z
  exact absurd (List.append_eq_nil_iff.mp z).2 (by simp)
theorem Ka (hd:Hd):∃ w r,hd.words=w :: r∧w.cps.toList≠[]:=by
 cases hd <;> exact ⟨_,_,rfl,by decide +kernel⟩
def TS (H H':Hp):Prop:=∀ b ys,H b=some (.tup ys)→H' b=some (.tup ys)
theorem zaC {H H':Hp} {v:V} {hd:Hd} (p:hd.plain) (s:TS H H') (h:HdAt ki H v hd):HdAt ki H' v hd:=by
 cases hd with
 | take sh T' sl =>
  obtain ⟨r,te,e,e1,e2⟩:=h
  exact ⟨r,te,e,s _ _ e1,s _ _ e2⟩
 | give sh T' U =>
  obtain ⟨r,te,tf,e,e1,e2,e3⟩:=h
  exact ⟨r,te,tf,e,s _ _ e1,s _ _ e2,s _ _ e3⟩
 | lt sl T' =>
  obtain ⟨r,te,e,e1,e2⟩:=h
  exact ⟨r,te,e,s _ _ e1,s _ _ e2⟩
 | say T' =>
  obtain ⟨r,te,e,e1,e2⟩:=h
  exact ⟨r,te,e,s _ _ e1,s _ _ e2⟩
 | off T' =>
  obtain ⟨r,te,e,e1,e2⟩:=h
  exact ⟨r,te,e,s _ _ e1,s _ _ e2⟩
 | iff T'=>exact p.elim
 | els=>exact p.elim
 | nd=>exact p.elim
mutual
theorem TrAt.to {F G:Addr→Prop} {H H':Hp} (g:∀ b ys,F b→H b=some (.lst ys)→G b) (s:TS H H') (l:∀ b ys,F b→H b=some (.lst ys)→H' b=some (.lst ys)):∀ (x:Tr) {v:V},x.ok→TrAt F H v x→TrAt G H' v x
 | .row h,v,k,a=>by
  unfold Tr.ok at k
  unfold TrAt at a ⊢
  exact zaC k.2 s a
 | .iff T a b,v,k,h=>by
  unfold Tr.ok at k
  unfold TrAt at h ⊢
  obtain ⟨r,te,la,lb,xs,ys,e,f1,f2,e1,e2,e3,e4,e5,e6⟩:=h
  exact ⟨r,te,la,lb,xs,ys,e,g _ _ f1 e3,g _ _ f2 e5,s _ _ e1,s _ _ e2,l _ _ f1 e3,TrsAt.to g s l a k.2.1 e4,l _ _ f2 e5,TrsAt.to g s l b k.2.2 e6⟩
theorem TrsAt.to {F G:Addr→Prop} {H H':Hp} (g:∀ b ys,F b→H b=some (.lst ys)→G b) (s:TS H H') (l:∀ b ys,F b→H b=some (.lst ys)→H' b=some (.lst ys)):∀ (x:Trs) {vs:List V},x.ok→TrsAt F H vs x→TrsAt G H' vs x
 | .nil,vs,k,h=>by
  unfold TrsAt at h ⊢
  exact h
 | .cons x r,vs,k,h=>by
  unfold Trs.ok at k
  unfold TrsAt at h ⊢
  obtain ⟨v,ws,e,h1,h2⟩:=h
  exact ⟨v,ws,e,TrAt.to g s l x k.1 h1,TrsAt.to g s l r k.2 h2⟩
end
theorem TrsAt.same {F:Addr→Prop} {H H':Hp} (s:Same H H') {x:Trs} {vs:List V} (k:x.ok) (h:TrsAt F H vs x):TrsAt F H' vs x:=TrsAt.to (fun _ _ f _=>f) (fun _ _ e=>s _ _ e) (fun _ _ _ e=>s _ _ e) x k h
theorem TrsAt.any {F:Addr→Prop} {H:Hp} {x:Trs} {vs:List V} (k:x.ok) (h:TrsAt F H vs x):TrsAt ki H vs x:=TrsAt.to (fun _ _ _ _=>trivial) (fun _ _ e=>e) (fun _ _ _ e=>e) x k h
theorem TrsAt.snoc {F:Addr→Prop} {H:Hp} {v:V} {x:Tr} (hx:TrAt F H v x):∀ (r:Trs) {vs:List V},TrsAt F H vs r→TrsAt F H (vs ++ [v]) (r.snoc x)
 | .nil,vs,h=>by
  unfold TrsAt at h
  subst h
  show TrsAt F H [v] (.cons x .nil)
  unfold TrsAt
  exact ⟨v,[],rfl,hx,by unfold TrsAt;rfl⟩
 | .cons y r,vs,h=>by
  unfold TrsAt at h
  obtain ⟨u,ws,rfl,e2,e3⟩:=h
  show TrsAt F H (u :: (ws ++ [v])) (.cons y (r.snoc x))
  unfold TrsAt
  exact ⟨u,ws ++ [v],rfl,e2,TrsAt.snoc hx r e3⟩
theorem TrsAt.len {F:Addr→Prop} {H:Hp}:∀ (r:Trs) {vs:List V},TrsAt F H vs r→vs.length=r.len
 | .nil,vs,h=>by
  unfold TrsAt at h
  subst h
  rfl
 | .cons x r,vs,h=>by
  unfold TrsAt at h
  obtain ⟨u,ws,rfl,e2,e3⟩:=h
  rw [List.length_cons,TrsAt.len r e3];rfl
theorem ZU {x:Tr} (hx:x.ok):∀ (r:Trs),r.ok→(r.snoc x).ok
 | .nil,_=>by show (Trs.cons x .nil).ok;unfold Trs.ok;exact ⟨hx,by unfold Trs.ok;trivial⟩
 | .cons y r,h=>by
  unfold Trs.ok at h
  show (Trs.cons y (r.snoc x)).ok
  unfold Trs.ok
  exact ⟨h.1,ZU hx r h.2⟩
theorem qA (x:Tr):∀ (r:Trs),(r.snoc x).len=r.len + 1
 | .nil=>rfl
 | .cons y r=>by show (r.snoc x).len + 1=_;rw [qA x r];rfl
theorem ky (x:Tr):∀ (r:Trs),(r.snoc x).deep=max r.deep x.deep
 | .nil=>by show (Trs.cons x .nil).deep=_;simp [Trs.deep]
 | .cons y r=>by
  show (Trs.cons y (r.snoc x)).deep=_
  rw [Trs.deep,Trs.deep,ky x r];exact (Nat.max_assoc _ _ _).symm
def LvAt (F:Addr→Prop) (H:Hp) (L:Addr) (D:Trs) (tail:List V):Prop:=∃ xs,H L=some (.lst (xs ++ tail))∧TrsAt F H xs D
def ZAt (F:Addr→Prop) (H:Hp) (rl:Addr):List Fm→Addr→Trs→List V→List V→List Addr→Prop
 | [],inn,D,tail,bs,sp=>bs=[]∧inn=rl∧sp=[rl]∧LvAt F H rl D tail
 | f :: fs,inn,D,tail,bs,sp=>LvAt F H inn D tail∧∃ r te la lb up bs' sp',bs=.ref r :: bs'∧sp=la :: lb :: sp'∧H r=some (.tup [.str "if",.ref te,.ref la,.ref lb])∧H te=some (.tup (pst f.T)) ∧
  ((f.c=true∧inn=lb∧LvAt F H la f.a [])∨(f.c=false∧inn=la∧H lb=some (.lst [])))∧ZAt F H rl fs up f.up [.ref r] bs' sp'
def gdZ (n:Nat):Trs→List Fm→Prop
 | D,[]=>D.ok∧D.len≤n∧D.deep≤5
 | D,f :: fs=>(D.ok∧D.len≤n∧D.deep + (fs.length + 1)≤5)∧(f.a.ok∧f.a.len≤n∧f.a.deep + (fs.length + 1)≤5)∧wZ (.iff f.T)∧gdZ n f.up fs
theorem gdZ.mono {n m:Nat} (h:n≤m):∀ (fs:List Fm) {D:Trs},gdZ n D fs→gdZ m D fs
 | [],D,g=>⟨g.1,Nat.le_trans g.2.1 h,g.2.2⟩
 | f :: fs,D,g=>⟨⟨g.1.1,Nat.le_trans g.1.2.1 h,g.1.2.2⟩,⟨g.2.1.1,Nat.le_trans g.2.1.2.1 h,g.2.1.2.2⟩,g.2.2.1,gdZ.mono h fs g.2.2.2⟩
theorem gdZ.top {n:Nat}:∀ (fs:List Fm) {D:Trs},gdZ n D fs→D.ok∧D.len≤n∧D.deep + fs.length≤5
 | [],D,g=>g
 | f :: fs,D,g=>g.1
theorem gdZ.put {n:Nat} {D':Trs} (fs:List Fm) {D:Trs} (g:gdZ n D fs) (ok:D'.ok) (ln:D'.len≤n) (dp:D'.deep + fs.length≤5):gdZ n D' fs:=by
 cases fs with
 | nil=>exact ⟨ok,ln,dp⟩
 | cons f fs=>exact ⟨⟨ok,ln,dp⟩,g.2⟩
theorem ZV {n:Nat} {D D':Trs} {fs fs':List Fm} {h:Hd} (g:gdZ n D fs) (L:wZ h) (e:stp D fs h=some (D',fs')):gdZ (n + 1) D' fs':=by
 have g1:=gdZ.mono (Nat.le_succ n) fs g
 have tp:=gdZ.top fs g
 have plain:h.plain→stp D fs h=some (D.snoc (.row h),fs)→gdZ (n + 1) D' fs':=fun p e'=>by
  rw [e'] at e
  cases e
  exact gdZ.put fs g1 (ZU (by unfold Tr.ok;exact ⟨L,p⟩) D tp.1) (by rw [qA];lia) (by rw [ky,Tr.deep];lia)
 cases h with
 | take sh T sl=>exact plain trivial rfl
 | give sh T U=>exact plain trivial rfl
 | lt sl T=>exact plain trivial rfl
 | say T=>exact plain trivial rfl
 | off T=>exact plain trivial rfl
 | iff T =>
  have e:(if fs.length < 5 then some (Trs.nil,(⟨T,false,.nil,D⟩:Fm) :: fs) else none)=some (D',fs'):=e
  split at e
  ·cases e
   exact ⟨⟨by unfold Trs.ok;trivial,Nat.zero_le _,by rw [Trs.deep];lia⟩,⟨by unfold Trs.ok;trivial,Nat.zero_le _,by rw [Trs.deep];lia⟩,L,g1⟩
  ·cases e
 | els =>
  cases fs with
  | nil=>cases e
  | cons f fs =>
   have e:(if f.c=false then some (Trs.nil,(⟨f.T,true,D,f.up⟩:Fm) :: fs) else none)=some (D',fs'):=e
   split at e
   ·cases e
    exact ⟨⟨by unfold Trs.ok;trivial,Nat.zero_le _,by rw [Trs.deep];have:=tp.2.2;simp at this;lia⟩,g1.1,g1.2.2⟩
   ·cases e
 | nd =>
  cases fs with
  | nil=>cases e
  | cons f fs =>
   have e:some (f.up.snoc (.iff f.T (if f.c=true then f.a else D) (if f.c=true then D else .nil)),fs)=some (D',fs'):=e
   obtain ⟨rfl,rfl⟩:f.up.snoc (.iff f.T (if f.c=true then f.a else D) (if f.c=true then D else .nil))=D'∧fs=fs':=by
    have:=Option.some.inj e
    exact ⟨congrArg Prod.fst this,congrArg Prod.snd this⟩
   obtain ⟨⟨o1,l1,d1⟩,⟨o2,l2,d2⟩,L2,g2⟩:=g
   have tp2:=gdZ.top fs g2
   have okx:(Tr.iff f.T (if f.c=true then f.a else D) (if f.c=true then D else .nil)).ok:=by
    unfold Tr.ok
    refine ⟨L2,?_,?_⟩
    ·split
     ·exact o2
     ·exact o1
    ·split
     ·exact o1
     ·unfold Trs.ok;trivial
   have dpx:(Tr.iff f.T (if f.c=true then f.a else D) (if f.c=true then D else .nil)).deep + fs.length≤5:=by
    rw [Tr.deep]
    split
    ·lia
    ·rw [Trs.deep];lia
   exact gdZ.put fs (gdZ.mono (Nat.le_succ n) fs g2) (ZU okx _ tp2.1) (by rw [qA];lia) (by rw [ky];lia)
theorem LvAt.to {F G:Addr→Prop} {H H':Hp} {L:Addr} {D:Trs} {tail:List V} (k:D.ok) (g:∀ b ys,F b→H b=some (.lst ys)→G b) (s:TS H H') (l:∀ b ys,F b→H b=some (.lst ys)→H' b=some (.lst ys)) (p:∀ ys,H L=some (.lst ys)→H' L=some (.lst ys)) (h:LvAt F H L D tail):LvAt G H' L D tail:=by
 obtain ⟨xs,h1,h2⟩:=h
 exact ⟨xs,p _ h1,TrsAt.to g s l D k h2⟩
theorem ZAt.to {F G:Addr→Prop} {H H':Hp} {rl:Addr} (g:∀ b ys,F b→H b=some (.lst ys)→G b) (s:TS H H') (l:∀ b ys,F b→H b=some (.lst ys)→H' b=some (.lst ys)):∀ (fs:List Fm) {n:Nat} {inn:Addr} {D:Trs} {tail bs:List V} {sp:List Addr},gdZ n D fs→(∀ a∈sp,∀ ys,H a=some (.lst ys)→H' a=some (.lst ys))→ZAt F H rl fs inn D tail bs sp→ZAt G H' rl fs inn D tail bs sp
 | [],n,inn,D,tail,bs,sp,k,p,h=>by
  obtain ⟨e1,e2,e3,h⟩:=h
  subst e3
  exact ⟨e1,e2,rfl,h.to k.1 g s l (p rl (by simp))⟩
 | f :: fs,n,inn,D,tail,bs,sp,k,p,h=>by
  obtain ⟨h1,r,te,la,lb,up,bs',sp',e1,e2,e3,e4,e5,e6⟩:=h
  subst e2
  have pi:∀ ys,H inn=some (.lst ys)→H' inn=some (.lst ys):=by
   rcases e5 with ⟨_,e,_⟩ | ⟨_,e,_⟩ <;> rw [e]
   ·exact p lb (by simp)
   ·exact p la (by simp)
  refine ⟨h1.to k.1.1 g s l pi,r,te,la,lb,up,bs',sp',e1,rfl,s _ _ e3,s _ _ e4,?_,ZAt.to g s l fs k.2.2.2 (fun a ha=>p a (by simp [ha])) e6⟩
  rcases e5 with ⟨c1,c2,c3⟩ | ⟨c1,c2,c3⟩
  ·exact .inl ⟨c1,c2,c3.to k.2.1.1 g s l (p la (by simp))⟩
  ·exact .inr ⟨c1,c2,p lb (by simp) _ c3⟩
theorem ZAt.inn {F:Addr→Prop} {H:Hp} {rl:Addr}:∀ (fs:List Fm) {inn:Addr} {D:Trs} {tail bs:List V} {sp:List Addr},ZAt F H rl fs inn D tail bs sp→inn∈sp∧LvAt F H inn D tail∧bs.length=fs.length
 | [],inn,D,tail,bs,sp,h=>by
  obtain ⟨e1,e2,e3,h⟩:=h
  subst e1 e2 e3
  exact ⟨by simp,h,rfl⟩
 | f :: fs,inn,D,tail,bs,sp,h=>by
  obtain ⟨h1,r,te,la,lb,up,bs',sp',e1,e2,e3,e4,e5,e6⟩:=h
  have:=ZAt.inn fs e6
  refine ⟨?_,h1,by rw [e1,List.length_cons,this.2.2];rfl⟩
  rw [e2]
  rcases e5 with ⟨_,e,_⟩ | ⟨_,e,_⟩ <;> rw [e] <;> simp
theorem ZAt.tail {F G:Addr→Prop} {H H':Hp} {rl:Addr} (g:∀ b ys,F b→H b=some (.lst ys)→G b) (s:TS H H') (l:∀ b ys,F b→H b=some (.lst ys)→H' b=some (.lst ys)) {fs:List Fm} {n:Nat} {inn:Addr} {D:Trs} {bs:List V} {sp:List Addr} {xs:List V} {v:V} (k:gdZ n D fs) (nd:sp.Nodup) (p:∀ a∈sp,a≠inn→∀ ys,H a=some (.lst ys)→H' a=some (.lst ys)) (hx:H inn=some (.lst xs)) (hy:H' inn=some (.lst (xs ++ [v]))) (h:ZAt F H rl fs inn D [] bs sp):ZAt G H' rl fs inn D [v] bs sp:=by
 have lv:∀ {D:Trs},D.ok→LvAt F H inn D []→LvAt G H' inn D [v]:=fun kd h=>by
  obtain ⟨ys,h1,h2⟩:=h
  rw [List.append_nil] at h1
  rw [h1] at hx
  cases hx
  exact ⟨_,hy,TrsAt.to g s l _ kd h2⟩
 cases fs with
 | nil =>
  obtain ⟨e1,e2,e3,h⟩:=h
  subst e2
  exact ⟨e1,rfl,e3,lv k.1 h⟩
 | cons f fs =>
  obtain ⟨h1,r,te,la,lb,up,bs',sp',e1,e2,e3,e4,e5,e6⟩:=h
  subst e2
  rw [List.nodup_cons,List.nodup_cons] at nd
  obtain ⟨n1,n2,n3⟩:=nd
  have nab:la≠lb:=fun z=>n1 (by rw [z];simp)
  have ni:inn ∉ sp':=by
   rcases e5 with ⟨_,e,_⟩ | ⟨_,e,_⟩ <;> rw [e]
   ·exact n2
   ·exact fun z=>n1 (by simp [z])
  refine ⟨lv k.1.1 h1,r,te,la,lb,up,bs',sp',e1,rfl,s _ _ e3,s _ _ e4,?_,ZAt.to g s l fs k.2.2.2 (fun a ha=>p a (by simp [ha]) (fun z=>ni (z ▸ ha))) e6⟩
  rcases e5 with ⟨c1,c2,c3⟩ | ⟨c1,c2,c3⟩
  ·exact .inl ⟨c1,c2,c3.to k.2.1.1 g s l (p la (by simp) (by rw [c2];exact nab))⟩
  ·exact .inr ⟨c1,c2,p lb (by simp) (by rw [c2];exact Ne.symm nab) _ c3⟩
theorem ZAt.snoc {F:Addr→Prop} {H:Hp} {rl:Addr} {fs:List Fm} {inn:Addr} {D:Trs} {bs:List V} {sp:List Addr} {v:V} {x:Tr} (hx:TrAt F H v x) (h:ZAt F H rl fs inn D [v] bs sp):ZAt F H rl fs inn (D.snoc x) [] bs sp:=by
 have lv:∀ {L:Addr},LvAt F H L D [v]→LvAt F H L (D.snoc x) []:=fun h=>by
  obtain ⟨ys,h1,h2⟩:=h
  exact ⟨ys ++ [v],by rw [List.append_nil];exact h1,TrsAt.snoc hx D h2⟩
 cases fs with
 | nil =>
  obtain ⟨e1,e2,e3,h⟩:=h
  exact ⟨e1,e2,e3,lv h⟩
 | cons f fs =>
  obtain ⟨h1,h2⟩:=h
  exact ⟨lv h1,h2⟩
theorem kZ {x:Addr} {n:Int} {dx rl bl tl:Addr} {bks:List V} {trd:List Bool} {E:XK} (F:RdF K t) (R0:RdAt t H x dx rl bl tl bks trd) (hq:Q9 t H tl bks trd n Q E) :
  wd K t E { nx:=fun _ H'=>Q .non H',rt:=Q } (L2.start ["self","number"] [.ref x,.int n]) H:=by
 simp only [wd,yU,JS,yN,L2.start,kc,zn,zq,tOp,tUn,ze,tC,yi,zd,zj,zw,tOr,zo,tB,xP,rU,List.map,List.replicate,List.length,List.append,jqa,jqb,jqc,jqd,jqe,jqf,jqg,jqh,jqi,jqj,jqk,jql,jqm,jqn,and_true,true_and,and_assoc,jqo,jqp,jqq,Nat.reduceSub,Nat.reduceAdd,jqr,jqs,jqt,Int.reduceToNat,Int.reducePow,Int.reduceNeg,Int.reduceMul,Int.reduceAdd,if_true,ite_true,jqu,ite_false,if_false]
 refine ⟨_,_,_,R0.ix,F.cl,F.n2,_,rfl,Nat.zero_le _,fun p hp=>?_⟩
 have s1:=isV (o:=HO.lst []) p hp
 refine ⟨bl,rfl,_,SqL.of (s1 _ _ R0.hb),SqL.of zc,?_⟩
 rcases hq with ⟨blocks,b,turned,rfl,rfl,q⟩ | ⟨e | ⟨blocks,b,turned,rfl,rfl⟩,q⟩
 case inr.inl=>rw [if_pos e];exact vH q s1
 case inr.inr =>
  rw [if_neg (by simp)]
  have ht1:=s1 _ _ R0.ht
  rw [List.map_append] at ht1
  refine ⟨_,_,_,s1 _ _ R0.ix,F.cl,F.n3,_,rfl,tl,rfl,_,SqL.of ht1,_,qz,_,rfl,?_⟩
  rw [if_pos rfl]
  exact vH q s1
 have R:=R0
 rw [if_neg (by simp)]
 have ht1:=s1 _ _ R.ht
 rw [List.map_append] at ht1
 refine ⟨_,_,_,s1 _ _ R.ix,F.cl,F.n3,_,rfl,tl,rfl,_,SqL.of ht1,_,qz,_,rfl,?_⟩
 rw [if_neg (by decide)]
 refine ⟨_,_,_,s1 _ _ R.ix,F.cl,F.n3,_,rfl,tl,rfl,_,ht1,turned.length,?_,by decide,by decide,?_⟩
 ·unfold ixN
  rw [if_neg (by decide),if_pos (by simp;lia)]
  simp
  lia
 ·have e:(turned.map V.bl ++ [false].map V.bl).set turned.length (V.bl true)=(turned ++ [true]).map V.bl:=by
   rw [List.map_append,List.set_append,if_neg (by simp)]
   simp
  rw [e]
  exact q _ s1
theorem k6 {x:Addr} {v:V} {n:Int} {dx rl bl tl:Addr} {blocks:List V} {turned:List Bool} {hd:Hd} {F:Addr→Prop} {E:XK} (R:RdAt t H x dx rl bl tl blocks turned) (h2:HdAt F H v hd)
  (h3:zaz t H rl bl tl blocks turned v n hd Q E) :
  wg K t E { nx:=fun _ H'=>Q .non H',rt:=Q } (L2.start ["self","row","number"] [.ref x,v,.int n]) H:=by
 obtain ⟨r,xs,w,rfl,hr,ha,i1,i2,i3⟩:=Qd h2
 simp only [wg,ye,xK,wb,x9,yj,L2.start,zr,yu,zV,zU,tOp,ze,tC,zd,zj,zw,zo,tBM,tyV,zV,rEq,y0,List.map,List.replicate,List.length,List.append,jqa,jqb,jqc,jqd,jqe,jqf,jqg,jqh,jqi,jqj,jqk,jql,jqm,jqn,and_true,true_and,and_assoc,jqo,jqp,jqq,Nat.reduceSub,Nat.reduceAdd,jqr,jqs,jqt,Int.reduceToNat,Int.reducePow,Int.reduceNeg,Int.reduceMul,Int.reduceAdd,if_true,ite_true,jqu,ite_false,if_false]
 refine ⟨_,SqT.of hr,_,ha,rfl,?_⟩
 rcases h3 with ⟨rfl,q⟩ | ⟨rfl,q⟩ | ⟨hI,inn,zs,hi,hz,lz,n1,n2,q⟩ | ⟨hP,inn,zs,hi,hz,lz,q⟩
 ·rw [if_pos (congrArg V.str (i1.mpr rfl))]
  exact ⟨_,_,R.ix,rfl,dx,rl,bl,tl,blocks,turned,R,q⟩
 ·rw [if_neg (fun z=>nomatch i1.mp (V.str.inj z))]
  refine ⟨_,SqT.of hr,_,ha,rfl,?_⟩
  rw [if_pos (congrArg V.str (i2.mpr rfl))]
  exact ⟨_,_,R.ix,rfl,dx,rl,bl,tl,blocks,turned,R,q⟩
 ·rw [if_neg (fun z=>by obtain ⟨T,e⟩:=hI;have:=i1.mp (V.str.inj z);rw [e] at this;cases this)]
  refine ⟨_,SqT.of hr,_,ha,rfl,?_⟩
  rw [if_neg (fun z=>by obtain ⟨T,e⟩:=hI;have:=i2.mp (V.str.inj z);rw [e] at this;cases this)]
  refine ⟨_,SqT.of hr,_,ha,rfl,?_⟩
  rw [if_pos (congrArg V.str (i3.mpr hI))]
  exact ⟨_,_,R.ix,rfl,dx,rl,bl,tl,blocks,turned,R,inn,hi,zs,hz,lz,n1,n2,q⟩
 ·rw [if_neg (fun z=>by have:=i1.mp (V.str.inj z);rw [this] at hP;exact hP)]
  refine ⟨_,SqT.of hr,_,ha,rfl,?_⟩
  rw [if_neg (fun z=>by have:=i2.mp (V.str.inj z);rw [this] at hP;exact hP)]
  refine ⟨_,SqT.of hr,_,ha,rfl,?_⟩
  rw [if_neg (fun z=>by obtain ⟨T,e⟩:=i3.mp (V.str.inj z);rw [e] at hP;exact hP)]
  exact ⟨_,_,R.ix,rfl,dx,rl,bl,tl,blocks,turned,R,inn,hi,fun H1 s1=>⟨.inl ⟨_,SqL.of (s1 _ _ hz)⟩,zs,s1 _ _ hz,Nat.lt_of_le_of_lt (by lia:zs.length≤1000) (by decide),q H1 s1⟩⟩
theorem wF {H:Hp} {u:Addr} {xs ys:List V} (h:H u=some (.lst xs)):TS H (upd H u (.lst ys)):=fun b zs e=>by
 rw [zk (wN e h (fun z=>nomatch z))];exact e
theorem TS.trans {H H1 H2:Hp} (a:TS H H1) (b:TS H1 H2):TS H H2:=fun x ys e=>b _ _ (a _ _ e)
def Fz (sp:List Addr) (bl tl:Addr) (b:Addr):Prop:=b ∉ sp∧b≠bl∧b≠tl
structure RZ (t:Adr) (H0 H:Hp) (rd dx rl bl tl:Addr) (i:Nat) (D:Trs) (fs:List Fm) (inn:Addr) (bs:List V) (sp:List Addr):Prop where
 sm:Same H0 H
 gd:gdZ i D fs
 ra:RdAt t H rd dx rl bl tl bs.reverse (fs.map Fm.c).reverse
 za:ZAt (Fz sp bl tl) H rl fs inn D [] bs sp
 nd:sp.Nodup
 sp:∀ a∈sp,H0 a=none∧a≠bl∧a≠tl
 f2:H0 bl=none
 f3:H0 tl=none
theorem RZ.same {H0 H H':Hp} {rd dx rl bl tl:Addr} {i:Nat} {D:Trs} {fs:List Fm} {inn:Addr} {bs:List V} {sp:List Addr} (Z:RZ t H0 H rd dx rl bl tl i D fs inn bs sp) (s:Same H H'):RZ t H0 H' rd dx rl bl tl i D fs inn bs sp :=
 ⟨Z.sm.trans s,Z.gd,Z.ra.same s,ZAt.to (fun _ _ f _=>f) (fun _ _ e=>s _ _ e) (fun _ _ _ e=>s _ _ e) fs Z.gd (fun _ _ _ e=>s _ _ e) Z.za,Z.nd,Z.sp,Z.f2,Z.f3⟩
theorem RZ.inn {H0 H:Hp} {rd dx rl bl tl:Addr} {i:Nat} {D:Trs} {fs:List Fm} {inn:Addr} {bs:List V} {sp:List Addr} (Z:RZ t H0 H rd dx rl bl tl i D fs inn bs sp):Inn H rl bs.reverse (fs.map Fm.c).reverse inn∧inn∈sp∧∃ zs,H inn=some (.lst zs)∧zs.length≤i:=by
 obtain ⟨h1,⟨xs,h2,h3⟩,h4⟩:=ZAt.inn fs Z.za
 rw [List.append_nil] at h2
 refine ⟨?_,h1,xs,h2,by rw [TrsAt.len D h3];exact (gdZ.top fs Z.gd).2.1⟩
 have za:=Z.za
 cases fs with
 | nil=>exact .inl ⟨by rw [za.1];rfl,za.2.1⟩
 | cons f fs =>
  obtain ⟨_,r,te,la,lb,up,bs',sp',e1,e2,e3,e4,e5,e6⟩:=za
  refine .inr ⟨bs'.reverse,r,_,_,la,lb,(fs.map Fm.c).reverse,f.c,by rw [e1,List.reverse_cons],by rw [List.map_cons,List.reverse_cons],e3,?_⟩
  rcases e5 with ⟨c1,c2,_⟩ | ⟨c1,c2,_⟩
  ·rw [c2,if_pos c1]
  ·rw [c2,if_neg (by rw [c1];decide)]
theorem zZ {H:Hp} {u b:Addr} {o:HO} {ys:List V} (n:b≠u) (e:H b=some (.lst ys)):upd H u o b=some (.lst ys):=by rw [zk n];exact e
theorem RZ.plain {H0 H:Hp} {rd dx rl bl tl:Addr} {i:Nat} {D D':Trs} {fs fs':List Fm} {inn:Addr} {bs:List V} {sp:List Addr} {zs:List V} {v:V} {h:Hd} (Z:RZ t H0 H rd dx rl bl tl i D fs inn bs sp) (hz:H inn=some (.lst zs)) (p:h.plain) (L:wZ h) (hv:HdAt ki H v h) (e:stp D fs h=some (D',fs')):RZ t H0 (upd H inn (.lst (zs ++ [v]))) rd dx rl bl tl (i + 1) D' fs' inn bs sp:=by
 have mi:=Z.inn.2.1
 have si:=Z.sp inn mi
 have e':D'=D.snoc (.row h)∧fs'=fs:=by
  cases h <;> first | exact p.elim | (cases e;exact ⟨rfl,rfl⟩)
 have g:=ZV Z.gd L e
 obtain ⟨rfl,rfl⟩:=e'
 have T:=wF (ys:=zs ++ [v]) hz
 refine ⟨yg Z.sm si.1,g,⟨?_,?_,?_,Z.ra.n1,Z.ra.n2,Z.ra.n3,Z.ra.le,Z.ra.l5⟩,?_,Z.nd,Z.sp,Z.f2,Z.f3⟩
 ·rw [zk (wN Z.ra.ix hz (fun z=>nomatch z))];exact Z.ra.ix
 ·exact zZ (Ne.symm si.2.1) Z.ra.hb
 ·exact zZ (Ne.symm si.2.2) Z.ra.ht
 ·refine ZAt.snoc (x:=.row h) (by unfold TrAt;exact zaC p T hv) ?_
  exact ZAt.tail (fun _ _ f _=>f) T (fun b ys f e=>zZ (fun z=>f.1 (z ▸ mi)) e) Z.gd Z.nd (fun a _ n ys e=>zZ n e) hz zc Z.za
theorem ZAt.alive {F:Addr→Prop} {H:Hp} {rl:Addr}:∀ (fs:List Fm) {inn:Addr} {D:Trs} {tail bs:List V} {sp:List Addr},ZAt F H rl fs inn D tail bs sp→∀ a∈sp,∃ o,H a=some o
 | [],inn,D,tail,bs,sp,h=>by
  obtain ⟨e1,e2,e3,xs,h1,h2⟩:=h
  subst e3
  exact fun a ha=>by rw [List.mem_singleton.mp ha];exact ⟨_,h1⟩
 | f :: fs,inn,D,tail,bs,sp,h=>by
  obtain ⟨⟨xs,h1,h2⟩,r,te,la,lb,up,bs',sp',e1,e2,e3,e4,e5,e6⟩:=h
  subst e2
  intro a ha
  simp only [List.mem_cons] at ha
  rcases ha with rfl | rfl | ha
  ·rcases e5 with ⟨_,_,⟨ys,h3,_⟩⟩ | ⟨_,e,_⟩
   ·exact ⟨_,h3⟩
   ·rw [← e];exact ⟨_,h1⟩
  ·rcases e5 with ⟨_,e,_⟩ | ⟨_,_,h3⟩
   ·rw [← e];exact ⟨_,h1⟩
   ·exact ⟨_,h3⟩
  ·exact ZAt.alive fs e6 a ha
theorem RZ.alive {H0 H:Hp} {rd dx rl bl tl:Addr} {i:Nat} {D:Trs} {fs:List Fm} {inn:Addr} {bs:List V} {sp:List Addr} (Z:RZ t H0 H rd dx rl bl tl i D fs inn bs sp) {a:Addr} (ha:a∈sp):∃ o,H a=some o:=ZAt.alive fs Z.za a ha
theorem RZ.iff {H0 Hf H:Hp} {rd dx rl bl tl:Addr} {i:Nat} {D D':Trs} {fs fs':List Fm} {inn:Addr} {bs:List V} {sp:List Addr} {zs:List V} {v:V} {T:Tw} (Zf:RZ t H0 Hf rd dx rl bl tl i D fs inn bs sp) (s:Same Hf H) (hz:H inn=some (.lst zs)) (L:wZ (.iff T)) (hv:HdAt (fun b=>Hf b=none) H v (.iff T)) (e:stp D fs (.iff T)=some (D',fs')):∃ inn' bs' sp',RZ t H0 (upd (upd (upd H inn (.lst (zs ++ [v]))) bl (.lst (bs.reverse ++ [v]))) tl (.lst (((fs.map Fm.c).reverse ++ [false]).map V.bl))) rd dx rl bl tl (i + 1) D' fs' inn' bs' sp':=by
 have Z:=Zf.same s
 have mi:=Z.inn.2.1
 have si:=Z.sp inn mi
 have g:=ZV Z.gd L e
 obtain ⟨r,te,la,lb,rfl,hr,hte,hla,hlb,fa,fb,nab⟩:=hv
 have e:(if fs.length < 5 then some (Trs.nil,(⟨T,false,.nil,D⟩:Fm) :: fs) else none)=some (D',fs'):=e
 split at e
 ·rename_i l5
  cases e
  have hb1:upd H inn (.lst (zs ++ [V.ref r])) bl=some (.lst bs.reverse):=zZ (Ne.symm si.2.1) Z.ra.hb
  have ht1:upd (upd H inn (.lst (zs ++ [V.ref r]))) bl (.lst (bs.reverse ++ [V.ref r])) tl=some (.lst ((fs.map Fm.c).reverse.map V.bl)):=zZ (Ne.symm Z.ra.n3) (zZ (Ne.symm si.2.2) Z.ra.ht)
  have T1:=wF (ys:=zs ++ [V.ref r]) hz
  have T2:=wF (ys:=bs.reverse ++ [V.ref r]) hb1
  have T3:=wF (ys:=((fs.map Fm.c).reverse ++ [false]).map V.bl) ht1
  have TT:=T1.trans (T2.trans T3)
  have al:∀ {a:Addr},a∈sp→∃ o,Hf a=some o:=fun {a} ha=>Zf.alive ha
  have na:la ∉ sp:=fun z=>by obtain ⟨o,h⟩:=al z;rw [fa] at h;cases h
  have nb:lb ∉ sp:=fun z=>by obtain ⟨o,h⟩:=al z;rw [fb] at h;cases h
  have nA:la≠bl∧la≠tl:=⟨jI Zf.ra.hb fa,jI Zf.ra.ht fa⟩
  have nB:lb≠bl∧lb≠tl:=⟨jI Zf.ra.hb fb,jI Zf.ra.ht fb⟩
  have ia:la≠inn:=fun z=>na (z ▸ mi)
  have ib:lb≠inn:=fun z=>nb (z ▸ mi)
  have ix:upd (upd (upd H inn (.lst (zs ++ [V.ref r]))) bl (.lst (bs.reverse ++ [V.ref r]))) tl (.lst (((fs.map Fm.c).reverse ++ [false]).map V.bl)) rd=H rd:=by
   rw [zk (wN Z.ra.ix Z.ra.ht (fun z=>nomatch z)),zk (wN Z.ra.ix Z.ra.hb (fun z=>nomatch z)),zk (wN Z.ra.ix hz (fun z=>nomatch z))]
  have le:=(ZAt.inn fs Z.za).2.2
  refine ⟨la,.ref r :: bs,la :: lb :: sp,yg (yg (yg Z.sm si.1) Z.f2) Z.f3,g,⟨?_,?_,?_,Z.ra.n1,Z.ra.n2,Z.ra.n3,?_,?_⟩,?_,?_,?_,Z.f2,Z.f3⟩
  ·rw [ix];exact Z.ra.ix
  ·rw [zk Z.ra.n3,zc,List.reverse_cons]
  ·rw [zc,List.map_cons,List.reverse_cons]
  ·simp [le]
  ·simp;lia
  ·refine ⟨⟨[],?_,by unfold TrsAt;rfl⟩,r,te,la,lb,inn,bs,sp,rfl,rfl,TT _ _ hr,TT _ _ hte,.inr ⟨rfl,rfl,?_⟩,?_⟩
   ·exact zZ nA.2 (zZ nA.1 (zZ ia hla))
   ·exact zZ nB.2 (zZ nB.1 (zZ ib hlb))
   ·have Z0:=ZAt.to (F:=Fz sp bl tl) (G:=Fz (la :: lb :: sp) bl tl) (H:=Hf) (H':=H) (rl:=rl) (fun b ys f e=>⟨by
      simp only [List.mem_cons,not_or]
      exact ⟨zx e fa,zx e fb,f.1⟩,f.2⟩) (fun _ _ e=>s _ _ e) (fun _ _ _ e=>s _ _ e) fs Zf.gd (fun _ _ _ e=>s _ _ e) Zf.za
    refine ZAt.tail (fun _ _ f _=>f) TT (fun b ys f e=>?_) Z.gd Z.nd (fun a ha n ys e=>?_) hz ?_ Z0
    ·have:b≠inn:=fun z=>f.1 (by simp [z,mi])
     exact zZ f.2.2 (zZ f.2.1 (zZ this e))
    ·exact zZ (Z.sp a ha).2.2 (zZ (Z.sp a ha).2.1 (zZ n e))
    ·exact zZ si.2.2 (zZ si.2.1 zc)
  ·rw [List.nodup_cons,List.nodup_cons]
   exact ⟨by simp [nab,na],nb,Z.nd⟩
  ·intro a ha
   simp only [List.mem_cons] at ha
   rcases ha with rfl | rfl | ha
   ·exact ⟨xb Zf.sm fa,nA⟩
   ·exact ⟨xb Zf.sm fb,nB⟩
   ·exact Z.sp a ha
 ·cases e
theorem RZ.els {H0 H:Hp} {rd dx rl bl tl:Addr} {i:Nat} {D D':Trs} {fs fs':List Fm} {inn:Addr} {bs:List V} {sp:List Addr} (Z:RZ t H0 H rd dx rl bl tl i D fs inn bs sp) (L:wZ .els) (e:stp D fs .els=some (D',fs')):∃ bs1 b cs,bs.reverse=bs1 ++ [b]∧(fs.map Fm.c).reverse=cs ++ [false]∧∃ inn',RZ t H0 (upd H tl (.lst ((cs ++ [true]).map V.bl))) rd dx rl bl tl (i + 1) D' fs' inn' bs sp:=by
 have g:=ZV Z.gd L e
 cases fs with
 | nil=>cases e
 | cons f fs =>
  have e:(if f.c=false then some (Trs.nil,(⟨f.T,true,D,f.up⟩:Fm) :: fs) else none)=some (D',fs'):=e
  split at e
  ·rename_i fc
   cases e
   have za:=Z.za
   obtain ⟨h1,r,te,la,lb,up,bs',sp',e1,e2,e3,e4,e5,e6⟩:=za
   have T:=wF (ys:=((fs.map Fm.c).reverse ++ [true]).map V.bl) Z.ra.ht
   have pr:∀ a∈sp,∀ ys,H a=some (.lst ys)→upd H tl (.lst (((fs.map Fm.c).reverse ++ [true]).map V.bl)) a=some (.lst ys):=fun a ha ys h=>zZ (Z.sp a ha).2.2 h
   have l:∀ b ys,Fz sp bl tl b→H b=some (.lst ys)→upd H tl (.lst (((fs.map Fm.c).reverse ++ [true]).map V.bl)) b=some (.lst ys):=fun b ys f h=>zZ f.2.2 h
   refine ⟨bs'.reverse,.ref r,(fs.map Fm.c).reverse,by rw [e1,List.reverse_cons],by rw [List.map_cons,List.reverse_cons,fc],lb,yg Z.sm Z.f3,g,⟨?_,?_,?_,Z.ra.n1,Z.ra.n2,Z.ra.n3,?_,Z.ra.l5⟩,?_,Z.nd,Z.sp,Z.f2,Z.f3⟩
   ·rw [zk (wN Z.ra.ix Z.ra.ht (fun z=>nomatch z))];exact Z.ra.ix
   ·exact zZ Z.ra.n3 Z.ra.hb
   ·rw [zc,List.map_cons,List.reverse_cons]
   ·have:=Z.ra.le;simpa using this
   ·rcases e5 with ⟨c1,_⟩ | ⟨c1,c2,c3⟩
    ·rw [fc] at c1;cases c1
    ·subst e2
     subst c2
     refine ⟨⟨[],?_,by unfold TrsAt;rfl⟩,r,te,inn,lb,up,bs',sp',e1,rfl,T _ _ e3,T _ _ e4,.inl ⟨rfl,rfl,?_⟩,?_⟩
     ·exact pr lb (by simp) _ c3
     ·exact h1.to Z.gd.1.1 (fun _ _ f _=>f) T l (pr inn (by simp))
     ·exact ZAt.to (fun _ _ f _=>f) T l fs Z.gd.2.2.2 (fun a ha=>pr a (by simp [ha])) e6
  ·cases e
theorem RZ.nd_ {H0 H:Hp} {rd dx rl bl tl:Addr} {i:Nat} {D D':Trs} {fs fs':List Fm} {inn:Addr} {bs:List V} {sp:List Addr} (Z:RZ t H0 H rd dx rl bl tl i D fs inn bs sp) (L:wZ .nd) (e:stp D fs .nd=some (D',fs')):∃ bs1 b cs c,bs.reverse=bs1 ++ [b]∧(fs.map Fm.c).reverse=cs ++ [c]∧∃ inn' bs' sp',RZ t H0 (upd (upd H bl (.lst bs1)) tl (.lst (cs.map V.bl))) rd dx rl bl tl (i + 1) D' fs' inn' bs' sp':=by
 have g:=ZV Z.gd L e
 cases fs with
 | nil=>cases e
 | cons f fs =>
  have e:some (f.up.snoc (.iff f.T (if f.c=true then f.a else D) (if f.c=true then D else .nil)),fs)=some (D',fs'):=e
  obtain ⟨rfl,rfl⟩:f.up.snoc (.iff f.T (if f.c=true then f.a else D) (if f.c=true then D else .nil))=D'∧fs=fs':=by
   have:=Option.some.inj e
   exact ⟨congrArg Prod.fst this,congrArg Prod.snd this⟩
  have za:=Z.za
  obtain ⟨h1,r,te,la,lb,up,bs',sp',e1,e2,e3,e4,e5,e6⟩:=za
  have ht1:upd H bl (.lst bs'.reverse) tl=some (.lst (((f :: fs).map Fm.c).reverse.map V.bl)):=zZ (Ne.symm Z.ra.n3) Z.ra.ht
  have T:=(wF (ys:=bs'.reverse) Z.ra.hb).trans (wF (ys:=(fs.map Fm.c).reverse.map V.bl) ht1)
  have pr:∀ a∈sp,∀ ys,H a=some (.lst ys)→upd (upd H bl (.lst bs'.reverse)) tl (.lst ((fs.map Fm.c).reverse.map V.bl)) a=some (.lst ys):=fun a ha ys h=>zZ (Z.sp a ha).2.2 (zZ (Z.sp a ha).2.1 h)
  have l:∀ b ys,Fz sp bl tl b→H b=some (.lst ys)→upd (upd H bl (.lst bs'.reverse)) tl (.lst ((fs.map Fm.c).reverse.map V.bl)) b=some (.lst ys):=fun b ys f h=>zZ f.2.2 (zZ f.2.1 h)
  have nd:=Z.nd
  have sp0:=Z.sp
  subst e2
  rw [List.nodup_cons,List.nodup_cons] at nd
  obtain ⟨n1,n2,n3⟩:=nd
  have gF:∀ b ys,Fz (la :: lb :: sp') bl tl b→H b=some (.lst ys)→Fz sp' bl tl b:=fun b _ f _=>⟨fun z=>f.1 (by simp [z]),f.2⟩
  have fa:Fz sp' bl tl la:=⟨fun z=>n1 (by simp [z]),(sp0 la (by simp)).2⟩
  have fb:Fz sp' bl tl lb:=⟨n2,(sp0 lb (by simp)).2⟩
  have le:=(ZAt.inn fs e6).2.2
  have l5:=Z.ra.l5
  refine ⟨bs'.reverse,.ref r,(fs.map Fm.c).reverse,f.c,by rw [e1,List.reverse_cons],by rw [List.map_cons,List.reverse_cons],up,bs',sp',yg (yg Z.sm Z.f2) Z.f3,g,⟨?_,?_,?_,Z.ra.n1,Z.ra.n2,Z.ra.n3,?_,?_⟩,?_,n3,fun a ha=>sp0 a (by simp [ha]),Z.f2,Z.f3⟩
  ·rw [zk (wN Z.ra.ix Z.ra.ht (fun z=>nomatch z)),zk (wN Z.ra.ix Z.ra.hb (fun z=>nomatch z))];exact Z.ra.ix
  ·exact zZ Z.ra.n3 zc
  ·exact zc
  ·simp [le]
  ·rw [e1] at l5;simp at l5 ⊢;lia
  ·refine ZAt.snoc ?_ (ZAt.to gF T l fs Z.gd.2.2.2 (fun a ha=>pr a (by simp [ha])) e6)
   unfold TrAt
   rcases e5 with ⟨c1,c2,ys,c3,c4⟩ | ⟨c1,c2,c3⟩
   ·subst c2
    obtain ⟨xs,h2,h3⟩:=h1
    rw [List.append_nil] at h2 c3
    rw [if_pos c1,if_pos c1]
    exact ⟨r,te,la,inn,ys,xs,rfl,fa,fb,T _ _ e3,T _ _ e4,pr la (by simp) _ c3,TrsAt.to gF T l _ Z.gd.2.1.1 c4,pr inn (by simp) _ h2,TrsAt.to gF T l _ Z.gd.1.1 h3⟩
   ·subst c2
    obtain ⟨xs,h2,h3⟩:=h1
    rw [List.append_nil] at h2
    rw [if_neg (by rw [c1];decide),if_neg (by rw [c1];decide)]
    exact ⟨r,te,inn,lb,xs,[],rfl,fa,fb,T _ _ e3,T _ _ e4,pr inn (by simp) _ h2,TrsAt.to gF T l _ Z.gd.1.1 h3,pr lb (by simp) _ c3,by unfold TrsAt;rfl⟩
def rdI (t:Adr) (o1:V) (xl rd dx rl bl tl:Addr) (ts:List Hd) (H0:Hp) (i:Nat) (σ:St) (H':Hp):Prop:=(∃ o3 o4,σ=[some o1,some (.ref xl),some (.ref rd),o3,o4])∧∃ D fs inn bs sp,rdE .nil [] 0 ts=rdE D fs i (ts.drop i)∧RZ t H0 H' rd dx rl bl tl i D fs inn bs sp
theorem VQ {o1:V} {xl rd dx rl bl tl:Addr} {ts:List Hd} {H0:Hp} {E:XK} (F:RdF K t) (hl:H0 xl=some (.lst ((ts.map Hd.line).map V.str))) (s0:Same H0 H) (R:RdAt t H rd dx rl bl tl [] []) (hr:H rl=some (.lst [])) (f1:H0 rl=none) (f2:H0 bl=none) (f3:H0 tl=none) (lt:ts.length≤150) (L:∀ h∈ts,wZ h) (q:∀ D,rdE .nil [] 0 ts=.ok D→∀ H' xs,Same H0 H'→H' rl=some (.lst xs)→TrsAt ki H' xs D→Q (.ref rl) H') (q2:∀ k,rdE .nil [] 0 ts=.error k→ndE t E H0 k) :
  qp K t E { nx:=fun _ H'=>Q .non H',rt:=Q } [some o1,some (.ref xl),some (.ref rd),none,none] H:=by
 simp only [qp,ql,wc,yU,yj,xJ,VD,yN,L2.start,zn,zm,qR,wR,qQ,zA,zU,zq,tOp,ze,yi,zd,zj,ww,zw,zo,tCB,zI,xQ,yB,List.map,List.replicate,List.length,List.append,jqa,jqb,jqc,jqd,jqe,jqf,jqg,jqh,jqi,jqj,jqk,jql,jqm,jqn,and_true,true_and,and_assoc,jqo,jqp,jqq,Nat.reduceSub,Nat.reduceAdd,jqr,jqs,jqt,Int.reduceToNat,Int.reducePow,Int.reduceNeg,Int.reduceMul,Int.reduceAdd,if_true,ite_true,jqu,ite_false,if_false]
 refine ⟨_,SqL.of (s0 _ _ hl),WG ((ts.map Hd.line).map V.str) (rdI t o1 xl rd dx rl bl tl ts H0) ⟨⟨_,_,rfl⟩,.nil,[],rl,[],[rl],rfl,s0,⟨by unfold Trs.ok;trivial,Nat.zero_le _,by rw [Trs.deep];lia⟩,R,⟨rfl,rfl,rfl,[],hr,by unfold TrsAt;rfl⟩,by simp,fun a ha=>by rw [List.mem_singleton.mp ha];exact ⟨f1,R.n1,R.n2⟩,f2,f3⟩ (fun i σ H' ⟨_,_,_,_,_,_,_,Z⟩=>SqL.of (Z.sm _ _ hl)) ?_ ?_⟩
 ·rintro i u A σ H' hu hA ⟨⟨o3,o4,rfl⟩,D1,fs,inn,bs,sp,r1,Z⟩
  rw [List.map_map,List.getElem?_map] at hu
  cases ht:ts[i]? with
  | none=>rw [ht] at hu;cases hu
  | some h =>
   rw [ht] at hu
   have hu:V.str h.line=u:=Option.some.inj hu
   subst hu
   have hi:=(List.getElem?_eq_some_iff.mp ht).1
   have Lh:=L h (List.mem_of_getElem? ht)
   have dr:ts.drop i=h :: ts.drop (i + 1):=by
    have:=List.drop_eq_getElem_cons hi
    rw [(List.getElem?_eq_some_iff.mp ht).2] at this
    exact this
   rw [dr] at r1
   have r1:rdE .nil [] 0 ts=if 40≤i then .error i else match stp D1 fs h with | some z=>rdE z.1 z.2 (i + 1) (ts.drop (i + 1)) | none=>.error i:=r1
   have s1:=isV (o:=HO.tup [V.int (i:Int),V.str h.line]) A hA
   have Z1:=Z.same s1
   simp only [yU,yj,xJ,VD,yN,L2.start,zn,zm,qR,wR,qQ,zA,zU,zq,tOp,ze,yi,zd,zj,ww,zw,zo,tCB,zI,xQ,yB,List.map,List.replicate,List.length,List.append,jqa,jqb,jqc,jqd,jqe,jqf,jqg,jqh,jqi,jqj,jqk,jql,jqm,jqn,and_true,true_and,and_assoc,jqo,jqp,jqq,Nat.reduceSub,Nat.reduceAdd,jqr,jqs,jqt,Int.reduceToNat,Int.reducePow,Int.reduceNeg,Int.reduceMul,Int.reduceAdd,if_true,ite_true,jqu,ite_false,if_false]
   refine ⟨_,SqT.of zc,rfl,_,_,rfl,_,_,rfl,rfl,_,_,s1 _ _ Z.ra.ix,rfl,_,rfl,i,rfl,h,rfl,Lh,fun h40 H2 v s2 hv=>?_,fun h40=>?_⟩
   case refine_2=>rw [if_pos h40] at r1;exact (q2 i r1).mono Z1.sm
   rw [if_neg (by lia)] at r1
   have Z2:=Z1.same s2
   refine ⟨(i:Int),rfl,dx,rl,bl,tl,bs.reverse,(fs.map Fm.c).reverse,Z2.ra,h,_,hv,?_⟩
   obtain ⟨hin,him,zs,hz,lz⟩:=Z2.inn
   have le:=(ZAt.inn fs Z2.za).2.2
   have er:stp D1 fs h=none→ndE t E H2 i:=fun e=>by rw [e] at r1;exact (q2 i r1).mono Z2.sm
   cases h with
   | iff T =>
    have si:=Z2.sp inn him
    refine .inr (.inr (.inl ⟨⟨T,rfl⟩,inn,zs,hin,hz,by lia,si.2.1,si.2.2,fun l5 H3 s3=>?_,fun l5=>er ?_⟩))
    ·rw [List.length_reverse] at l5
     have st:stp D1 fs (.iff T)=some (Trs.nil,(⟨T,false,.nil,D1⟩:Fm) :: fs):=if_pos (by lia)
     rw [st] at r1
     obtain ⟨inn',bs',sp',Z3⟩:=Z1.iff (s2.trans s3) (s3 _ _ hz) Lh (hv.to (fun _ f=>f) s3) st
     exact ⟨⟨_,_,rfl⟩,_,_,inn',bs',sp',r1,Z3⟩
    ·rw [List.length_reverse] at l5
     exact if_neg (by lia)
   | els =>
    refine .inl ⟨rfl,?_⟩
    cases st:stp D1 fs .els with
    | some z =>
     obtain ⟨D',fs'⟩:=z
     rw [st] at r1
     obtain ⟨bs1,b,cs,e1,e2,_⟩:=Z2.els Lh st
     refine .inl ⟨bs1,b,cs,e1,e2,fun H3 s3=>?_⟩
     obtain ⟨bs1',b',cs',e1',e2',inn',Z3⟩:=(Z2.same s3).els Lh st
     have:cs'=cs:=List.append_inj_left' (e2'.symm.trans e2) rfl
     subst this
     exact ⟨⟨_,_,rfl⟩,D',fs',inn',bs,sp,r1,Z3⟩
    | none =>
     refine .inr ⟨?_,er st⟩
     cases fs with
     | nil=>exact .inl (by have e:=Z2.za.1;rw [e];rfl)
     | cons f fs =>
      have st:(if f.c=false then some (Trs.nil,(⟨f.T,true,D1,f.up⟩:Fm) :: fs) else none)=none:=st
      have fc:f.c=true:=by
       cases q:f.c with
       | true=>rfl
       | false=>rw [if_pos q] at st;cases st
      obtain ⟨b0,bs0,e0⟩:∃ b0 bs0,bs=b0 :: bs0:=by
       cases bs with
       | nil=>cases le
       | cons b0 bs0=>exact ⟨b0,bs0,rfl⟩
      exact .inr ⟨bs0.reverse,b0,(fs.map Fm.c).reverse,by rw [e0,List.reverse_cons],by rw [List.map_cons,List.reverse_cons,fc]⟩
   | nd =>
    refine .inr (.inl ⟨rfl,?_⟩)
    cases st:stp D1 fs .nd with
    | some z =>
     obtain ⟨D',fs'⟩:=z
     rw [st] at r1
     obtain ⟨bs1,b,cs,c,e1,e2,_⟩:=Z2.nd_ Lh st
     refine .inl ⟨bs1,b,cs,c,e1,e2,fun H3 s3=>?_⟩
     obtain ⟨bs1',b',cs',c',e1',e2',inn',bs',sp',Z3⟩:=(Z2.same s3).nd_ Lh st
     have:cs'=cs:=List.append_inj_left' (e2'.symm.trans e2) rfl
     subst this
     have:bs1'=bs1:=List.append_inj_left' (e1'.symm.trans e1) rfl
     subst this
     exact ⟨⟨_,_,rfl⟩,D',fs',inn',bs',sp',r1,Z3⟩
    | none =>
     refine .inr ⟨?_,er st⟩
     cases fs with
     | nil=>have e:=Z2.za.1;rw [e];rfl
     | cons f fs=>cases st
   | _=>exact .inr (.inr (.inr ⟨trivial,inn,zs,hin,hz,by lia,fun H3 s3=>⟨⟨_,_,rfl⟩,_,_,inn,bs,sp,r1,(Z2.same s3).plain (s3 _ _ hz) (by exact trivial) Lh (hv.to (fun _ _=>trivial) s3) rfl⟩⟩))
 ·rintro σ H' ⟨⟨o3,o4,rfl⟩,D1,fs,inn,bs,sp,r1,Z⟩
  rw [List.length_map,List.length_map,List.drop_of_length_le (Nat.le_refl _)] at r1
  have r1:rdE .nil [] 0 ts=if fs.length=0 then .ok D1 else .error ts.length:=r1
  have le:=(ZAt.inn fs Z.za).2.2
  refine VP F Z.ra (Z.sm _ _ hl) (fun e=>fun H2 s2=>?_) fun e=>?_
  ·have e0:bs=[]:=List.reverse_eq_nil_iff.mp e
   have f0:fs=[]:=by rw [e0] at le;exact List.length_eq_zero_iff.mp le.symm
   subst f0
   obtain ⟨e1,e2,e3,xs,h1,h2⟩:=Z.za
   rw [List.append_nil] at h1
   exact q D1 r1 H2 xs (Z.sm.trans s2) (s2 _ _ h1) (TrsAt.any Z.gd.1 (TrsAt.same s2 Z.gd.1 h2))
  ·rw [if_neg (fun z=>e (by rw [List.reverse_eq_nil_iff];exact List.length_eq_zero_iff.mp (by lia)))] at r1
   rw [List.length_map,List.length_map]
   exact (q2 _ r1).mono Z.sm
theorem YJ {o1:V} {l:Addr} {ts:List Hd} {E:XK} (F:RdF K t) (hl:H l=some (.lst ((ts.map Hd.line).map V.str))) (lt:ts.length≤150) (L:∀ h∈ts,wZ h) (q:∀ D,rdE .nil [] 0 ts=.ok D→∀ H' l xs,Same H H'→H' l=some (.lst xs)→TrsAt ki H' xs D→Q (.ref l) H') (q2:∀ k,rdE .nil [] 0 ts=.error k→ndE t E H k) :
  qq K t E { nx:=fun _ H'=>Q .non H',rt:=Q } [some o1,some (.ref l),none,none,none] H:=by
 simp only [qq,wz,yU,yj,Zs,xJ,VD,yN,L2.start,zn,zJ,zm,qR,wR,qQ,zA,zU,zq,tOp,ze,yi,zd,zj,ww,zw,zo,tCB,zI,xQ,yB,List.map,List.replicate,List.length,List.append,jqa,jqb,jqc,jqd,jqe,jqf,jqg,jqh,jqi,jqj,jqk,jql,jqm,jqn,and_true,true_and,and_assoc,jqo,jqp,jqq,Nat.reduceSub,Nat.reduceAdd,jqr,jqs,jqt,Int.reduceToNat,Int.reducePow,Int.reduceNeg,Int.reduceMul,Int.reduceAdd,if_true,ite_true,jqu,ite_false,if_false]
 intro x dx hx hdx n
 have s2:=isV (o:=HO.own x) dx hdx
 have hx2:upd H dx (HO.own x) x=none:=by rw [zk (Ne.symm n)];exact hx
 have s3:=isV (o:=HO.ins t.c_Reading dx []) x hx2
 refine ⟨dx,zc,fun H' rl bl tl sX R hr f1 f2 f3=>?_⟩
 have S:Same H H':=sX.same (s2.trans s3) hx
 exact VQ F hl S R hr (xb (s2.trans s3) f1) (xb (s2.trans s3) f2) (xb (s2.trans s3) f3) lt L (fun D e H2 xs s h1 h2=>q D e H2 rl xs s h1 h2) q2
theorem Qg {hd:Hd} (L:wZ hd) (ls:List Str):Str.join Yd (hd.line :: ls)≠"":=fun z=>by
 cases ls with
 | nil=>exact Qf L (Ka hd) z
 | cons y r =>
  have z:(Str.join ⟨#[10]⟩ (hd.line :: y :: r)).cps.toList=[]:=by
   show (Str.join Yd (hd.line :: y :: r)).cps.toList=[]
   rw [z];decide +kernel
  rw [xU] at z
  exact absurd (List.append_eq_nil_iff.mp z).2 (by simp)
theorem Kb {x:Str} {ts:List Hd} {E:XK} (F:RdF K t) (hx:x=Str.join Yd (ts.map Hd.line)) (lx:x.length≤100000) (lt:ts.length≤150) (L:∀ h∈ts,wZ h) (q:∀ D,rdE .nil [] 0 ts=.ok D→∀ H' l xs,Same H H'→H' l=some (.lst xs)→TrsAt ki H' xs D→Q (.ref l) H') (q2:∀ k,rdE .nil [] 0 ts=.error k→ndE t E H k) :
  Y9 K t E { nx:=fun _ H'=>Q .non H',rt:=Q } (L2.start ["text","texts","reading","number","one"] [.str x]) H:=by
 subst hx
 simp only [Y9,yU,yj,Zs,xJ,VD,wW,yN,L2.start,zn,zJ,zm,qR,wR,qQ,zA,zU,zq,tOp,ze,tC,yi,zd,zj,ww,zw,zo,tIf,tCB,tBM,tyV,zI,xQ,rNe,yB,y0,List.map,List.replicate,List.length,List.append,jqa,jqb,jqc,jqd,jqe,jqf,jqg,jqh,jqi,jqj,jqk,jql,jqm,jqn,and_true,true_and,and_assoc,jqo,jqp,jqq,Nat.reduceSub,Nat.reduceAdd,jqr,jqs,jqt,Int.reduceToNat,Int.reducePow,Int.reduceNeg,Int.reduceMul,Int.reduceAdd,if_true,ite_true,jqu,ite_false,if_false]
 cases ts with
 | nil =>
  rw [if_neg (by decide +kernel)]
  refine ⟨Nat.zero_le _,fun l hl=>?_⟩
  have s1:=isV (o:=HO.lst []) l hl
  exact YJ (ts:=[]) F zc (by decide) (fun _ z=>nomatch z) (fun D e H' l' xs s h1 h2=>q D e H' l' xs (s1.trans s) h1 h2) fun k e=>(q2 k e).mono s1
 | cons h r =>
  rw [if_pos (show ¬ Str.join Yd (List.map Hd.line (h :: r))=Str.ofString "" from Qg (L h (by simp)) (r.map Hd.line))]
  have es:Txt.split (Str.join Yd ((h :: r).map Hd.line)) (Str.ofString "\n")=(h :: r).map Hd.line:=by
   rw [Qz]
   refine ZM (by simp) fun p hp=>?_
   obtain ⟨g,hg,rfl⟩:=List.mem_map.mp hp
   exact Qe (L g hg)
  rw [es]
  refine ⟨by decide +kernel,lx,by rw [List.length_map];lia,fun l hl=>?_⟩
  have s1:=isV (o:=HO.lst (List.map V.str ((h :: r).map Hd.line))) l hl
  exact YJ F zc lt L (fun D e H' l' xs s h1 h2=>q D e H' l' xs (s1.trans s) h1 h2) fun k e=>(q2 k e).mono s1
theorem Xe {α:Type} (cs:List α):cs=[]∨∃ c' c,cs=c' ++ [c]:=by
 by_cases h:cs=[]
 ·exact .inl h
 ·exact .inr ⟨cs.dropLast,cs.getLast h,(List.dropLast_concat_getLast h).symm⟩
theorem Kc (n:Nat):HT.sIx n n (some (-1))=n - 1:=by
 show (if (-1:Int) < 0 then (-1 + (n:Int)).toNat else min (-1:Int).toNat n)=n - 1
 rw [if_pos (by decide)]
 lia
theorem Xf {α:Type} {R:V→α→Prop} {x:α}:∀ {as:List α} {vs:List V},Paired R vs (as ++ [x])→∃ us v,vs=us ++ [v]∧Paired R us as∧R v x
 | [],_,.cons h .nil=>⟨[],_,rfl,.nil,h⟩
 | _ :: _,_,.cons h r=>by
  obtain ⟨us,v,rfl,h1,h2⟩:=Xf r
  exact ⟨_ :: us,v,rfl,.cons h h1,h2⟩
theorem Xg (xs:List V):j9 xs none (some (-1))=xs.dropLast:=by
 unfold j9
 have e:HT.sIx xs.length xs.length (some (-1))=xs.length - 1:=by
  show (if (-1:Int) < 0 then (-1 + (xs.length:Int)).toNat else min (-1:Int).toNat xs.length)=xs.length - 1
  rw [if_pos (by decide)]
  lia
 rw [e,show HT.sIx xs.length 0 none=0 from rfl,List.drop_zero,Nat.sub_zero,List.dropLast_eq_take]
theorem Xh {k:Kd} {tl:Addr} {cs:List Bool} (h1:H tl=some (.lst (List.map V.bl cs))) (h2:cs.length≤200) (q:∀ H',Same H H'→Q (.bl (vb k cs)) H') :
  jz K t { nx:=fun _ H'=>Q .non H',rt:=Q } (L2.start ["kind","turned"] [.str (kS k),.ref tl]) H:=by
 simp only [jz,xJ,L2.start,zn,zA,zq,tOp,tUn,ze,tC,yi,zd,zj,zw,zo,wP,jY,tCB,xQ,xP,rEq,rI0,rU,yB,y0,List.map,List.replicate,List.length,List.append,jqa,jqb,jqc,jqd,jqe,jqf,jqg,jqh,jqi,jqj,jqk,jql,jqm,jqn,and_true,true_and,and_assoc,jqo,jqp,jqq,Nat.reduceSub,Nat.reduceAdd,jqr,jqs,jqt,Int.reduceToNat,Int.reducePow,Int.reduceNeg,Int.reduceMul,Int.reduceAdd,if_true,ite_true,jqu,ite_false,if_false]
 cases k with
 | i =>
  rw [if_pos (by rfl)]
  refine ⟨cs.length,.inl ⟨_,SqL.of h1,(List.length_map ..).symm⟩,?_⟩
  have e:decide ((cs.length:Int) < 5)=vb .i cs:=decide_eq_decide.mpr (by lia)
  rw [e]
  exact q H (Same.refl H)
 | e =>
  rw [if_neg (by decide +kernel),if_pos (by rfl)]
  refine ⟨Nat.zero_le _,fun p hp=>?_⟩
  have s1:=isV (o:=HO.lst []) p hp
  refine ⟨_,SqL.of (s1 _ _ h1),SqL.of zc,?_⟩
  rcases Xe cs with rfl | ⟨c',c,rfl⟩
  ·rw [if_neg (by simp)]
   exact q _ s1
  ·rw [if_pos (by simp)]
   refine ⟨_,SqL.of (s1 _ _ h1),_,by rw [List.map_append];exact qz,c,rfl,?_⟩
   have e:vb .e (c' ++ [c])=!c:=by simp [vb]
   rw [← e]
   exact q _ s1
 | n =>
  rw [if_neg (by decide +kernel),if_neg (by decide +kernel),if_pos (by rfl)]
  refine ⟨Nat.zero_le _,fun p hp=>?_⟩
  have s1:=isV (o:=HO.lst []) p hp
  refine ⟨_,SqL.of (s1 _ _ h1),SqL.of zc,?_⟩
  have e:(!decide (List.map V.bl cs=[]))=vb .n cs:=by cases cs <;> simp [vb]
  rw [e]
  exact q _ s1
 | s =>
  rw [if_neg (by decide +kernel),if_neg (by decide +kernel),if_neg (by decide +kernel)]
  exact q H (Same.refl H)
theorem qY {k:Kd} {tl:Addr} {cs:List Bool} (h1:H tl=some (.lst (List.map V.bl cs))) (h2:cs.length≤200) (q:∀ l H',Same H H'→H' l=some (.lst (List.map V.bl (jv k cs)))→(l=tl∨H l=none)→Q (.ref l) H') :
  w5 K t { nx:=fun _ H'=>Q .non H',rt:=Q } (L2.start ["kind","turned"] [.str (kS k),.ref tl]) H:=by
 simp only [w5,wJ,L2.start,zn,zA,zq,tOp,tUn,ze,tC,yi,zd,zj,zw,zo,tSl,xz,xD,wJ,rEq,rU,Zv,y0,List.map,List.replicate,List.length,List.append,jqa,jqb,jqc,jqd,jqe,jqf,jqg,jqh,jqi,jqj,jqk,jql,jqm,jqn,and_true,true_and,and_assoc,jqo,jqp,jqq,Nat.reduceSub,Nat.reduceAdd,jqr,jqs,jqt,Int.reduceToNat,Int.reducePow,Int.reduceNeg,Int.reduceMul,Int.reduceAdd,if_true,ite_true,jqu,ite_false,if_false]
 cases k with
 | i =>
  rw [if_pos (by rfl)]
  refine ⟨by decide,fun p hp=>?_⟩
  have s1:=isV (o:=HO.lst [V.bl false]) p hp
  refine ⟨_,s1 _ _ h1,_,zc,zH (by simp;lia),fun p1 hp1=>q p1 _ (s1.trans (isV p1 hp1)) ?_ (.inr (xb s1 hp1))⟩
  rw [zc];simp [jv]
 | e =>
  rw [if_neg (by decide +kernel),if_pos (by rfl)]
  refine ⟨_,SqL.of h1,fun p hp=>⟨by decide,fun p1 hp1=>?_⟩⟩
  rw [Xg] at hp1 ⊢
  have s1:=isV (o:=HO.lst (List.map V.bl cs).dropLast) p hp
  have s2:=isV (o:=HO.lst [V.bl true]) p1 hp1
  have dl:(List.map V.bl cs).dropLast.length≤200:=by simp;lia
  refine ⟨_,s2 _ _ zc,_,zc,zH (by simp;lia),fun p2 hp2=>q p2 _ (s1.trans (s2.trans (isV p2 hp2))) ?_ (.inr (xb (s1.trans s2) hp2))⟩
  rw [zc];simp [jv,List.map_dropLast]
 | n =>
  rw [if_neg (by decide +kernel),if_neg (by decide +kernel),if_pos (by rfl)]
  refine ⟨_,SqL.of h1,fun p hp=>?_⟩
  rw [Xg]
  refine q p _ (isV p hp) ?_ (.inr hp)
  rw [zc];simp [jv,List.map_dropLast]
 | s =>
  rw [if_neg (by decide +kernel),if_neg (by decide +kernel),if_neg (by decide +kernel)]
  exact q _ H (Same.refl H) h1 (.inl rfl)
theorem Xi {H:Hp}:∀ {xs:List V} {hs:List Kw} {i:Nat} {h:Kw},Paired (VI H) xs hs→hs[i]?=some h→∃ r,xs[i]?=some (.ref r)∧H r=some (.tup [.str (kS h.1),.int h.2])
 | [],[],_,_,.nil,e=>by cases e
 | x :: xs,y :: hs,0,h,.cons hx _,e=>by
  cases e
  obtain ⟨r,rfl,z⟩:=hx
  exact ⟨r,rfl,z⟩
 | x :: xs,y :: hs,i + 1,h,.cons _ hr,e=>Xi (xs:=xs) hr e
theorem Ke {H H':Hp} (s:TS H H'):∀ {xs:List V} {hs:List Kw},Paired (VI H) xs hs→Paired (VI H') xs hs
 | [],[],.nil=>.nil
 | _ :: _,_ :: _,.cons ⟨r,e,z⟩ h=>.cons ⟨r,e,s _ _ z⟩ (Ke s h)
theorem tsS {H H':Hp} (s:Same H H'):TS H H':=fun b ys e=>s _ _ e
theorem xN {H H':Hp} (s:Same H H') {xs:List V} {hs:List Kw} (h:Paired (VI H) xs hs):Paired (VI H') xs hs:=Ke (tsS s) h
theorem xO {α:Type} {R:V→α→Prop}:∀ {vs us:List V} {as bs:List α},Paired R vs as→Paired R us bs→Paired R (vs ++ us) (as ++ bs)
 | [],_,[],_,.nil,h=>h
 | _ :: _,_,_ :: _,_,.cons a b,h=>.cons a (xO b h)
def bdI (l:Addr) (hs:List Kw) (H:Hp) (i:Nat) (σ:St) (H':Hp):Prop:=∃ cs tl,(∃ o,σ=[some (.ref l),some (.ref tl),o])∧Same H H'∧H' tl=some (.lst (List.map V.bl cs))∧cs.length≤i∧vB [] 0 hs=vB cs i (hs.drop i)
theorem Xj {l:Addr} {hs:List Kw} (h1:jW H l hs) (h2:hs.length≤150) (q:∀ H',Same H H'→Q (.int (vB [] 0 hs)) H') :
  jA K t { nx:=fun _ H'=>Q .non H',rt:=Q } (L2.start ["heads","turned","k"] [.ref l]) H:=by
 simp only [jA,j0,jZ,y8,yL,xJ,L2.start,zV,zn,zJ,zm,zA,zq,tOp,tUn,ze,tC,yi,zd,zj,ww,zw,tOr,vI,zo,tB,tCB,zI,xQ,kB,xP,zV,rEq,rU,yB,y0,List.map,List.replicate,List.length,List.append,jqa,jqb,jqc,jqd,jqe,jqf,jqg,jqh,jqi,jqj,jqk,jql,jqm,jqn,and_true,true_and,and_assoc,jqo,jqp,jqq,Nat.reduceSub,Nat.reduceAdd,jqr,jqs,jqt,Int.reduceToNat,Int.reducePow,Int.reduceNeg,Int.reduceMul,Int.reduceAdd,if_true,ite_true,jqu,ite_false,if_false]
 obtain ⟨xs,hx,P,hw⟩:=h1
 have lx:=Paired.length P
 refine ⟨Nat.zero_le _,fun tl htl=>?_⟩
 have s1:=isV (o:=HO.lst []) tl htl
 refine ⟨xs.length,.inl ⟨_,SqL.of (s1 _ _ hx),rfl⟩,by lia,by lia,ZE (bdI l hs H) ⟨[],tl,⟨_,rfl⟩,s1,zc,Nat.le_refl _,rfl⟩ ?_ ?_⟩
 ·rintro i σ H' hi ⟨cs,tl,⟨o,rfl⟩,s,ht,lc,hb⟩
  simp only [xJ,L2.start,zV,zn,zJ,zm,zA,zq,tOp,tUn,ze,tC,yi,zd,zj,ww,zw,tOr,vI,zo,tB,tCB,zI,xQ,kB,xP,zV,rEq,rU,yB,y0,List.map,List.replicate,List.length,List.append,jqa,jqb,jqc,jqd,jqe,jqf,jqg,jqh,jqi,jqj,jqk,jql,jqm,jqn,and_true,true_and,and_assoc,jqo,jqp,jqq,Nat.reduceSub,Nat.reduceAdd,jqr,jqs,jqt,Int.reduceToNat,Int.reducePow,Int.reduceNeg,Int.reduceMul,Int.reduceAdd,if_true,ite_true,jqu,ite_false,if_false,Int.zero_add]
  have hi':i < hs.length:=by rw [← lx];lia
  obtain ⟨r,xr,hr⟩:=Xi (h:=hs[i]) (xN s P) (List.getElem?_eq_getElem hi')
  rw [List.drop_eq_getElem_cons hi'] at hb
  have hb:vB [] 0 hs=if i=40∨vb hs[i].1 cs=false then (i:Int) else vB (jv hs[i].1 cs) (i + 1) (hs.drop (i + 1)):=hb
  by_cases h40:(i:Int)=40
  ·rw [if_pos h40]
   rw [if_pos (.inl (by lia))] at hb
   rw [← hb]
   exact q H' s
  rw [if_neg h40]
  refine ⟨_,SqL.of (s _ _ hx),_,qw xr,_,rfl,_,SqT.of hr,_,rfl,_,rfl,cs,ht,by lia,fun H2 s2=>?_⟩
  by_cases hm:vb hs[i].1 cs=false
  ·rw [if_pos hm]
   rw [if_pos (.inr hm)] at hb
   rw [← hb]
   exact q H2 (s.trans s2)
  rw [if_neg hm]
  rw [if_neg (fun z=>z.elim (fun z=>h40 (by lia)) hm)] at hb
  refine ⟨_,SqL.of (s2 _ _ (s _ _ hx)),_,qw xr,_,rfl,_,SqT.of (s2 _ _ hr),_,rfl,_,rfl,cs,s2 _ _ ht,by lia,fun l2 H3 s3 h3 _=>⟨_,l2,⟨_,rfl⟩,s.trans (s2.trans s3),h3,?_,hb⟩⟩
  have bl:∀ k,(jv k cs).length≤cs.length + 1:=fun k=>by cases k <;> simp [jv] <;> lia
  have:=bl hs[i].1
  lia
 ·rintro σ H' ⟨cs,tl,⟨o,rfl⟩,s,ht,lc,hb⟩
  simp only [xJ,L2.start,zV,zn,zJ,zm,zA,zq,tOp,tUn,ze,tC,yi,zd,zj,ww,zw,tOr,vI,zo,tB,tCB,zI,xQ,kB,xP,zV,rEq,rU,yB,y0,List.map,List.replicate,List.length,List.append,jqa,jqb,jqc,jqd,jqe,jqf,jqg,jqh,jqi,jqj,jqk,jql,jqm,jqn,and_true,true_and,and_assoc,jqo,jqp,jqq,Nat.reduceSub,Nat.reduceAdd,jqr,jqs,jqt,Int.reduceToNat,Int.reducePow,Int.reduceNeg,Int.reduceMul,Int.reduceAdd,if_true,ite_true,jqu,ite_false,if_false]
  refine ⟨Nat.zero_le _,fun p hp=>?_⟩
  have s2:=isV (o:=HO.lst []) p hp
  refine ⟨_,SqL.of (s2 _ _ ht),SqL.of zc,?_⟩
  rw [List.drop_of_length_le (by lia)] at hb
  cases cs with
  | nil =>
   rw [if_neg (by simp)]
   have hb:vB [] 0 hs=-1:=hb
   rw [← hb]
   exact q _ (s.trans s2)
  | cons c cs =>
   rw [if_pos (by simp)]
   have hb:vB [] 0 hs=(((xs.length:Int).toNat:Nat):Int):=hb
   refine ⟨xs.length,.inl ⟨_,SqL.of (s2 _ _ (s _ _ hx)),rfl⟩,?_⟩
   rw [show (xs.length:Int)=vB [] 0 hs by rw [hb];lia]
   exact q _ (s.trans s2)
def hdI (p:Addr) (spot:Int) (ns:List Int) (H:Hp) (i:Nat) (σ:St) (H':Hp):Prop:=∃ cs tl l hs,(∃ o4 o5 o6,σ=[some (.ref p),some (.int spot),some (.ref l),some (.ref tl),o4,o5,o6])∧Same H H'∧H l=none∧jW H' l hs∧hs.length≤i∧H' tl=some (.lst (List.map V.bl cs))∧cs.length≤i∧tl≠l
theorem X8 {D:j4} {H0:Hp} {p l tl:Addr} {spot:Int} {ns:List Int} {hs:List Kw} {cs:List Bool} {k:Kd} {i:Nat} {o6:Option V} (h1:H0 p=some (.lst (ns.map V.int))) (hi:i < ns.length) (h2:ns.length≤63) (s:Same H0 H) (hl:H0 l=none) (hA:jW H l hs) (lh:hs.length≤i) (ht:H tl=some (.lst (List.map V.bl cs))) (lc:cs.length≤i) (nt:tl≠l) (q:∀ σ H',hdI p spot ns H0 (i + 1) σ H'→D.nx σ H') :
  wD K t D [some (.ref p),some (.int spot),some (.ref l),some (.ref tl),some (.int i),some (.str (kS k)),o6] H:=by
 simp only [wD,y8,yL,L2.start,zr,yu,zn,zJ,zm,zU,zq,tOp,ze,tC,yh,zd,zj,zw,tB,tBM,tyV,zI,xP,rI,rI0,List.map,List.replicate,List.length,List.append,jqa,jqb,jqc,jqd,jqe,jqf,jqg,jqh,jqi,jqj,jqk,jql,jqm,jqn,and_true,true_and,and_assoc,jqo,jqp,jqq,Nat.reduceSub,Nat.reduceAdd,jqr,jqs,jqt,Int.reduceToNat,Int.reducePow,Int.reduceNeg,Int.reduceMul,Int.reduceAdd,if_true,ite_true,jqu,ite_false,if_false]
 have P30:=J2 (j:=30) (by decide) (by decide)
 obtain ⟨xs,hx,P,hw⟩:=hA
 have lx:=Paired.length P
 have ai:(ns.map V.int)[i]?=some (.int ns[i]):=by rw [List.getElem?_map,List.getElem?_eq_getElem hi];rfl
 refine ⟨_,SqL.of (s _ _ h1),_,qw ai,_,rfl,dB,P30,P30,⟨⟨by decide +kernel,by decide +kernel⟩,by decide +kernel,by decide +kernel⟩,by decide,P30,.inl ⟨_,SqL.of hx⟩,?_⟩
 refine ⟨by decide,fun p1 hp1=>?_⟩
 have e7:inW ((ns[i] / 7 + 1000000000000000000000000000000) % 2000000000000000000000000000001 - 1000000000000000000000000000000)=true:=inW_iff.mpr (by lia)
 generalize (ns[i] / 7 + 1000000000000000000000000000000) % 2000000000000000000000000000001 - 1000000000000000000000000000000=w at *
 have s1:=isV (o:=HO.tup [V.str (kS k),V.int w]) p1 hp1
 have t1:upd H p1 (HO.tup [V.str (kS k),V.int w]) p1=some (.tup [V.str (kS k),V.int w]):=zc
 generalize upd H p1 (HO.tup [V.str (kS k),V.int w])=H1 at *
 have T:=wF (ys:=xs ++ [V.ref p1]) (s1 _ _ hx)
 have hA2:jW (upd H1 l (.lst (xs ++ [V.ref p1]))) l (hs ++ [(k,w)]):=⟨_,zc,xO (Ke T (xN s1 P)) (.cons ⟨p1,rfl,T _ _ t1⟩ .nil),fun h hh=>(List.mem_append.mp hh).elim (hw h) fun z=>by rw [List.mem_singleton.mp z];exact e7⟩
 have S2:=yg (o:=HO.lst (xs ++ [V.ref p1])) (s.trans s1) hl
 have ht2:upd H1 l (.lst (xs ++ [V.ref p1])) tl=some (.lst (List.map V.bl cs)):=by rw [zk nt];exact s1 _ _ ht
 refine ⟨xs,s1 _ _ hx,Nat.lt_of_le_of_lt (by lia:xs.length≤1000) (by decide),?_⟩
 generalize upd H1 l (.lst (xs ++ [V.ref p1]))=H2 at *
 refine ⟨k,rfl,cs,ht2,by lia,fun H3 s3=>?_⟩
 have hA3:jW H3 l (hs ++ [(k,w)]):=let ⟨xs,a,b,c⟩:=hA2;⟨xs,s3 _ _ a,xN s3 b,c⟩
 have l3:(hs ++ [(k,w)]).length≤i + 1:=by simp;lia
 by_cases hm:vb k cs=true
 ·rw [if_pos hm]
  refine ⟨k,rfl,cs,s3 _ _ ht2,by lia,fun l4 H4 s4 h4 n4=>q _ _ ⟨_,l4,l,_,⟨_,_,_,rfl⟩,S2.trans (s3.trans s4),hl,(let ⟨xs,a,b,c⟩:=hA3;⟨xs,s4 _ _ a,xN s4 b,c⟩),l3,h4,?_,?_⟩⟩
  ·have bl:∀ k,(jv k cs).length≤cs.length + 1:=fun k=>by cases k <;> simp [jv] <;> lia
   have:=bl k
   lia
  ·rcases n4 with rfl | n4
   ·exact nt
   ·obtain ⟨_,z,_⟩:=hA3
    exact Ne.symm (zx z n4)
 ·rw [if_neg hm]
  exact q _ _ ⟨cs,tl,l,_,⟨_,_,_,rfl⟩,S2.trans s3,hl,hA3,l3,s3 _ _ ht2,by lia,nt⟩
theorem ZW {p:Addr} {spot:Int} {ns:List Int} (h1:H p=some (.lst (ns.map V.int))) (h2:ns.length≤63) (q:∀ r l hs (m:Nat) H',Same H H'→H' r=some (.tup [.ref l,.int m])→jW H' l hs→hs.length≤63→m≤63→Q (.ref r) H') :
  vo K t { nx:=fun _ H'=>Q .non H',rt:=Q } (L2.start ["cells","spot","heads","turned","k","kind","worth"] [.ref p,.int spot]) H:=by
 simp only [vo,v7,v6,y8,yL,L2.start,zr,yu,zn,zJ,zm,zA,zU,zq,tOp,ze,tC,yi,yh,zd,zj,ww,zw,tOr,zo,tB,tCB,tBM,tyV,zI,xQ,kB,xP,rEq,rI,rI0,yB,y0,List.map,List.replicate,List.length,List.append,jqa,jqb,jqc,jqd,jqe,jqf,jqg,jqh,jqi,jqj,jqk,jql,jqm,jqn,and_true,true_and,and_assoc,jqo,jqp,jqq,Nat.reduceSub,Nat.reduceAdd,jqr,jqs,jqt,Int.reduceToNat,Int.reducePow,Int.reduceNeg,Int.reduceMul,Int.reduceAdd,if_true,ite_true,jqu,ite_false,if_false]
 have lm:(ns.map V.int).length=ns.length:=List.length_map ..
 refine ⟨Nat.zero_le _,fun l hl=>⟨Nat.zero_le _,fun tl htl=>?_⟩⟩
 have s1:=isV (o:=HO.lst []) l hl
 have s2:=isV (o:=HO.lst []) tl htl
 refine ⟨ns.length,.inl ⟨_,SqL.of (s2 _ _ (s1 _ _ h1)),lm.symm⟩,by lia,by lia,ZE (hdI p spot ns H) ⟨[],tl,l,[],⟨_,_,_,rfl⟩,s1.trans s2,hl,⟨[],s2 _ _ zc,.nil,fun _ z=>nomatch z⟩,Nat.le_refl _,zc,Nat.le_refl _,Ne.symm (zx (zc:upd H l (HO.lst []) l=_) htl)⟩ ?_ ?_⟩
 ·rintro i σ H' hi ⟨cs,tl,l,hs,⟨o4,o5,o6,rfl⟩,s,hl,hA,lh,ht,lc,nt⟩
  simp only [L2.start,zr,yu,zn,zJ,zm,zA,zU,zq,tOp,ze,tC,yi,yh,zd,zj,ww,zw,tOr,zo,tB,tCB,tBM,tyV,zI,xQ,kB,xP,rEq,rI,rI0,yB,y0,List.map,List.replicate,List.length,List.append,jqa,jqb,jqc,jqd,jqe,jqf,jqg,jqh,jqi,jqj,jqk,jql,jqm,jqn,and_true,true_and,and_assoc,jqo,jqp,jqq,Nat.reduceSub,Nat.reduceAdd,jqr,jqs,jqt,Int.reduceToNat,Int.reducePow,Int.reduceNeg,Int.reduceMul,Int.reduceAdd,if_true,ite_true,jqu,ite_false,if_false,Int.zero_add]
  have hi':i < ns.length:=by lia
  have ai:(ns.map V.int)[i]?=some (.int ns[i]):=by rw [List.getElem?_map,List.getElem?_eq_getElem hi'];rfl
  refine ⟨by decide,fun p1 hp1=>?_⟩
  have s3:=isV (o:=HO.lst [V.str (Str.ofString "if"),V.str (Str.ofString "say"),V.str (Str.ofString "else"),V.str (Str.ofString "end"),V.str (Str.ofString "if"),V.str (Str.ofString "say"),V.str (Str.ofString "end")]) p1 hp1
  have t3:upd H' p1 (HO.lst [V.str (Str.ofString "if"),V.str (Str.ofString "say"),V.str (Str.ofString "else"),V.str (Str.ofString "end"),V.str (Str.ofString "if"),V.str (Str.ofString "say"),V.str (Str.ofString "end")]) p1=some (.lst [V.str (Str.ofString "if"),V.str (Str.ofString "say"),V.str (Str.ofString "else"),V.str (Str.ofString "end"),V.str (Str.ofString "if"),V.str (Str.ofString "say"),V.str (Str.ofString "end")]):=zc
  generalize upd H' p1 (HO.lst [V.str (Str.ofString "if"),V.str (Str.ofString "say"),V.str (Str.ofString "else"),V.str (Str.ofString "end"),V.str (Str.ofString "if"),V.str (Str.ofString "say"),V.str (Str.ofString "end")])=H3 at *
  obtain ⟨v,hv,hm⟩:=zab (xs:=[V.str (Str.ofString "if"),V.str (Str.ofString "say"),V.str (Str.ofString "else"),V.str (Str.ofString "end"),V.str (Str.ofString "if"),V.str (Str.ofString "say"),V.str (Str.ofString "end")]) ns[i] 7 rfl (by decide)
  obtain ⟨k,rfl⟩:∃ k,v=V.str (kS k):=by
   simp only [List.mem_cons,List.not_mem_nil,or_false] at hm
   rcases hm with rfl | rfl | rfl | rfl | rfl | rfl | rfl
   ·exact ⟨.i,rfl⟩
   ·exact ⟨.s,rfl⟩
   ·exact ⟨.e,rfl⟩
   ·exact ⟨.n,rfl⟩
   ·exact ⟨.i,rfl⟩
   ·exact ⟨.s,rfl⟩
   ·exact ⟨.n,rfl⟩
  refine ⟨_,SqL.of (s3 _ _ (s _ _ h1)),_,qw ai,_,rfl,by decide,_,SqL.of t3,_,hv,k,rfl,cs,s3 _ _ ht,by lia,fun H4 s4=>?_⟩
  have S4:=s.trans (s3.trans s4)
  have hA4:jW H4 l hs:=let ⟨xs,a,b,c⟩:=hA;⟨xs,s4 _ _ (s3 _ _ a),xN (s3.trans s4) b,c⟩
  have A:=fun {D:j4} (q:∀ σ H',hdI p spot ns H (i + 1) σ H'→D.nx σ H')=>X8 (K:=K) (t:=t) (k:=k) (o6:=o6) (spot:=spot) (D:=D) h1 hi' h2 S4 hl hA4 lh (s4 _ _ (s3 _ _ ht)) lc nt q
  by_cases hm:vb k cs=true
  ·rw [if_pos hm]
   exact A fun σ H' z=>z
  ·rw [if_neg hm]
   by_cases hs:(i:Int)=spot
   ·rw [if_pos hs]
    exact A fun σ H' z=>z
   ·rw [if_neg hs]
    exact ⟨cs,tl,l,_,⟨_,_,_,rfl⟩,S4,hl,hA4,by lia,s4 _ _ (s3 _ _ ht),by lia,nt⟩
 ·rintro σ H' ⟨cs,tl,l,hs,⟨o4,o5,o6,rfl⟩,s,hl,hA,lh,ht,lc,nt⟩
  simp only [L2.start,zr,yu,zn,zJ,zm,zA,zU,zq,tOp,ze,tC,yi,yh,zd,zj,ww,zw,tOr,zo,tB,tCB,tBM,tyV,zI,xQ,kB,xP,rEq,rI,rI0,yB,y0,List.map,List.replicate,List.length,List.append,jqa,jqb,jqc,jqd,jqe,jqf,jqg,jqh,jqi,jqj,jqk,jql,jqm,jqn,and_true,true_and,and_assoc,jqo,jqp,jqq,Nat.reduceSub,Nat.reduceAdd,jqr,jqs,jqt,Int.reduceToNat,Int.reducePow,Int.reduceNeg,Int.reduceMul,Int.reduceAdd,if_true,ite_true,jqu,ite_false,if_false]
  refine ⟨cs.length,.inl ⟨_,SqL.of ht,(List.length_map ..).symm⟩,by decide,fun r hr=>?_⟩
  have s3:=isV (o:=HO.tup [V.ref l,V.int (cs.length:Int)]) r hr
  exact q r l hs cs.length _ (s.trans s3) zc (let ⟨xs,a,b,c⟩:=hA;⟨xs,s3 _ _ a,xN s3 b,c⟩) (by lia) (by lia)
theorem ZX {H H':Hp} (s:TS H H'):∀ {vs:List V} {ar:List (Int × Int)},Paired (Y6 H) vs ar→Paired (Y6 H') vs ar
 | [],[],.nil=>.nil
 | _ :: _,_ :: _,.cons ⟨r,e,z⟩ h=>.cons ⟨r,e,s _ _ z⟩ (ZX s h)
theorem ArAt.ts {H H':Hp} {a:Addr} {ar:List (Int × Int)} (h:ArAt H a ar) (s:TS H H'):ArAt H' a ar:=by
 obtain ⟨vs,e,p⟩:=h
 exact ⟨vs,s _ _ e,ZX s p⟩
theorem vj {H H':Hp} (s:TS H H'):∀ {vs:List V} {fs:List Fd},Paired (Ye H) vs fs→Paired (Ye H') vs fs
 | [],[],.nil=>.nil
 | _ :: _,_ :: _,.cons ⟨r,a,e,z,y⟩ h=>.cons ⟨r,a,e,s _ _ z,y.ts s⟩ (vj s h)
def dlI (l:Addr) (hs:List Kw) (H:Hp) (i:Nat) (σ:St) (H':Hp):Prop:=∃ f a ar fs ys,(∃ o3 o4,σ=[some (.ref l),some (.ref f),some (.ref a),o3,o4])∧Same H H'∧H f=none∧H' f=some (.lst ys)∧Paired (Ye H') ys fs∧fs.length≤i∧ArAt H' a ar∧ar.length≤i∧duF [] hs=fs ++ duF ar (hs.drop i)∧VJ ar (hs.drop i)
theorem Xk {l:Addr} {hs:List Kw} (h1:jW H l hs) (h2:hs.length≤150) (h3:VJ [] hs) (q:∀ p H',Same H H'→Y7 H' p (duF [] hs)→Q (.ref p) H') :
  jG K t { nx:=fun _ H'=>Q .non H',rt:=Q } (L2.start ["heads","found","around","kind","worth"] [.ref l]) H:=by
 simp only [jG,j2,j1,YH,xV,L2.start,zr,yu,zV,zn,zJ,zm,qR,wR,qQ,zA,zU,tOp,tUn,ze,tC,yi,yh,zd,zj,ww,zw,zo,tBM,tyV,tSl,xz,xD,v5,zV,rEq,rU,y0,List.map,List.replicate,List.length,List.append,jqa,jqb,jqc,jqd,jqe,jqf,jqg,jqh,jqi,jqj,jqk,jql,jqm,jqn,and_true,true_and,and_assoc,jqo,jqp,jqq,Nat.reduceSub,Nat.reduceAdd,jqr,jqs,jqt,Int.reduceToNat,Int.reducePow,Int.reduceNeg,Int.reduceMul,Int.reduceAdd,if_true,ite_true,jqu,ite_false,if_false]
 obtain ⟨xs,hx,P,hw⟩:=h1
 have lx:=Paired.length P
 refine ⟨Nat.zero_le _,fun f hf=>⟨Nat.zero_le _,fun a ha=>?_⟩⟩
 have s1:=isV (o:=HO.lst []) f hf
 have s2:=isV (o:=HO.tup []) a ha
 refine ⟨⟨_,SqL.of (s2 _ _ (s1 _ _ hx))⟩,YC xs (dlI l hs H) ⟨f,a,[],[],[],⟨_,_,rfl⟩,s1.trans s2,hf,s2 _ _ zc,.nil,Nat.le_refl _,⟨[],zc,.nil⟩,Nat.le_refl _,rfl,h3⟩ (fun i σ H' ⟨_,_,_,_,_,_,s,_⟩=>SqL.of (s _ _ hx)) ?_ ?_⟩
 ·rintro i v σ H' hv ⟨f,a,ar,fs,ys,⟨o3,o4,rfl⟩,s,hf,hy,PF,lf,hA,la,hd,hok⟩
  have hi:i < hs.length:=by rw [← lx];exact (List.getElem?_eq_some_iff.mp hv).1
  have ly:=Paired.length PF
  obtain ⟨r,xr,hr⟩:=Xi (h:=hs[i]) (xN s P) (List.getElem?_eq_getElem hi)
  rw [hv] at xr
  obtain rfl:=Option.some.inj xr
  rw [List.drop_eq_getElem_cons hi] at hd hok
  generalize hs[i]=h at *
  obtain ⟨k,w⟩:=h
  simp only [YH,xV,L2.start,zr,yu,zV,zn,zJ,zm,qR,wR,qQ,zA,zU,tOp,tUn,ze,tC,yi,yh,zd,zj,ww,zw,zo,tBM,tyV,tSl,xz,xD,v5,zV,rEq,rU,y0,List.map,List.replicate,List.length,List.append,jqa,jqb,jqc,jqd,jqe,jqf,jqg,jqh,jqi,jqj,jqk,jql,jqm,jqn,and_true,true_and,and_assoc,jqo,jqp,jqq,Nat.reduceSub,Nat.reduceAdd,jqr,jqs,jqt,Int.reduceToNat,Int.reducePow,Int.reduceNeg,Int.reduceMul,Int.reduceAdd,if_true,ite_true,jqu,ite_false,if_false]
  refine ⟨_,SqT.of hr,rfl,_,_,rfl,_,_,rfl,rfl,rfl,?_⟩
  cases k with
  | i =>
   dsimp only
   rw [if_pos (by rfl)]
   refine ⟨.inl ⟨_,SqL.of hy⟩,by decide,fun p hp=>?_⟩
   have S1:=isV (o:=HO.tup [V.ref a,V.str (kS Kd.i),V.int w]) p hp
   have t1:upd H' p (HO.tup [V.ref a,V.str (kS Kd.i),V.int w]) p=some (.tup [V.ref a,V.str (kS Kd.i),V.int w]):=zc
   generalize upd H' p (HO.tup [V.ref a,V.str (kS Kd.i),V.int w])=H1 at *
   have y1:=S1 _ _ hy
   refine ⟨ys,y1,Nat.lt_of_le_of_lt (by lia:ys.length≤1000) (by decide),?_⟩
   have T2:=wF (ys:=ys ++ [V.ref p]) y1
   have S2:=yg (o:=HO.lst (ys ++ [V.ref p])) (s.trans S1) hf
   have y2:upd H1 f (HO.lst (ys ++ [V.ref p])) f=some (.lst (ys ++ [V.ref p])):=zc
   generalize upd H1 f (HO.lst (ys ++ [V.ref p]))=H2 at *
   have T12:=(tsS S1).trans T2
   have hA2:=hA.ts T12
   have PF2:Paired (Ye H2) (ys ++ [V.ref p]) (fs ++ [(ar,.i,w)]):=xO (vj T12 PF) (.cons ⟨p,a,rfl,T2 _ _ t1,hA2⟩ .nil)
   refine ⟨by decide,fun p1 hp1=>⟨by decide,fun p2 hp2=>?_⟩⟩
   have s3:=isV (o:=HO.tup [V.int w,V.int 0]) p1 hp1
   have t3:upd H2 p1 (HO.tup [V.int w,V.int 0]) p1=some (.tup [V.int w,V.int 0]):=zc
   generalize upd H2 p1 (HO.tup [V.int w,V.int 0])=H3 at *
   have s4:=isV (o:=HO.tup [V.ref p1]) p2 hp2
   have t4:upd H3 p2 (HO.tup [V.ref p1]) p2=some (.tup [V.ref p1]):=zc
   generalize upd H3 p2 (HO.tup [V.ref p1])=H4 at *
   obtain ⟨avs,ha2,pa⟩:=hA2
   have la2:=Paired.length pa
   have S34:=s3.trans s4
   have ln:(fs ++ [(ar,Kd.i,w)]).length≤i + 1:=by simp;lia
   have ln2:(ar ++ [(w,(0:Int))]).length≤i + 1:=by simp;lia
   have hd':duF [] hs=(fs ++ [(ar,.i,w)]) ++ duF (ar ++ [(w,0)]) (hs.drop (i + 1)):=by rw [hd,List.append_assoc];rfl
   refine ⟨avs,SqT.of (S34 _ _ ha2),_,SqT.of t4,zH (by simp;lia),fun e=>?_,(fun _ e=>nomatch e),fun ne _ p3 hp3=>?_⟩
   ·have a0:ar=[]:=by rw [e] at la2;exact List.length_eq_zero_iff.mp la2.symm
    exact ⟨f,p2,_,_,_,⟨_,_,rfl⟩,S2.trans S34,hf,S34 _ _ y2,vj (tsS S34) PF2,ln,⟨[V.ref p1],t4,by rw [a0];exact .cons ⟨p1,rfl,s4 _ _ t3⟩ .nil⟩,ln2,hd',hok.2⟩
   ·have s5:=isV (o:=HO.tup (avs ++ [V.ref p1])) p3 hp3
    have S5:=S34.trans s5
    exact ⟨f,p3,_,_,_,⟨_,_,rfl⟩,S2.trans S5,hf,S5 _ _ y2,vj (tsS S5) PF2,ln,⟨_,zc,xO (ZX (tsS S5) pa) (.cons ⟨p1,rfl,s5 _ _ (s4 _ _ t3)⟩ .nil)⟩,ln2,hd',hok.2⟩
  | e =>
   dsimp only
   rw [if_neg (by decide +kernel)]
   refine ⟨rfl,?_⟩
   rw [if_pos (by rfl)]
   obtain ⟨ar',pr,rfl⟩:=(Xe ar).resolve_left (hok.1 rfl)
   obtain ⟨avs,ha,pa⟩:=hA
   obtain ⟨us,v,rfl,pu,r0,rfl,hr0⟩:=Xf pa
   have lu:=Paired.length pu
   refine ⟨_,SqT.of ha,fun e=>absurd e.2 (by rw [Kc];simp),fun _ p hp=>?_⟩
   rw [Xg,List.dropLast_concat] at *
   have S1:=isV (o:=HO.tup us) p hp
   have t1:upd H' p (HO.tup us) p=some (.tup us):=zc
   generalize upd H' p (HO.tup us)=H1 at *
   refine ⟨_,SqT.of (S1 _ _ ha),_,qz,_,rfl,_,SqT.of (S1 _ _ hr0),_,rfl,by decide,fun p1 hp1=>⟨by decide,fun p2 hp2=>?_⟩⟩
   have s3:=isV (o:=HO.tup [V.int pr.1,V.int 1]) p1 hp1
   have t3:upd H1 p1 (HO.tup [V.int pr.1,V.int 1]) p1=some (.tup [V.int pr.1,V.int 1]):=zc
   generalize upd H1 p1 (HO.tup [V.int pr.1,V.int 1])=H3 at *
   have s4:=isV (o:=HO.tup [V.ref p1]) p2 hp2
   have t4:upd H3 p2 (HO.tup [V.ref p1]) p2=some (.tup [V.ref p1]):=zc
   generalize upd H3 p2 (HO.tup [V.ref p1])=H4 at *
   have S14:=S1.trans (s3.trans s4)
   have ln2:(ar' ++ [(pr.1,(1:Int))]).length≤i + 1:=by simp at la ⊢;lia
   have ea:Y8 (Kd.e,w) (ar' ++ [pr])=ar' ++ [(pr.1,1)]:=by simp [Y8]
   have hd':duF [] hs=fs ++ duF (ar' ++ [(pr.1,1)]) (hs.drop (i + 1)):=by rw [hd,← ea];rfl
   have ok':VJ (ar' ++ [(pr.1,1)]) (hs.drop (i + 1)):=by rw [← ea];exact hok.2
   refine ⟨us,SqT.of ((s3.trans s4) _ _ t1),_,SqT.of t4,zH (by simp at la ⊢;lia),fun e=>?_,(fun _ e=>nomatch e),fun ne _ p3 hp3=>?_⟩
   ·have a0:ar'=[]:=by rw [e] at lu;exact List.length_eq_zero_iff.mp lu.symm
    exact ⟨f,p2,_,_,_,⟨_,_,rfl⟩,s.trans S14,hf,S14 _ _ hy,vj (tsS S14) PF,by lia,⟨[V.ref p1],t4,by rw [a0];exact .cons ⟨p1,rfl,s4 _ _ t3⟩ .nil⟩,ln2,hd',ok'⟩
   ·have s5:=isV (o:=HO.tup (us ++ [V.ref p1])) p3 hp3
    have S5:=S14.trans s5
    exact ⟨f,p3,_,_,_,⟨_,_,rfl⟩,s.trans S5,hf,S5 _ _ hy,vj (tsS S5) PF,by lia,⟨_,zc,xO (ZX (tsS S5) pu) (.cons ⟨p1,rfl,s5 _ _ (s4 _ _ t3)⟩ .nil)⟩,ln2,hd',ok'⟩
  | n =>
   dsimp only
   rw [if_neg (by decide +kernel)]
   refine ⟨rfl,?_⟩
   rw [if_neg (by decide +kernel)]
   refine ⟨rfl,?_⟩
   rw [if_pos (by rfl)]
   obtain ⟨avs,ha,pa⟩:=hA
   have lu:=Paired.length pa
   have hd':duF [] hs=fs ++ duF ar.dropLast (hs.drop (i + 1)):=by rw [hd];rfl
   refine ⟨_,SqT.of ha,fun e=>?_,fun _ p hp=>?_⟩
   ·have a0:ar=[]:=by
     have:=e.2
     rw [Kc] at this
     exact List.length_eq_zero_iff.mp (by lia)
    subst a0
    exact ⟨f,a,[],_,_,⟨_,_,rfl⟩,s,hf,hy,PF,by lia,⟨avs,ha,pa⟩,by simp,hd',hok.2⟩
   ·rw [Xg]
    have S1:=isV (o:=HO.tup avs.dropLast) p hp
    refine ⟨f,p,ar.dropLast,_,_,⟨_,_,rfl⟩,s.trans S1,hf,S1 _ _ hy,vj (tsS S1) PF,by lia,⟨avs.dropLast,zc,?_⟩,by rw [List.length_dropLast];lia,hd',hok.2⟩
    rcases Xe ar with rfl | ⟨ar',pr,rfl⟩
    ·cases pa;exact .nil
    ·obtain ⟨us,v,rfl,pu,_⟩:=Xf pa
     rw [List.dropLast_concat] at S1
     rw [List.dropLast_concat,List.dropLast_concat]
     exact ZX (tsS S1) pu
  | s =>
   dsimp only
   rw [if_neg (by decide +kernel)]
   refine ⟨rfl,?_⟩
   rw [if_neg (by decide +kernel)]
   refine ⟨rfl,?_⟩
   rw [if_neg (by decide +kernel)]
   refine ⟨.inl ⟨_,SqL.of hy⟩,by decide,fun p hp=>?_⟩
   have S1:=isV (o:=HO.tup [V.ref a,V.str (kS Kd.s),V.int w]) p hp
   have t1:upd H' p (HO.tup [V.ref a,V.str (kS Kd.s),V.int w]) p=some (.tup [V.ref a,V.str (kS Kd.s),V.int w]):=zc
   generalize upd H' p (HO.tup [V.ref a,V.str (kS Kd.s),V.int w])=H1 at *
   have y1:=S1 _ _ hy
   refine ⟨ys,y1,Nat.lt_of_le_of_lt (by lia:ys.length≤1000) (by decide),?_⟩
   have T2:=wF (ys:=ys ++ [V.ref p]) y1
   have S2:=yg (o:=HO.lst (ys ++ [V.ref p])) (s.trans S1) hf
   have T12:=(tsS S1).trans T2
   exact ⟨f,a,ar,fs ++ [(ar,.s,w)],_,⟨_,_,rfl⟩,S2,hf,zc,xO (vj T12 PF) (.cons ⟨p,a,rfl,T2 _ _ t1,hA.ts T12⟩ .nil),by simp;lia,hA.ts T12,by lia,by rw [hd,List.append_assoc];rfl,hok.2⟩
 ·rintro σ H' ⟨f,a,ar,fs,ys,⟨o3,o4,rfl⟩,s,hf,hy,PF,lf,hA,la,hd,hok⟩
  simp only [YH,xV,L2.start,zr,yu,zV,zn,zJ,zm,qR,wR,qQ,zA,zU,tOp,tUn,ze,tC,yi,yh,zd,zj,ww,zw,zo,tBM,tyV,tSl,xz,xD,v5,zV,rEq,rU,y0,List.map,List.replicate,List.length,List.append,jqa,jqb,jqc,jqd,jqe,jqf,jqg,jqh,jqi,jqj,jqk,jql,jqm,jqn,and_true,true_and,and_assoc,jqo,jqp,jqq,Nat.reduceSub,Nat.reduceAdd,jqr,jqs,jqt,Int.reduceToNat,Int.reducePow,Int.reduceNeg,Int.reduceMul,Int.reduceAdd,if_true,ite_true,jqu,ite_false,if_false]
  rw [List.drop_of_length_le (by lia)] at hd
  have hd:duF [] hs=fs ++ []:=hd
  rw [List.append_nil] at hd
  exact q f H' s ⟨ys,hy,by rw [hd];exact PF⟩
theorem WP {w:Int} (hw:inW w=true):pst (lfT w)=[.int w]:=by
 show [pvw (yC w)]=_
 rw [(jH hw).2.2.1]
theorem X9 {w:Int} (hw:inW w=true):wT (lfT w)=w:=by unfold wT;rw [WP hw]
theorem QA {w:Int} (hw:inW w=true):TmOk (lfT w):=⟨(jH hw).1,(jH hw).2.1,(jH hw).2.2.2⟩
theorem Kf {x:Str} {w:Int} {hd:Hd} (hw:inW w=true) (e:hd.words=[x,yC w]) (cx:WOk x) (ok:hd.ok):wZ hd:=by
 have n1:=(jH hw).2.2.2 _ (List.mem_singleton.mpr rfl)
 refine ⟨ok,?_,by rw [e];exact (by decide:2≤60),?_⟩
 ·rw [e]
  intro z hz
  simp only [List.mem_cons,List.not_mem_nil,or_false] at hz
  rcases hz with rfl | rfl
  ·exact cx.1
  ·exact n1
 ·rw [e]
  intro z hz
  simp only [List.mem_cons,List.not_mem_nil,or_false] at hz
  rcases hz with rfl | rfl
  ·exact cx.2
  ·exact zac w
theorem Kg {x:Str} {hd:Hd} (e:hd.words=[x]) (cx:WOk x) (ok:hd.ok):wZ hd:=by
 refine ⟨ok,?_,by rw [e];exact (by decide:1≤60),?_⟩
 ·rw [e]
  intro z hz
  rw [List.mem_singleton.mp hz]
  exact cx.1
 ·rw [e]
  intro z hz
  rw [List.mem_singleton.mp hz]
  exact cx.2
theorem Vg {h:Kw} (hw:inW h.2=true):wZ (wt h):=by
 obtain ⟨k,w⟩:=h
 cases k with
 | i=>exact Kf (x:="if") hw rfl (Zj (by decide +kernel)) (QA hw)
 | s=>exact Kf (x:="say") hw rfl (Zj (by decide +kernel)) (QA hw)
 | e=>exact Kg (x:="else") rfl (Zj (by decide +kernel)) trivial
 | n=>exact Kg (x:="end") rfl (Zj (by decide +kernel)) trivial
mutual
theorem zaD:∀ (x:Tr),swT x→x.ok
 | .row h,e=>by
  unfold swT at e
  obtain ⟨w,rfl,hw⟩:=e
  unfold Tr.ok
  exact ⟨Vg (h:=(.s,w)) hw,trivial⟩
 | .iff T a b,e=>by
  unfold swT at e
  obtain ⟨⟨w,rfl,hw⟩,e1,e2⟩:=e
  unfold Tr.ok
  exact ⟨Vg (h:=(.i,w)) hw,jL a e1,jL b e2⟩
theorem jL:∀ (x:Trs),wB x→x.ok
 | .nil,_=>by unfold Trs.ok;trivial
 | .cons x r,e=>by
  unfold wB at e
  unfold Trs.ok
  exact ⟨zaD x e.1,jL r e.2⟩
end
theorem ja {vs:List V} {E:XK} (h:yf 0 vs H Q E):False:=by
 obtain ⟨_,_,_,_,_,_,_,_,_,h,_⟩:=h
 exact absurd h (Nat.not_lt_zero _)
def wlI (l a:Addr) (xs:List V) (D:Trs) (ar:List (Int × Int)) (H:Hp) (i:Nat) (σ:St) (H':Hp):Prop:=∃ f ys fs D2,(∃ o3 o4 o5 o6,σ=[some (.ref l),some (.ref a),some (.ref f),o3,o4,o5,o6])∧Same H H'∧H f=none∧H' f=some (.lst ys)∧Paired (Ye H') ys fs∧TrsAt ki H (xs.drop i) D2∧wB D2∧D2.deep≤D.deep∧yD D ar=fs ++ yD D2 ar
theorem Qh {n:Nat} {D:j4} {l a f r f1 f2:Addr} {w:Int} {xs ys y1 y2:List V} (hr:H r=some (.tup xs)) (h0:atI xs 0=some (.str "if")) (hf:H f=some (.lst ys)) (h1:H f1=some (.lst y1)) (h2:H f2=some (.lst y2)) (hz:ys.length + y1.length + y2.length≤1000)
  (q:∀ p H',Same H H'→H p=none→H' p=some (.lst (ys ++ y1 ++ y2))→D.nx [some (.ref l),some (.ref a),some (.ref p),some (.ref r),some (.int w),some (.ref f1),some (.ref f2)] H') :
  xm K t n D [some (.ref l),some (.ref a),some (.ref f),some (.ref r),some (.int w),some (.ref f1),some (.ref f2)] H:=by
 simp only [xm,wJ,L2.start,zV,zn,zJ,zm,zA,zq,tOp,ze,tC,zw,tOr,zo,wJ,zV,rNe,Xz,y0,List.map,List.replicate,List.length,List.append,jqa,jqb,jqc,jqd,jqe,jqf,jqg,jqh,jqi,jqj,jqk,jql,jqm,jqn,and_true,true_and,and_assoc,jqo,jqp,jqq,Nat.reduceSub,Nat.reduceAdd,jqr,jqs,jqt,Int.reduceToNat,Int.reducePow,Int.reduceNeg,Int.reduceMul,Int.reduceAdd,if_true,ite_true,jqu,ite_false,if_false]
 rw [if_neg (fun z=>nomatch z),if_neg (fun z=>nomatch z)]
 refine ⟨_,SqT.of hr,_,h0,rfl,?_⟩
 rw [if_neg (fun z=>z rfl)]
 refine ⟨_,hf,_,h1,zH (by lia),fun p hp=>⟨_,zc,_,(isV p hp) _ _ h2,zH (by simp;lia),fun p1 hp1=>q p1 _ ((isV p hp).trans (isV p1 hp1)) (xb (isV p hp) hp1) zc⟩⟩
theorem Qi {n:Nat} {D:j4} {l a f r te la lb f1:Addr} {u6:Option V} {w:Int} {xs:List V} {A:Trs} {ar:List (Int × Int)} (hr:H r=some (.tup [.str "if",.ref te,.ref la,.ref lb])) (h1:H lb=some (.lst xs)) (TA:TrsAt ki H xs A) (sw:wB A) (dp:A.deep < n) (ct:(yD A (ar ++ [(w,1)])).length≤200) (hA:ArAt H a ar) (ll:ar.length + 1 + A.deep≤200)
  (q:∀ p H',Same H H'→Y7 H' p (yD A (ar ++ [(w,1)]))→xm K t n D [some (.ref l),some (.ref a),some (.ref f),some (.ref r),some (.int w),some (.ref f1),some (.ref p)] H') :
  xn K t n D [some (.ref l),some (.ref a),some (.ref f),some (.ref r),some (.int w),some (.ref f1),u6] H:=by
 simp only [xn,yf,wJ,xV,L2.start,zV,zn,zJ,zm,zA,zq,tOp,ze,tC,yh,zd,zj,zw,tOr,zo,zI,wJ,zV,rNe,Xz,y0,List.map,List.replicate,List.length,List.append,jqa,jqb,jqc,jqd,jqe,jqf,jqg,jqh,jqi,jqj,jqk,jql,jqm,jqn,and_true,true_and,and_assoc,jqo,jqp,jqq,Nat.reduceSub,Nat.reduceAdd,jqr,jqs,jqt,Int.reduceToNat,Int.reducePow,Int.reduceNeg,Int.reduceMul,Int.reduceAdd,if_true,ite_true,jqu,ite_false,if_false]
 refine ⟨_,SqT.of hr,_,rfl,by decide,fun p hp=>⟨by decide,fun p1 hp1=>?_⟩⟩
 have S1:=isV (o:=HO.tup [V.int w,V.int 1]) p hp
 have t1:upd H p (HO.tup [V.int w,V.int 1]) p=some (.tup [V.int w,V.int 1]):=zc
 generalize upd H p (HO.tup [V.int w,V.int 1])=H1 at *
 have s2:=isV (o:=HO.tup [V.ref p]) p1 hp1
 have t2:upd H1 p1 (HO.tup [V.ref p]) p1=some (.tup [V.ref p]):=zc
 generalize upd H1 p1 (HO.tup [V.ref p])=H2 at *
 have S:=S1.trans s2
 have ok:=jL A sw
 obtain ⟨avs,ha,pa⟩:=hA
 have la2:=Paired.length pa
 have l2:(ar ++ [(w,(1:Int))]).length + A.deep≤200:=by simp;lia
 refine ⟨avs,SqT.of (S _ _ ha),_,SqT.of t2,zH (by simp;lia),fun e=>?_,(fun _ e=>nomatch e),fun ne _ p3 hp3=>?_⟩
 ·have a0:ar=[]:=by rw [e] at la2;exact List.length_eq_zero_iff.mp la2.symm
  exact ⟨lb,rfl,xs,S _ _ h1,A,TrsAt.same S ok TA,sw,dp,ar ++ [(w,1)],ct,⟨[V.ref p],t2,by rw [a0];exact .cons ⟨p,rfl,s2 _ _ t1⟩ .nil⟩,l2,fun p2 H' s' hF=>q p2 H' (S.trans s') hF⟩
 ·have s3:=isV (o:=HO.tup (avs ++ [V.ref p])) p3 hp3
  have S3:=S.trans s3
  exact ⟨lb,rfl,xs,S3 _ _ h1,A,TrsAt.same S3 ok TA,sw,dp,ar ++ [(w,1)],ct,⟨_,zc,xO (ZX (tsS S3) pa) (.cons ⟨p,rfl,s3 _ _ (s2 _ _ t1)⟩ .nil)⟩,l2,fun p2 H' s' hF=>q p2 H' (S3.trans s') hF⟩
theorem Qj {n:Nat} {D:j4} {l a f r te la lb:Addr} {u5 u6:Option V} {w:Int} {xs:List V} {A:Trs} {ar:List (Int × Int)} (hr:H r=some (.tup [.str "if",.ref te,.ref la,.ref lb])) (h1:H la=some (.lst xs)) (TA:TrsAt ki H xs A) (sw:wB A) (dp:A.deep < n) (ct:(yD A (ar ++ [(w,0)])).length≤200) (hA:ArAt H a ar) (ll:ar.length + 1 + A.deep≤200)
  (q:∀ p H',Same H H'→Y7 H' p (yD A (ar ++ [(w,0)]))→xn K t n D [some (.ref l),some (.ref a),some (.ref f),some (.ref r),some (.int w),some (.ref p),u6] H') :
  wk K t n D [some (.ref l),some (.ref a),some (.ref f),some (.ref r),some (.int w),u5,u6] H:=by
 simp only [wk,yf,wJ,xV,L2.start,zV,zn,zJ,zm,zA,zq,tOp,ze,tC,yh,zd,zj,zw,tOr,zo,zI,wJ,zV,rNe,Xz,y0,List.map,List.replicate,List.length,List.append,jqa,jqb,jqc,jqd,jqe,jqf,jqg,jqh,jqi,jqj,jqk,jql,jqm,jqn,and_true,true_and,and_assoc,jqo,jqp,jqq,Nat.reduceSub,Nat.reduceAdd,jqr,jqs,jqt,Int.reduceToNat,Int.reducePow,Int.reduceNeg,Int.reduceMul,Int.reduceAdd,if_true,ite_true,jqu,ite_false,if_false]
 refine ⟨_,SqT.of hr,_,rfl,by decide,fun p hp=>⟨by decide,fun p1 hp1=>?_⟩⟩
 have S1:=isV (o:=HO.tup [V.int w,V.int 0]) p hp
 have t1:upd H p (HO.tup [V.int w,V.int 0]) p=some (.tup [V.int w,V.int 0]):=zc
 generalize upd H p (HO.tup [V.int w,V.int 0])=H1 at *
 have s2:=isV (o:=HO.tup [V.ref p]) p1 hp1
 have t2:upd H1 p1 (HO.tup [V.ref p]) p1=some (.tup [V.ref p]):=zc
 generalize upd H1 p1 (HO.tup [V.ref p])=H2 at *
 have S:=S1.trans s2
 have ok:=jL A sw
 obtain ⟨avs,ha,pa⟩:=hA
 have la2:=Paired.length pa
 have l2:(ar ++ [(w,(0:Int))]).length + A.deep≤200:=by simp;lia
 refine ⟨avs,SqT.of (S _ _ ha),_,SqT.of t2,zH (by simp;lia),fun e=>?_,(fun _ e=>nomatch e),fun ne _ p3 hp3=>?_⟩
 ·have a0:ar=[]:=by rw [e] at la2;exact List.length_eq_zero_iff.mp la2.symm
  exact ⟨la,rfl,xs,S _ _ h1,A,TrsAt.same S ok TA,sw,dp,ar ++ [(w,0)],ct,⟨[V.ref p],t2,by rw [a0];exact .cons ⟨p,rfl,s2 _ _ t1⟩ .nil⟩,l2,fun p2 H' s' hF=>q p2 H' (S.trans s') hF⟩
 ·have s3:=isV (o:=HO.tup (avs ++ [V.ref p])) p3 hp3
  have S3:=S.trans s3
  exact ⟨la,rfl,xs,S3 _ _ h1,A,TrsAt.same S3 ok TA,sw,dp,ar ++ [(w,0)],ct,⟨_,zc,xO (ZX (tsS S3) pa) (.cons ⟨p,rfl,s3 _ _ (s2 _ _ t1)⟩ .nil)⟩,l2,fun p2 H' s' hF=>q p2 H' (S3.trans s') hF⟩
theorem Qk {n:Nat} {D:j4} {l a f r:Addr} {o5 o6:Option V} {w:Int} {H0:Hp} {v:V} {x:Tr} {ar:List (Int × Int)} {fs:List Fd} {ys:List V} (hv:v=.ref r) (hx:TrAt ki H0 v x) (sw:swT x) (dp:x.deep < n + 1) (ew:∀ T,(x=.row (.say T)∨∃ A B,x=.iff T A B)→wT T=w) (ct:fs.length + (wkT x ar).length≤200) (hA:ArAt H0 a ar) (ll:ar.length + x.deep≤200) (s:Same H0 H) (hf:H0 f=none) (hy:H f=some (.lst ys)) (PF:Paired (Ye H) ys fs)
  (q:∀ f' ys' o5 o6 H',Same H0 H'→H0 f'=none→H' f'=some (.lst ys')→Paired (Ye H') ys' (fs ++ wkT x ar)→D.nx [some (.ref l),some (.ref a),some (.ref f'),some (.ref r),some (.int w),o5,o6] H') :
  xo K t n D [some (.ref l),some (.ref a),some (.ref f),some (.ref r),some (.int w),o5,o6] H:=by
 subst hv
 have ly:=Paired.length PF
 simp only [xo,vC,wJ,xV,L2.start,zr,yu,zV,zn,zJ,zm,zA,zU,zq,tOp,ze,tC,yh,zd,zj,zw,tOr,zo,tCB,tBM,tyV,zI,xQ,wJ,zV,rEq,rNe,Xz,yB,y0,List.map,List.replicate,List.length,List.append,jqa,jqb,jqc,jqd,jqe,jqf,jqg,jqh,jqi,jqj,jqk,jql,jqm,jqn,and_true,true_and,and_assoc,jqo,jqp,jqq,Nat.reduceSub,Nat.reduceAdd,jqr,jqs,jqt,Int.reduceToNat,Int.reducePow,Int.reduceNeg,Int.reduceMul,Int.reduceAdd,if_true,ite_true,jqu,ite_false,if_false]
 refine ⟨.inl ⟨_,SqL.of hy⟩,?_⟩
 cases x with
 | row h =>
  unfold swT at sw
  obtain ⟨w',rfl,hw⟩:=sw
  have e:=ew _ (.inl rfl)
  unfold TrAt at hx
  obtain ⟨r',te,er,hr,ht⟩:=hx
  cases er
  have ek:wkT (.row (.say (lfT w'))) ar=[(ar,.s,w)]:=by unfold wkT;rw [e]
  rw [ek] at ct q
  refine ⟨_,SqT.of (s _ _ hr),_,rfl,by decide,fun p hp=>?_⟩
  have S1:=isV (o:=HO.tup [V.ref a,V.str (Str.ofString "say"),V.int w]) p hp
  have t1:upd H p (HO.tup [V.ref a,V.str (Str.ofString "say"),V.int w]) p=some (.tup [V.ref a,V.str (Str.ofString "say"),V.int w]):=zc
  generalize upd H p (HO.tup [V.ref a,V.str (Str.ofString "say"),V.int w])=H1 at *
  have y1:=S1 _ _ hy
  have T2:=wF (ys:=ys ++ [V.ref p]) y1
  have S2:=yg (o:=HO.lst (ys ++ [V.ref p])) (s.trans S1) hf
  have y2:upd H1 f (HO.lst (ys ++ [V.ref p])) f=some (.lst (ys ++ [V.ref p])):=zc
  have T12:=(tsS S1).trans T2
  refine ⟨_,y1,Nat.lt_of_le_of_lt (by simp at ct;lia:ys.length≤1000) (by decide),?_⟩
  generalize upd H1 f (HO.lst (ys ++ [V.ref p]))=H2 at *
  refine ⟨2,.inr ⟨_,SqT.of (S2 _ _ hr),rfl⟩,?_⟩
  rw [if_neg (by decide)]
  refine ⟨2,.inr ⟨_,SqT.of (S2 _ _ hr),rfl⟩,?_⟩
  rw [if_neg (by decide)]
  refine ⟨_,SqT.of (S2 _ _ hr),_,rfl,rfl,?_⟩
  rw [if_neg (by decide +kernel)]
  exact q f _ o5 o6 H2 S2 hf y2 (xO (vj T12 PF) (.cons ⟨p,a,rfl,T2 _ _ t1,hA.ts (tsS S2)⟩ .nil))
 | iff T A B =>
  have e:=ew T (.inr ⟨A,B,rfl⟩)
  unfold swT at sw
  obtain ⟨_,swA,swB⟩:=sw
  unfold TrAt at hx
  obtain ⟨r',te,la,lb,xs,zs,er,_,_,hr,ht,h1,TA,h2,TB⟩:=hx
  cases er
  have ek:wkT (.iff T A B) ar=[(ar,.i,w)] ++ yD A (ar ++ [(w,0)]) ++ yD B (ar ++ [(w,1)]):=by unfold wkT;rw [e];simp
  rw [ek] at ct q
  have ed:(Tr.iff T A B).deep=max A.deep B.deep + 1:=by rw [Tr.deep]
  rw [ed] at dp ll
  simp only [List.length_append,List.length_cons,List.length_nil] at ct
  refine ⟨_,SqT.of (s _ _ hr),_,rfl,by decide,fun p hp=>?_⟩
  have S1:=isV (o:=HO.tup [V.ref a,V.str (Str.ofString "if"),V.int w]) p hp
  have t1:upd H p (HO.tup [V.ref a,V.str (Str.ofString "if"),V.int w]) p=some (.tup [V.ref a,V.str (Str.ofString "if"),V.int w]):=zc
  generalize upd H p (HO.tup [V.ref a,V.str (Str.ofString "if"),V.int w])=H1 at *
  have y1:=S1 _ _ hy
  have T2:=wF (ys:=ys ++ [V.ref p]) y1
  have S2:=yg (o:=HO.lst (ys ++ [V.ref p])) (s.trans S1) hf
  have y2:upd H1 f (HO.lst (ys ++ [V.ref p])) f=some (.lst (ys ++ [V.ref p])):=zc
  have T12:=(tsS S1).trans T2
  refine ⟨_,y1,Nat.lt_of_le_of_lt (by lia:ys.length≤1000) (by decide),?_⟩
  generalize upd H1 f (HO.lst (ys ++ [V.ref p]))=H2 at *
  have PF2:Paired (Ye H2) (ys ++ [V.ref p]) (fs ++ [(ar,.i,w)]):=xO (vj T12 PF) (.cons ⟨p,a,rfl,T2 _ _ t1,hA.ts (tsS S2)⟩ .nil)
  refine ⟨4,.inr ⟨_,SqT.of (S2 _ _ hr),rfl⟩,?_⟩
  rw [if_pos (by decide)]
  refine Qj (S2 _ _ hr) (S2 _ _ h1) (TrsAt.same S2 (jL A swA) TA) swA (by lia) (by lia) (hA.ts (tsS S2)) (by lia) fun f1 H3 s3 hF1=>?_
  have S3:=S2.trans s3
  refine Qi (S3 _ _ hr) (S3 _ _ h2) (TrsAt.same S3 (jL B swB) TB) swB (by lia) (by lia) (hA.ts (tsS S3)) (by lia) fun f2 H4 s4 hF2=>?_
  obtain ⟨v1,g1,P1⟩:=hF1
  obtain ⟨v2,g2,P2⟩:=hF2
  have l1:=Paired.length P1
  have l2:=Paired.length P2
  have S34:=s3.trans s4
  refine Qh (S34 _ _ (S2 _ _ hr)) rfl (S34 _ _ y2) (s4 _ _ g1) g2 (by simp;lia) fun p5 H5 s5 n5 h5=>?_
  have S5:=S2.trans (S34.trans s5)
  refine q p5 _ _ _ H5 S5 (xb (S2.trans S34) n5) h5 ?_
  have e5:fs ++ ([(ar,Kd.i,w)] ++ yD A (ar ++ [(w,0)]) ++ yD B (ar ++ [(w,1)]))=fs ++ [(ar,Kd.i,w)] ++ yD A (ar ++ [(w,0)]) ++ yD B (ar ++ [(w,1)]):=by simp
  rw [e5]
  exact xO (xO (vj (tsS (S34.trans s5)) PF2) (vj (tsS (s4.trans s5)) P1)) (vj (tsS s5) P2)
theorem Ql {n:Nat} {D:j4} {l a f r te:Addr} {o4 o5 o6:Option V} {w:Int} {xs:List V} (F:KF K) (hr:H r=some (.tup xs)) (lx:2≤xs.length) (h1:atI xs 1=some (.ref te)) (ht:H te=some (.tup [.int w])) (q:xo K t n D [some (.ref l),some (.ref a),some (.ref f),some (.ref r),some (.int w),o5,o6] H) :
  wm K t n D [some (.ref l),some (.ref a),some (.ref f),some (.ref r),o4,o5,o6] H:=by
 simp only [wm,wJ,xV,L2.start,zr,yu,zV,zn,zJ,zm,zA,zU,zq,tOp,ze,tC,yh,zd,zj,zw,tOr,vI,zo,tB,tCB,tBM,tyV,zI,xQ,wJ,zV,rEq,rNe,rI0,Xz,yB,vO,y0,List.map,List.replicate,List.length,List.append,jqa,jqb,jqc,jqd,jqe,jqf,jqg,jqh,jqi,jqj,jqk,jql,jqm,jqn,and_true,true_and,and_assoc,jqo,jqp,jqq,Nat.reduceSub,Nat.reduceAdd,jqr,jqs,jqt,Int.reduceToNat,Int.reducePow,Int.reduceNeg,Int.reduceMul,Int.reduceAdd,if_true,ite_true,jqu,ite_false,if_false]
 refine ⟨_,.tup hr,true,vF "tuple",?_⟩
 rw [if_neg (by decide)]
 refine ⟨xs.length,.inr ⟨_,SqT.of hr,rfl⟩,?_⟩
 rw [if_neg (by lia)]
 refine ⟨_,SqT.of hr,_,h1,_,.tup ht,true,vF "tuple",?_⟩
 rw [if_neg (by decide)]
 refine ⟨_,SqT.of hr,_,h1,1,.inr ⟨_,SqT.of ht,rfl⟩,?_⟩
 rw [if_neg (fun z=>z rfl)]
 refine ⟨_,SqT.of hr,_,h1,_,rfl,_,SqT.of ht,_,rfl,_,.int w,true,vF "int",?_⟩
 rw [if_neg (by decide)]
 refine ⟨_,.int w,false,F.i_b,?_⟩
 rw [if_neg (by decide)]
 exact q
theorem qZ {n:Nat} {l:Addr} {xs:List V} {D:Trs} {a:Addr} {ar:List (Int × Int)} (F:KF K) (h1:H l=some (.lst xs)) (h2:TrsAt ki H xs D) (h3:wB D) (h4:D.deep < n + 1) (h5:(yD D ar).length≤200) (h6:ArAt H a ar) (h7:ar.length + D.deep≤200) (q:∀ p H',Same H H'→Y7 H' p (yD D ar)→Q (.ref p) H') :
  va K t n { nx:=fun _ H'=>Q .non H',rt:=Q } (L2.start ["rows","around","found","row","worth","firsts","others"] [.ref l,.ref a]) H:=by
 simp only [va,vE,vD,wJ,xV,L2.start,zr,yu,zV,zn,zJ,zm,zA,zU,zq,tOp,ze,tC,yi,yh,zd,zj,ww,zw,tOr,vI,zo,tB,tCB,tBM,tyV,zI,xQ,v5,wJ,zV,rEq,rNe,rI0,Xz,yB,vO,y0,List.map,List.replicate,List.length,List.append,jqa,jqb,jqc,jqd,jqe,jqf,jqg,jqh,jqi,jqj,jqk,jql,jqm,jqn,and_true,true_and,and_assoc,jqo,jqp,jqq,Nat.reduceSub,Nat.reduceAdd,jqr,jqs,jqt,Int.reduceToNat,Int.reducePow,Int.reduceNeg,Int.reduceMul,Int.reduceAdd,if_true,ite_true,jqu,ite_false,if_false]
 refine ⟨_,.lst h1,true,vF "list",?_⟩
 rw [if_neg (by decide)]
 refine ⟨Nat.zero_le _,fun f hf=>?_⟩
 have s1:=isV (o:=HO.lst []) f hf
 refine ⟨⟨_,SqL.of (s1 _ _ h1)⟩,YC xs (wlI l a xs D ar H) ⟨f,[],[],D,⟨_,_,_,_,rfl⟩,s1,hf,zc,.nil,h2,h3,Nat.le_refl _,rfl⟩ (fun i σ H' ⟨_,_,_,_,_,s,_⟩=>SqL.of (s _ _ h1)) ?_ ?_⟩
 ·rintro i v σ H' hv ⟨f,ys,fs,D2,⟨o3,o4,o5,o6,rfl⟩,s,hf,hy,PF,T2,sw,dp,hw⟩
  have hi:=(List.getElem?_eq_some_iff.mp hv).1
  have dr:xs.drop i=v :: xs.drop (i + 1):=by
   have:=List.drop_eq_getElem_cons hi
   rw [(List.getElem?_eq_some_iff.mp hv).2] at this
   exact this
  rw [dr] at T2
  cases D2 with
  | nil=>unfold TrsAt at T2;cases T2
  | cons x rs =>
   unfold TrsAt at T2
   obtain ⟨v',ws,e,hx,hrest⟩:=T2
   cases e
   unfold wB at sw
   have ed:(Trs.cons x rs).deep=max x.deep rs.deep:=by rw [Trs.deep]
   rw [ed] at dp
   have ew:yD (.cons x rs) ar=wkT x ar ++ yD rs ar:=by rw [yD]
   rw [ew] at hw
   have hl:fs.length + (wkT x ar).length≤200:=by rw [hw] at h5;simp at h5;lia
   obtain ⟨r,te,w,zs,rfl,hr,lz,hz,ht,eT⟩:∃ r te w zs,v=.ref r∧H r=some (.tup zs)∧2≤zs.length∧atI zs 1=some (.ref te)∧H te=some (.tup [.int w])∧∀ T,(x=.row (.say T)∨∃ A B,x=.iff T A B)→wT T=w:=by
    cases x with
    | row h =>
     have sw1:=sw.1
     unfold swT at sw1
     obtain ⟨w,rfl,hq⟩:=sw1
     unfold TrAt at hx
     obtain ⟨r,te,er,hr,ht⟩:=hx
     rw [WP hq] at ht
     exact ⟨r,te,w,_,er,hr,(by decide:2≤2),rfl,ht,fun T hT=>by
      rcases hT with e | ⟨A,B,e⟩
      ·cases e;exact X9 hq
      ·cases e⟩
    | iff T A B =>
     have sw1:=sw.1
     unfold swT at sw1
     obtain ⟨⟨w,rfl,hq⟩,_⟩:=sw1
     unfold TrAt at hx
     obtain ⟨r,te,la,lb,_,_,er,_,_,hr,ht,_⟩:=hx
     rw [WP hq] at ht
     exact ⟨r,te,w,_,er,hr,(by decide:2≤4),rfl,ht,fun T hT=>by
      rcases hT with e | ⟨A,B,e⟩
      ·cases e
      ·cases e;exact X9 hq⟩
   refine Ql F (s _ _ hr) lz hz (s _ _ ht) (Qk rfl hx sw.1 (by lia) eT hl h6 (by lia) s hf hy PF fun f' ys' p5 p6 H2 S2 hf2 hy2 P2=>?_)
   exact ⟨f',ys',_,rs,⟨_,_,_,_,rfl⟩,S2,hf2,hy2,P2,hrest,sw.2,by lia,by rw [hw,List.append_assoc]⟩
 ·rintro σ H' ⟨f,ys,fs,D2,⟨o3,o4,o5,o6,rfl⟩,s,hf,hy,PF,T2,sw,dp,hw⟩
  rw [List.drop_of_length_le (Nat.le_refl _)] at T2
  cases D2 with
  | nil =>
   have ew:yD .nil ar=[]:=by rw [yD]
   rw [ew,List.append_nil] at hw
   exact ⟨_,rfl,q f H' s ⟨ys,hy,by rw [hw];exact PF⟩⟩
  | cons x rs =>
   unfold TrsAt at T2
   obtain ⟨_,_,e,_⟩:=T2
   cases e
theorem Wa (cs:List Bool) (k:Nat):vB cs k []=if cs=[] then -1 else (k:Int):=by cases cs <;> rfl
theorem Qm (D:Trs) (fs:List Fm) (h:Kw):match stp D fs (wt h) with | some z=>vb h.1 (fs.map Fm.c).reverse=true∧jv h.1 (fs.map Fm.c).reverse=(z.2.map Fm.c).reverse | none=>vb h.1 (fs.map Fm.c).reverse=false:=by
 obtain ⟨k,w⟩:=h
 cases k with
 | i =>
  show match (if fs.length < 5 then some (Trs.nil,(⟨lfT w,false,.nil,D⟩:Fm) :: fs) else none) with | some z=>_ | none=>_
  have e:vb .i (fs.map Fm.c).reverse=decide (fs.length < 5):=by simp [vb]
  by_cases c:fs.length < 5
  ·rw [if_pos c]
   exact ⟨by rw [e];exact decide_eq_true c,by simp [jv]⟩
  ·rw [if_neg c]
   show vb .i _=false
   rw [e]
   exact decide_eq_false c
 | s=>exact ⟨rfl,rfl⟩
 | e =>
  cases fs with
  | nil=>rfl
  | cons f r =>
   show match (if f.c=false then some (Trs.nil,(⟨f.T,true,D,f.up⟩:Fm) :: r) else none) with | some z=>_ | none=>_
   have e:vb .e ((f :: r).map Fm.c).reverse=!f.c:=by simp [vb]
   cases c:f.c with
   | false=>exact ⟨by rw [e,c];rfl,by simp [jv]⟩
   | true =>
    show vb .e _=false
    rw [e,c];rfl
 | n =>
  cases fs with
  | nil=>rfl
  | cons f r =>
   have e:((f :: r).map Fm.c).reverse=(r.map Fm.c).reverse ++ [f.c]:=by simp
   refine ⟨?_,?_⟩
   ·show vb .n _=true
    rw [e]
    cases (r.map Fm.c).reverse <;> rfl
   ·show jv .n _=_
    rw [e]
    simp [jv]
theorem Kh:∀ (hs:List Kw) (D:Trs) (fs:List Fm) (k:Nat),k≤40→match rdE D fs k (hs.map wt) with | .ok _=>vB (fs.map Fm.c).reverse k hs=-1 | .error j=>vB (fs.map Fm.c).reverse k hs=(j:Int)
 | [],D,fs,k,hk=>by
  show match (if fs.length=0 then Except.ok D else Except.error k) with | .ok _=>_ | .error j=>_
  by_cases c:fs.length=0
  ·rw [if_pos c]
   show vB _ k []=-1
   rw [Wa,if_pos (by rw [List.length_eq_zero_iff.mp c];rfl)]
  ·rw [if_neg c]
   show vB _ k []=(k:Int)
   rw [Wa,if_neg (fun z=>c (by have:=congrArg List.length z;simpa using this))]
 | h :: r,D,fs,k,hk=>by
  have eb:vB (fs.map Fm.c).reverse k (h :: r)=if k=40∨vb h.1 (fs.map Fm.c).reverse=false then (k:Int) else vB (jv h.1 (fs.map Fm.c).reverse) (k + 1) r:=rfl
  have er:rdE D fs k ((h :: r).map wt)=if 40≤k then .error k else match stp D fs (wt h) with | some z=>rdE z.1 z.2 (k + 1) (r.map wt) | none=>.error k:=rfl
  rw [eb,er]
  by_cases c:40≤k
  ·rw [if_pos c,if_pos (.inl (by lia))]
  ·rw [if_neg c]
   have m:=Qm D fs h
   cases e:stp D fs (wt h) with
   | none =>
    rw [e] at m
    rw [if_pos (.inr m)]
   | some z =>
    rw [e] at m
    rw [if_neg (fun y=>y.elim (fun y=>c (by lia)) (fun y=>by rw [m.1] at y;cases y)),m.2]
    exact Kh r z.1 z.2 (k + 1) (by lia)
def vc:List Fm→List (Int × Int)
 | []=>[]
 | f :: r=>vc r ++ [(wT f.T,if f.c=true then 1 else 0)]
def Xl:List Fm→List Fd
 | []=>[]
 | f :: r=>Xl r ++ yD f.up (vc r) ++ [(vc r,.i,wT f.T)] ++ (if f.c=true then yD f.a (vc r ++ [(wT f.T,0)]) else [])
theorem Xm (x:Tr) (r:Trs) (ar:List (Int × Int)):yD (.cons x r) ar=wkT x ar ++ yD r ar:=by rw [yD]
theorem Xn (x:Tr) (ar:List (Int × Int)):∀ (r:Trs),yD (r.snoc x) ar=yD r ar ++ wkT x ar
 | .nil=>by
  show yD (.cons x .nil) ar=_
  have n0:yD .nil ar=[]:=by rw [yD]
  rw [Xm,n0,List.append_nil,List.nil_append]
 | .cons y r=>by
  show yD (.cons y (r.snoc x)) ar=_
  rw [Xm,Xn x ar r,Xm,List.append_assoc]
theorem Xo {x:Tr} (hx:swT x):∀ (r:Trs),wB r→wB (r.snoc x)
 | .nil,h=>by
  show wB (.cons x .nil)
  unfold wB
  exact ⟨hx,h⟩
 | .cons y r,h=>by
  show wB (.cons y (r.snoc x))
  unfold wB at h ⊢
  exact ⟨h.1,Xo hx r h.2⟩
def swF:List Fm→Prop
 | []=>True
 | f :: r=>(∃ w,f.T=lfT w∧inW w=true)∧wB f.a∧wB f.up∧swF r
theorem ZY:wB .nil:=by unfold wB;trivial
theorem zad {D D2:Trs} {fs fs2:List Fm} {h:Kw} (hw:inW h.2=true) (sD:wB D) (sF:swF fs) (e:stp D fs (wt h)=some (D2,fs2)):wB D2∧swF fs2∧Xl fs2 ++ yD D2 (vc fs2)=Xl fs ++ yD D (vc fs) ++ XY h (vc fs)∧vc fs2=Y8 h (vc fs)∧(h.1=.e→vc fs≠[]):=by
 obtain ⟨k,w⟩:=h
 have n0:∀ ar,yD .nil ar=[]:=fun ar=>by rw [yD]
 cases k with
 | i =>
  have e:(if fs.length < 5 then some (Trs.nil,(⟨lfT w,false,.nil,D⟩:Fm) :: fs) else none)=some (D2,fs2):=e
  split at e
  ·cases e
   refine ⟨ZY,⟨⟨w,rfl,hw⟩,ZY,sD,sF⟩,?_,?_,fun z=>nomatch z⟩
   ·rw [n0];simp [Xl,XY,X9 hw]
   ·simp [vc,Y8,X9 hw]
  ·cases e
 | s =>
  cases e
  refine ⟨Xo (by unfold swT;exact ⟨w,rfl,hw⟩) D sD,sF,?_,rfl,fun z=>nomatch z⟩
  rw [Xn,← List.append_assoc]
  congr 1
  show wkT (.row (.say (lfT w))) _=_
  rw [wkT,X9 hw]
  rfl
 | e =>
  cases fs with
  | nil=>cases e
  | cons f r =>
   have e:(if f.c=false then some (Trs.nil,(⟨f.T,true,D,f.up⟩:Fm) :: r) else none)=some (D2,fs2):=e
   split at e
   ·rename_i fc
    cases e
    refine ⟨ZY,⟨sF.1,sD,sF.2.2.1,sF.2.2.2⟩,?_,?_,fun _=>by simp [vc]⟩
    ·rw [n0];simp [Xl,XY,vc,fc]
    ·simp [vc,Y8]
   ·cases e
 | n =>
  cases fs with
  | nil=>cases e
  | cons f r =>
   cases e
   refine ⟨Xo ?_ _ sF.2.2.1,sF.2.2.2,?_,by simp [vc,Y8],fun z=>nomatch z⟩
   ·unfold swT
    refine ⟨sF.1,?_,?_⟩
    ·by_cases c:f.c=true
     ·rw [if_pos c];exact sF.2.1
     ·rw [if_neg c];exact sD
    ·by_cases c:f.c=true
     ·rw [if_pos c];exact sD
     ·rw [if_neg c];exact ZY
   ·rw [Xn,wkT]
    by_cases c:f.c=true
    ·simp [Xl,XY,vc,c]
    ·simp [Xl,XY,vc,c,n0]
theorem Ki:∀ (hs:List Kw) {D D':Trs} {fs:List Fm} {k n:Nat},(∀ h∈hs,inW h.2=true)→gdZ n D fs→wB D→swF fs→rdE D fs k (hs.map wt)=.ok D'→wB D'∧D'.deep≤5∧yD D' []=Xl fs ++ yD D (vc fs) ++ duF (vc fs) hs∧VJ (vc fs) hs
 | [],D,D',fs,k,n,hw,g,sD,sF,e=>by
  have e:(if fs.length=0 then Except.ok D else Except.error k)=.ok D':=e
  split at e
  ·rename_i c
   cases e
   obtain rfl:=List.length_eq_zero_iff.mp c
   refine ⟨sD,?_,?_,trivial⟩
   ·have:=(gdZ.top [] g).2.2
    simpa using this
   ·simp [Xl,vc,duF]
  ·cases e
 | h :: r,D,D',fs,k,n,hw,g,sD,sF,e=>by
  have e:(if 40≤k then .error k else match stp D fs (wt h) with | some z=>rdE z.1 z.2 (k + 1) (r.map wt) | none=>.error k)=.ok D':=e
  split at e
  ·cases e
  ·cases st:stp D fs (wt h) with
   | none=>rw [st] at e;cases e
   | some z =>
    obtain ⟨D2,fs2⟩:=z
    rw [st] at e
    have w0:=hw h (List.mem_cons_self ..)
    obtain ⟨a1,a2,a3,a4,a5⟩:=zad w0 sD sF st
    obtain ⟨b1,b2,b3,b4⟩:=Ki r (fun x hx=>hw x (List.mem_cons_of_mem _ hx)) (ZV g (Vg w0) st) a1 a2 e
    refine ⟨b1,b2,?_,⟨a5,by rw [← a4];exact b4⟩⟩
    rw [b3,a3,a4]
    simp [duF]
theorem Kj:∀ (hs:List Kw) (ar:List (Int × Int)),(duF ar hs).length≤hs.length
 | [],_=>Nat.le_refl _
 | h :: r,ar=>by
  have:=Kj r (Y8 h ar)
  have o:(XY h ar).length≤1:=by obtain ⟨k,w⟩:=h;cases k <;> simp [XY]
  simp [duF]
  lia
theorem ndF {P:Str→Option Value} (T:Txt K P t):NdF K t:=⟨T.es_NoDealing,T.nx_NoDealing,T.e_NoDealing_NoDealing⟩
theorem Kk {hs:List Kw} (hw:∀ h∈hs,inW h.2=true):∀ h∈hs.map wt,wZ h:=fun h hh=>by
 obtain ⟨x,hx,rfl⟩:=List.mem_map.mp hh
 exact Vg (hw x hx)
theorem VR {o0 o1 o2 o3 o4 o5 o6 o7 o10 o11:Option V} {x:Str} {hs:List Kw} {j:Nat} (N:NdF K t) (F:KF K) (hx:x=Str.join Yd ((hs.map wt).map Hd.line)) (lx:x.length≤100000) (lt:hs.length≤150) (hw:∀ h∈hs,inW h.2=true) (er:rdE .nil [] 0 (hs.map wt)=.error j) (q:∀ H',Q (.bl true) H') :
  qr K t { nx:=fun _ H'=>Q .non H',rt:=Q } [o0,o1,o2,o3,o4,o5,o6,o7,some (.str x),some (.int j),o10,o11] H:=by
 simp only [qr,kU,qO,qP,vi,vh,L2.start,XG,zn,zJ,zm,zA,tOp,ze,tC,zd,zj,wP,jY,tCB,rEq,vO,y0,List.map,List.replicate,List.length,List.append,jqa,jqb,jqc,jqd,jqe,jqf,jqg,jqh,jqi,jqj,jqk,jql,jqm,jqn,and_true,true_and,and_assoc,jqo,jqp,jqq,Nat.reduceSub,Nat.reduceAdd,jqr,jqs,jqt,Int.reduceToNat,Int.reducePow,Int.reduceNeg,Int.reduceMul,Int.reduceAdd,if_true,ite_true,jqu,ite_false,if_false]
 refine ⟨hs.map wt,hx,lx,by rw [List.length_map];exact lt,Kk hw,(fun D e=>by rw [er] at e;cases e),fun k e=>?_⟩
 rw [er] at e
 cases e
 intro d H2 s2 hd
 refine ⟨_,rfl,_,rfl,N.ex,fun e he=>⟨_,_,zc,N.es,N.nx,_,(by rw [zk (zx hd he)];exact hd),_,List.lookup_cons_self,_,.int _,true,vF "int",?_⟩⟩
 rw [if_pos rfl]
 refine ⟨_,.int _,false,F.i_b,?_⟩
 rw [if_pos rfl]
 refine ⟨rfl,?_⟩
 rw [decide_eq_true rfl]
 exact q _
def prD (p:Int × Int):PyData:=.tuple [.int p.1,.int p.2]
def fdD (f:Fd):PyData:=.tuple [.tuple (f.1.map prD),.str (kS f.2.1),.int f.2.2]
theorem Kl:∀ {vs:List V} {ar:List (Int × Int)},Paired (Y6 H) vs ar→DatAll K H vs (ar.map prD)
 | [],[],.nil=>.nil
 | _ :: _,_ :: _,.cons ⟨r,e,z⟩ h=>by subst e;exact .cons (.tup (SqT.of z) (.cons (.int _) (.cons (.int _) .nil))) (Kl h)
theorem Km:∀ {vs:List V} {fs:List Fd},Paired (Ye H) vs fs→DatAll K H vs (fs.map fdD)
 | [],[],.nil=>.nil
 | _ :: _,_ :: _,.cons ⟨r,a,e,z,avs,ha,pa⟩ h=>by subst e;exact .cons (.tup (SqT.of z) (.cons (.tup (SqT.of ha) (Kl pa)) (.cons (.str _) (.cons (.int _) .nil)))) (Km h)
theorem Kn {p:Addr} {fs:List Fd} (h:Y7 H p fs):Dat K H (.ref p) (.list (fs.map fdD)):=by
 obtain ⟨ys,e,P⟩:=h
 exact .lst (SqL.of e) (Km P)
theorem Wb:∀ (ar:List (Int × Int)),yn (ar.map prD)=true
 | []=>by simp [yn]
 | p :: r=>by rw [List.map_cons,yn,Wb r];simp [prD,zN,yn]
theorem Vh:∀ (ar:List (Int × Int)),PyData.depthAll (ar.map prD)≤1
 | []=>by simp [PyData.depthAll]
 | p :: r=>by
  have:=Vh r
  rw [List.map_cons,PyData.depthAll]
  simp [prD,PyData.depth,PyData.depthAll]
  lia
theorem zaE (k:Kd):PyData.strOk (kS k)=true:=by cases k <;> decide +kernel
theorem YK:∀ (fs:List Fd),yn (fs.map fdD)=true
 | []=>by simp [yn]
 | f :: r=>by
  have:=zaE f.2.1
  rw [List.map_cons,yn,YK r]
  simp [fdD,zN,yn,Wb,this]
theorem Vi:∀ (fs:List Fd),PyData.depthAll (fs.map fdD)≤3
 | []=>by simp [PyData.depthAll]
 | f :: r=>by
  have h1:=Vi r
  have h2:=Vh f.1
  rw [List.map_cons,PyData.depthAll]
  simp only [fdD,PyData.depth,PyData.depthAll]
  lia
theorem Qn {H H':Hp} {p:Addr} {fs:List Fd} (h:Y7 H p fs) (s:Same H H'):Y7 H' p fs:=by
 obtain ⟨ys,e,P⟩:=h
 exact ⟨ys,s _ _ e,vj (tsS s) P⟩
theorem Xp {H H':Hp} {p:Addr} {hs:List Kw} (h:jW H p hs) (s:Same H H'):jW H' p hs:=by
 obtain ⟨ys,e,P,w⟩:=h
 exact ⟨ys,s _ _ e,xN s P,w⟩
theorem VS {o0 o1 o2 o3 o4 o6 o7 o10 o11:Option V} {l:Addr} {x:Str} {hs:List Kw} (N:NdF K t) (F:KF K) (hl:jW H l hs) (hx:x=Str.join Yd ((hs.map wt).map Hd.line)) (lx:x.length≤100000) (lt:hs.length≤150) (q:∀ H',Q (.bl true) H') :
  qt K t { nx:=fun _ H'=>Q .non H',rt:=Q } [o0,o1,o2,o3,o4,some (.ref l),o6,o7,some (.str x),some (.int (vB [] 0 hs)),o10,o11] H:=by
 simp only [qt,kU,yf,jy,WC,qO,qP,vi,vh,L2.start,XG,zn,zJ,zm,zA,zq,tOp,ze,tC,yh,zd,zj,zw,zo,wP,jY,tCB,zI,rEq,rI0,vO,y0,List.map,List.replicate,List.length,List.append,jqa,jqb,jqc,jqd,jqe,jqf,jqg,jqh,jqi,jqj,jqk,jql,jqm,jqn,and_true,true_and,and_assoc,jqo,jqp,jqq,Nat.reduceSub,Nat.reduceAdd,jqr,jqs,jqt,Int.reduceToNat,Int.reducePow,Int.reduceNeg,Int.reduceMul,Int.reduceAdd,if_true,ite_true,jqu,ite_false,if_false]
 obtain ⟨xs,hx0,P,hw⟩:=id hl
 have br:=Kh hs .nil [] 0 (by decide)
 cases er:rdE .nil [] 0 (hs.map wt) with
 | error j =>
  rw [er] at br
  have br:vB [] 0 hs=(j:Int):=br
  rw [br,if_neg (by lia)]
  exact VR N F hx lx lt hw er q
 | ok D =>
  rw [er] at br
  have br:vB [] 0 hs=-1:=br
  rw [br,if_pos (by decide)]
  obtain ⟨w1,w2,w3,w4⟩:=Ki (D:=.nil) (fs:=[]) (k:=0) (n:=0) hs hw ⟨by unfold Trs.ok;trivial,Nat.le_refl _,by rw [Trs.deep];exact Nat.zero_le _⟩ ZY trivial er
  have w3:yD D []=duF [] hs:=by rw [w3,show yD .nil (vc [])=[] by rw [yD]];rfl
  have dl:=Kj hs []
  refine ⟨hs.map wt,hx,lx,by rw [List.length_map];exact lt,Kk hw,fun D' e=>?_,fun k e=>by rw [er] at e;cases e⟩
  rw [er] at e
  cases e
  intro H2 l2 ys s2 h2 T2
  refine ⟨Nat.zero_le _,fun p hp=>?_⟩
  have s3:=isV (o:=HO.tup []) p hp
  refine ⟨ys,s3 _ _ h2,D,TrsAt.same s3 (jL D w1) T2,w1,by lia,[],by rw [w3];lia,⟨[],zc,.nil⟩,by simp;lia,fun p1 H4 s4 hF=>?_⟩
  refine ⟨hs,Xp hl (s2.trans (s3.trans s4)),lt,w4,fun p2 H5 s5 hG=>?_⟩
  rw [w3] at hF
  have p1':zN (.list ((duF [] hs).map fdD))=true:=by rw [zN];exact YK _
  have d1':(PyData.list ((duF [] hs).map fdD)).depth≤64:=by rw [PyData.depth];have:=Vi (duF [] hs);lia
  refine ⟨_,Kn (Qn hF s5),_,Kn hG,p1',p1',d1',d1',fun b hb=>?_⟩
  rw [hb.mpr rfl]
  exact q _
theorem Ko {n:Nat}:∀ {ls:List Str},(∀ w∈ls,w.length≤n)→(ls.map (·.length)).sum≤ls.length * n
 | [],_=>by simp
 | x :: r,h=>by
  have h1:=h x List.mem_cons_self
  have h2:=Ko (ls:=r) fun w hw=>h w (List.mem_cons_of_mem _ hw)
  rw [List.map_cons,List.sum_cons,List.length_cons,Nat.add_mul];lia
theorem zae {h:Kw} (hw:inW h.2=true):(wt h).line.length≤82:=by
 obtain ⟨k,w⟩:=h
 have ll:=(vR hw).2.2
 have two:∀ {x:Str},x.length≤40→(Str.join ⟨#[32]⟩ [x,yC w]).length≤82:=fun {x} hx=>jK 32 40 [x,yC w] fun z hz=>by
  simp only [List.mem_cons,List.not_mem_nil,or_false] at hz
  rcases hz with rfl | rfl
  ·exact hx
  ·exact ll
 have one:∀ {x:Str},x.length≤40→(Str.join ⟨#[32]⟩ [x]).length≤82:=fun {x} hx=>Nat.le_trans (jK 32 40 [x] fun z hz=>by rw [List.mem_singleton.mp hz];exact hx) (show 1 * 41≤82 by decide)
 cases k with
 | i=>exact two (x:="if") (by decide +kernel)
 | s=>exact two (x:="say") (by decide +kernel)
 | e=>exact one (x:="else") (by decide +kernel)
 | n=>exact one (x:="end") (by decide +kernel)
def lnR (hs:List Kw) (i:Nat) (v:V):Prop:=∃ h,hs[i]?=some h∧v=.str (wt h).line
theorem YL {o0 o1 o2 o3 o4 o6 o7:Option V} {l:Addr} {hs:List Kw} (N:NdF K t) (F:KF K) (hl:jW H l hs) (lt:hs.length≤150) (q:∀ H',Q (.bl true) H') :
  qu K t { nx:=fun _ H'=>Q .non H',rt:=Q } [o0,o1,o2,o3,o4,some (.ref l),o6,o7,none,none,none,none] H:=by
 simp only [qu,YI,jx,WC,qO,qP,vi,vh,L2.start,zV,XG,wK,zn,zJ,zm,zA,zq,tOp,ze,tC,yh,zd,zj,zw,zo,wP,jY,tIf,tCB,tBM,tyV,zI,jj,Z8,ZC,v5,zV,rEq,rI0,rIn,Yz,vO,Ww,y0,List.map,List.replicate,List.length,List.append,jqa,jqb,jqc,jqd,jqe,jqf,jqg,jqh,jqi,jqj,jqk,jql,jqm,jqn,and_true,true_and,and_assoc,jqo,jqp,jqq,Nat.reduceSub,Nat.reduceAdd,jqr,jqs,jqt,Int.reduceToNat,Int.reducePow,Int.reduceNeg,Int.reduceMul,Int.reduceAdd,if_true,ite_true,jqu,ite_false,if_false]
 obtain ⟨xs,hx,P,hw⟩:=id hl
 have lx:=Paired.length P
 refine ⟨⟨_,SqL.of hx⟩,fun D hD=>?_⟩
 refine ZF (J:=Itl K l) hs.length (by lia) (fun τ=>∃ o,τ=[o]) (lnR hs) ⟨_,rfl⟩ (fun i H s h=>⟨xs,_,SqL.of (s _ _ hx),List.getElem?_eq_getElem (by rw [lx];exact h)⟩) (fun H s=>⟨xs,SqL.of (s _ _ hx),by rw [lx];exact Nat.le_refl _⟩) hD ?_ ?_
 ·rintro i v τ H3 H' ⟨o,rfl⟩ s hi ⟨rfl,hv⟩
  have xv:=hv _ (SqL.of (s _ _ hx))
  obtain ⟨r,xr,hr⟩:=Xi (h:=hs[i]) (xN s P) (List.getElem?_eq_getElem hi)
  rw [xv] at xr
  obtain rfl:=Option.some.inj xr
  have hwi:=hw hs[i] (List.getElem_mem hi)
  have gi:hs[i]?=some hs[i]:=List.getElem?_eq_getElem hi
  generalize hs[i]=h at *
  simp only [WC,qO,qP,vi,vh,L2.start,zV,XG,wK,zn,zJ,zm,zA,zq,tOp,ze,tC,yh,zd,zj,zw,zo,wP,jY,tIf,tCB,tBM,tyV,zI,jj,Z8,ZC,v5,zV,rEq,rI0,rIn,Yz,vO,Ww,y0,List.map,List.replicate,List.length,List.append,jqa,jqb,jqc,jqd,jqe,jqf,jqg,jqh,jqi,jqj,jqk,jql,jqm,jqn,and_true,true_and,and_assoc,jqo,jqp,jqq,Nat.reduceSub,Nat.reduceAdd,jqr,jqs,jqt,Int.reduceToNat,Int.reducePow,Int.reduceNeg,Int.reduceMul,Int.reduceAdd,if_true,ite_true,jqu,ite_false,if_false]
  refine ⟨_,SqT.of hr,_,rfl,by decide,fun p hp=>⟨_,.inr (SqT.of zc),rfl,rfl,?_⟩⟩
  have s4:=isV (o:=HO.tup [V.str (Str.ofString "else"),V.str (Str.ofString "end")]) p hp
  obtain ⟨k,w⟩:=h
  cases k with
  | i =>
   dsimp only at hr hwi ⊢
   rw [if_neg (by decide +kernel)]
   have ll:=(vR hwi).2.2
   have e1:(kS .i ++ Str.ofString " ").length≤10:=by decide +kernel
   refine ⟨_,SqT.of (s4 _ _ hr),_,rfl,_,rfl,by decide +kernel,_,SqT.of (s4 _ _ hr),_,rfl,_,rfl,Xb hwi,zH (by show _ + (yC w).length≤_;lia),⟨_,rfl⟩,⟨_,gi,?_⟩,s4⟩
   show V.str (kS .i ++ Str.ofString " " ++ yC w)=V.str (Str.join Qa [kS .i,yC w])
   rw [J8]
   rfl
  | s =>
   dsimp only at hr hwi ⊢
   rw [if_neg (by decide +kernel)]
   have ll:=(vR hwi).2.2
   have e1:(kS .s ++ Str.ofString " ").length≤10:=by decide +kernel
   refine ⟨_,SqT.of (s4 _ _ hr),_,rfl,_,rfl,by decide +kernel,_,SqT.of (s4 _ _ hr),_,rfl,_,rfl,Xb hwi,zH (by show _ + (yC w).length≤_;lia),⟨_,rfl⟩,⟨_,gi,?_⟩,s4⟩
   show V.str (kS .s ++ Str.ofString " " ++ yC w)=V.str (Str.join Qa [kS .s,yC w])
   rw [J8]
   rfl
  | e =>
   dsimp only at hr ⊢
   rw [if_pos (by decide +kernel)]
   exact ⟨_,SqT.of (s4 _ _ hr),_,rfl,⟨_,rfl⟩,⟨_,gi,rfl⟩,s4⟩
  | n =>
   dsimp only at hr ⊢
   rw [if_pos (by decide +kernel)]
   exact ⟨_,SqT.of (s4 _ _ hr),_,rfl,⟨_,rfl⟩,⟨_,gi,rfl⟩,s4⟩
 ·intro ys H' hly hv s hq
  have ey:ys=(((hs.map wt).map Hd.line)).map V.str:=by
   refine List.ext_getElem? fun i=>?_
   rw [List.getElem?_map,List.getElem?_map,List.getElem?_map]
   by_cases hi:i < hs.length
   ·obtain ⟨h,gh,e⟩:=hv i ys[i] (List.getElem?_eq_getElem (by lia))
    rw [gh,List.getElem?_eq_getElem (by lia),e]
    rfl
   ·rw [List.getElem?_eq_none (by lia),List.getElem?_eq_none (by lia)]
    rfl
  subst ey
  have jl:=JR (Str.ofString "\n") ((hs.map wt).map Hd.line)
  have kl:∀ w∈(hs.map wt).map Hd.line,w.length≤82:=fun w hh=>by
   obtain ⟨g,hg,rfl⟩:=List.mem_map.mp hh
   obtain ⟨h,hz,rfl⟩:=List.mem_map.mp hg
   exact zae (hw h hz)
  have sl:=Ko kl
  have jn:=jK 10 82 _ kl
  have ln:((hs.map wt).map Hd.line).length=hs.length:=by rw [List.length_map,List.length_map]
  rw [ln] at sl jn
  refine ⟨_,SqL.of hq,zH ?_,hs,Xp hl s,lt,fun H2 s2=>?_⟩
  ·unfold Jt
   rw [Y3,show (Str.ofString "\n").length=1 by decide +kernel,ln];lia
  ·rw [jl,Qz]
   have jn:(Str.join Yd ((hs.map wt).map Hd.line)).length≤hs.length * (82 + 1):=jn
   exact VS N F (Xp hl (s.trans s2)) rfl (by lia) lt q
theorem ZZ {α:Type} (x:α):∀ (n:Nat),(List.replicate n [x]).flatten=List.replicate n x
 | 0=>rfl
 | n + 1=>by rw [List.replicate_succ,List.flatten_cons,ZZ x n,List.replicate_succ];rfl
theorem WQ {α:Type} {R:V→α→Prop} {v:V} {x:α} (h:R v x):∀ (n:Nat),Paired R (List.replicate n v) (List.replicate n x)
 | 0=>.nil
 | n + 1=>by rw [List.replicate_succ,List.replicate_succ];exact .cons h (WQ h n)
theorem k7 {o0 o3 o4 o2:Option V} {l:Addr} {hs:List Kw} {c:Int} {m:Nat} (N:NdF K t) (F:KF K) (hl:jW H l hs) (lt:hs.length≤63) (hm:m≤63) (q:∀ H',Q (.bl true) H') :
  ZQ K t { nx:=fun _ H'=>Q .non H',rt:=Q } [o0,some (.int c),o2,o3,o4,some (.ref l),some (.int m),none,none,none,none,none] H:=by
 simp only [ZQ,XZ,WC,wJ,JU,qO,qP,vi,vh,L2.start,KC,zV,XG,wK,zn,zJ,zm,zA,zq,tOp,ze,tC,yi,yh,zd,zj,zw,zo,wP,jY,tIf,tCB,tBM,tyV,zI,jj,Z8,ZC,v5,wJ,zV,rEq,rI,rI0,rIn,Yz,vO,Ww,y0,List.map,List.replicate,List.length,List.append,jqa,jqb,jqc,jqd,jqe,jqf,jqg,jqh,jqi,jqj,jqk,jql,jqm,jqn,and_true,true_and,and_assoc,jqo,jqp,jqq,Nat.reduceSub,Nat.reduceAdd,jqr,jqs,jqt,Int.reduceToNat,Int.reducePow,Int.reduceNeg,Int.reduceMul,Int.reduceAdd,if_true,ite_true,jqu,ite_false,if_false]
 obtain ⟨xs,hx,P,hw⟩:=hl
 have lx:=Paired.length P
 refine ⟨dB,by decide,?_⟩
 by_cases h:c / 2 % 3=1
 ·rw [if_pos h]
  refine ⟨dB,by decide,?_⟩
  have m1:(if (m:Int) - 1 + c / 6 % 3 > 0 then (m:Int) - 1 + c / 6 % 3 else 0)≤66:=by split <;> lia
  have m2:0≤(if (m:Int) - 1 + c / 6 % 3 > 0 then (m:Int) - 1 + c / 6 % 3 else 0):=by split <;> lia
  generalize (if (m:Int) - 1 + c / 6 % 3 > 0 then (m:Int) - 1 + c / 6 % 3 else 0)=M at *
  skip
  refine ⟨by decide,fun p hp=>⟨by decide,fun p1 hp1=>?_⟩⟩
  have s1:=isV (o:=HO.tup [V.str (Str.ofString "end"),V.int 0]) p hp
  have t1:upd H p (HO.tup [V.str (Str.ofString "end"),V.int 0]) p=some (.tup [V.str (Str.ofString "end"),V.int 0]):=zc
  generalize upd H p (HO.tup [V.str (Str.ofString "end"),V.int 0])=H1 at *
  have s2:=isV (o:=HO.lst [V.ref p]) p1 hp1
  have t2:upd H1 p1 (HO.lst [V.ref p]) p1=some (.lst [V.ref p]):=zc
  generalize upd H1 p1 (HO.lst [V.ref p])=H2 at *
  refine ⟨_,t2,by lia,by lia,zH (by simp only [List.length_cons,List.length_nil];lia),fun p2 hp2=>?_⟩
  rw [ZZ]
  have s3:=isV (o:=HO.lst (List.replicate M.toNat (V.ref p))) p2 hp2
  have t3:upd H2 p2 (HO.lst (List.replicate M.toNat (V.ref p))) p2=some (.lst (List.replicate M.toNat (V.ref p))):=zc
  generalize upd H2 p2 (HO.lst (List.replicate M.toNat (V.ref p)))=H3 at *
  have S3:=s1.trans (s2.trans s3)
  refine ⟨xs,S3 _ _ hx,_,t3,zH (by rw [List.length_replicate];lia),fun p3 hp3=>?_⟩
  have s4:=isV (o:=HO.lst (xs ++ List.replicate M.toNat (V.ref p))) p3 hp3
  refine YL N F (hs:=hs ++ List.replicate M.toNat (.n,0)) ⟨_,zc,xO (xN (S3.trans s4) P) (WQ ⟨p,rfl,s4 _ _ (s3 _ _ (s2 _ _ t1))⟩ _),fun h hh=>(List.mem_append.mp hh).elim (hw h) fun z=>by rw [(List.mem_replicate.mp z).2];decide⟩ (by rw [List.length_append,List.length_replicate];lia) q
 ·rw [if_neg h]
  obtain ⟨M,hM⟩:∃ M:Int,M=(m:Int):=⟨_,rfl⟩
  rw [← hM]
  skip
  refine ⟨by decide,fun p hp=>⟨by decide,fun p1 hp1=>?_⟩⟩
  have s1:=isV (o:=HO.tup [V.str (Str.ofString "end"),V.int 0]) p hp
  have t1:upd H p (HO.tup [V.str (Str.ofString "end"),V.int 0]) p=some (.tup [V.str (Str.ofString "end"),V.int 0]):=zc
  generalize upd H p (HO.tup [V.str (Str.ofString "end"),V.int 0])=H1 at *
  have s2:=isV (o:=HO.lst [V.ref p]) p1 hp1
  have t2:upd H1 p1 (HO.lst [V.ref p]) p1=some (.lst [V.ref p]):=zc
  generalize upd H1 p1 (HO.lst [V.ref p])=H2 at *
  refine ⟨_,t2,by lia,by lia,zH (by simp only [List.length_cons,List.length_nil];lia),fun p2 hp2=>?_⟩
  rw [ZZ]
  have s3:=isV (o:=HO.lst (List.replicate M.toNat (V.ref p))) p2 hp2
  have t3:upd H2 p2 (HO.lst (List.replicate M.toNat (V.ref p))) p2=some (.lst (List.replicate M.toNat (V.ref p))):=zc
  generalize upd H2 p2 (HO.lst (List.replicate M.toNat (V.ref p)))=H3 at *
  have S3:=s1.trans (s2.trans s3)
  refine ⟨xs,S3 _ _ hx,_,t3,zH (by rw [List.length_replicate];lia),fun p3 hp3=>?_⟩
  have s4:=isV (o:=HO.lst (xs ++ List.replicate M.toNat (V.ref p))) p3 hp3
  refine YL N F (hs:=hs ++ List.replicate M.toNat (.n,0)) ⟨_,zc,xO (xN (S3.trans s4) P) (WQ ⟨p,rfl,s4 _ _ (s3 _ _ (s2 _ _ t1))⟩ _),fun h hh=>(List.mem_append.mp hh).elim (hw h) fun z=>by rw [(List.mem_replicate.mp z).2];decide⟩ (by rw [List.length_append,List.length_replicate];lia) q
theorem Wc (ns:List Int) (lo hi:Option Int):∃ cs:List Int,j9 (ns.map V.int) lo hi=cs.map V.int∧cs.length≤ns.length:=by
 refine ⟨(ns.drop (HT.sIx ns.length 0 lo)).take (HT.sIx ns.length ns.length hi - HT.sIx ns.length 0 lo),?_,?_⟩
 ·unfold j9
  rw [List.map_take,List.map_drop,List.length_map]
 ·rw [List.length_take,List.length_drop];lia
theorem Qo {a:Addr} {ns:List Int} (N:NdF K t) (hS:SqL K H a (ns.map V.int)) (hn:ns.length≤63) (q:∀ H',Q (.bl true) H') :
  WM K t { nx:=fun _ H'=>Q .non H',rt:=Q } (L2.start ["script","cell","most","cells","spot","heads","left","many","line","bad","at","e"] [.ref a]) H:=by
 simp only [WM,X2,X1,X0,wA,vn,WC,wJ,JU,qO,qP,vi,vh,L2.start,KC,zV,XG,wK,zn,zJ,zm,qR,wR,qQ,zA,zq,tOp,tUn,ze,tC,yi,yh,zd,zj,zw,zo,wP,jY,tIf,tCB,tBM,tyV,tSl,xz,zI,jj,Z8,ZC,xQ,v5,wJ,zV,rEq,rI,rI0,rU,rIn,Zv,Yz,yB,vO,Ww,y0,List.map,List.replicate,List.length,List.append,jqa,jqb,jqc,jqd,jqe,jqf,jqg,jqh,jqi,jqj,jqk,jql,jqm,jqn,and_true,true_and,and_assoc,jqo,jqp,jqq,Nat.reduceSub,Nat.reduceAdd,jqr,jqs,jqt,Int.reduceToNat,Int.reducePow,Int.reduceNeg,Int.reduceMul,Int.reduceAdd,if_true,ite_true,jqu,ite_false,if_false]
 refine ⟨ns,0,rfl,hS,hn,fun c H1 s1=>⟨dB,by decide,?_⟩⟩
 by_cases h1:0 < c / 18 % 3
 ·rw [if_pos h1]
  refine ⟨dB,by decide,_,hS.mono s1,fun p hp=>?_⟩
  obtain ⟨cs,ec,lc⟩:=Wc ns (some 1) (some (1 + (35 + c / 54 % 4)))
  rw [ec]
  refine ⟨by decide,?_⟩
  by_cases h2:c % 2=1
  ·rw [if_pos h2]
   refine ⟨dB,cs.length,.inl ⟨_,SqL.of zc,(List.length_map ..).symm⟩,by lia,cs,zc,by lia,fun r l hs m H2 s2 hr hl lh lm=>?_⟩
   exact ⟨_,SqT.of hr,rfl,_,_,rfl,_,_,rfl,rfl,k7 N (kf K) hl lh lm q⟩
  ·rw [if_neg h2]
   refine ⟨cs,zc,by lia,fun r l hs m H2 s2 hr hl lh lm=>?_⟩
   exact ⟨_,SqT.of hr,rfl,_,_,rfl,_,_,rfl,rfl,k7 N (kf K) hl lh lm q⟩
 ·rw [if_neg h1]
  refine ⟨_,hS.mono s1,fun p hp=>?_⟩
  obtain ⟨cs,ec,lc⟩:=Wc ns (some 1) (some (1 + 80))
  have ec:j9 (List.map V.int ns) (some 1) (some 81)=List.map V.int cs:=ec
  rw [ec]
  refine ⟨by decide,?_⟩
  by_cases h2:c % 2=1
  ·rw [if_pos h2]
   refine ⟨dB,cs.length,.inl ⟨_,SqL.of zc,(List.length_map ..).symm⟩,by lia,cs,zc,by lia,fun r l hs m H2 s2 hr hl lh lm=>?_⟩
   exact ⟨_,SqT.of hr,rfl,_,_,rfl,_,_,rfl,rfl,k7 N (kf K) hl lh lm q⟩
  ·rw [if_neg h2]
   refine ⟨cs,zc,by lia,fun r l hs m H2 s2 hr hl lh lm=>?_⟩
   exact ⟨_,SqT.of hr,rfl,_,_,rfl,_,_,rfl,rfl,k7 N (kf K) hl lh lm q⟩
end
section
variable {P:Program} {w:World} {K:PySem.W.Frag} {mg:Str→Option Value} {base:Heap} {t:Adr}
theorem q8 (T:Txt K mg t):FnOk P w K mg base (CX1 P w) 1 t.a__law_cell_at t.d__law_cell_at ["script","k"] (wA K):=by
 refine T.f__law_cell_at.ok0 qV (fun vs H Q E h=>?_) (fun cdv A outer s H vs Q E hr h=>?_)
 ·obtain ⟨a,ns,k,rfl,_⟩:=h;rfl
 obtain ⟨a,ns,k,rfl,hS,hl,q⟩:=h
 exact ⟨wC K t,(zf (zK (zp Xs (pv 1) (zF z0 rfl T.b_len yM (zb (pv 0) zg)) (zu _)) (zh (zy (ya xg (pv 0) (pv 1) (fun _ _=>rfl))))
   zt)
  (zh (zy (zl (i:=0))))),qv hS hl q⟩
theorem jM (T:Txt K mg t):FnOk P w K mg base (CX1 P w) 1 t.a__law_may t.d__law_may ["kind","turned"] (y8):=by
 refine T.f__law_may.ok0 XV (fun vs H Q E h=>?_) (fun cdv A outer s H vs Q E hr h=>?_)
 ·obtain ⟨k,tl,cs,rfl,_⟩:=h;rfl
 obtain ⟨k,tl,cs,rfl,h1,h2,q⟩:=h
 exact ⟨jz K t,(zf (zK (zp yG (pv 0) (zE (x:="if")) (zu _)) (zh (zy (wH Xs (zF z0 rfl T.b_len yM (zb (pv 1) zg)) (zl (i:=5)) (zu _))))
   zt)
  (zf (zK (zp yG (pv 0) (zE (x:="else")) (zu _)) (zh (zy (Zl (wH (kN (XI hr)) (pv 1) (yq zg) (zu _)) (YN (VV (ya xg (pv 1) (ve xC (zl (i:=1))) (fun _ _=>rfl)))))))
    zt)
  (zf (zK (zp yG (pv 0) (zE (x:="end")) (zu _)) (zh (zy (wH (kN (XI hr)) (pv 1) (yq zg) (zu _))))
    zt)
  (zh (zy (kA (b:=true))))))),Xh h1 h2 q⟩
theorem jN (T:Txt K mg t):FnOk P w K mg base (CX1 P w) 1 t.a__law_behind t.d__law_behind ["kind","turned"] (yL):=by
 refine T.f__law_behind.ok0 ZO (fun vs H Q E h=>?_) (fun cdv A outer s H vs Q E hr h=>?_)
 ·obtain ⟨k,tl,cs,rfl,_⟩:=h;rfl
 obtain ⟨k,tl,cs,rfl,h1,h2,q⟩:=h
 exact ⟨w5 K t,(zf (zK (zp yG (pv 0) (zE (x:="if")) (zu _)) (zh (zy (zQ ZA (pv 1) (yq (zb (kA (b:=false)) zg)))))
   zt)
  (zf (zK (zp yG (pv 0) (zE (x:="else")) (zu _)) (zh (zy (zQ ZA (wS Zd (pv 1) kD (wI (ve xC (zl (i:=1))))) (yq (zb (kA (b:=true)) zg)))))
    zt)
  (zf (zK (zp yG (pv 0) (zE (x:="end")) (zu _)) (zh (zy (wS Zd (pv 1) kD (wI (ve xC (zl (i:=1)))))))
    zt)
  (zh (zy (pv 1)))))),qY h1 h2 q⟩
theorem Yh (T:Txt K mg t):FnOk P w K mg base (CX1 P w) 2 t.a__law_heads t.d__law_heads ["cells","spot"] (vn):=by
 refine T.f__law_heads.ok0 sc__law_heads (fun vs H Q E h=>?_) (fun cdv A outer s H vs Q E hr h=>?_)
 ·obtain ⟨p,spot,ns,rfl,_⟩:=h;rfl
 obtain ⟨p,spot,ns,rfl,h1,h2,q⟩:=h
 exact ⟨vo K t,(zf (zB (i:=2) sc__law_heads.nd rfl (Or.inl rfl) (yq zg))
  (zf (zB (i:=3) sc__law_heads.nd rfl (Or.inl rfl) (yq zg))
  (zf (qa PassesOwn.never rfl (Yk rfl T.b_range (zb (zF z0 rfl T.b_len yM (zb (pv 0) zg)) zg)) (xc (i:=4) sc__law_heads.nd rfl (Or.inl rfl)) (zf (zB (i:=5) sc__law_heads.nd rfl (Or.inl rfl) (ya xg (yq (zb (zE (x:="if")) (zb (zE (x:="say")) (zb (zE (x:="else")) (zb (zE (x:="end")) (zb (zE (x:="if")) (zb (zE (x:="say")) (zb (zE (x:="end")) zg)))))))) (zQ jh (ya xg (pv 0) (pv 4) (fun _ _=>rfl)) (zl (i:=7))) (fun _ _=>rfl)))
  (zh (zK (PW.pt (wO (yT (zO (FnOk.mono (jM T) (by decide)) hr rfl T.m__law_may T.f__law_may.kp T.b__law_may .nil zR (zb (pv 5) (zb (pv 3) zg)))) (wv (zp yG (pv 4) (pv 1) (zu _))))) (zf (zB (i:=6) sc__law_heads.nd rfl (Or.inl rfl) (zQ YR (zQ jh (zQ j6 (zQ vy (ya xg (pv 0) (pv 4) (fun _ _=>rfl)) (zl (i:=7))) (zQ Zn (zl (i:=10)) (zl (i:=30)))) (zQ j6 (zQ KJ (zl (i:=2)) (zQ Zn (zl (i:=10)) (zl (i:=30)))) (zl (i:=1)))) (zQ Zn (zl (i:=10)) (zl (i:=30)))))
  (zf (yt (vf PySem.F.plainAttrs_list PySem.F.slot_list_append PySem.F.type_list_append yI (pv 2) (zb (z8 (zb (pv 5) (zb (pv 6) zg))) zg)))
  (zh (zK (yT (zO (FnOk.mono (jM T) (by decide)) hr rfl T.m__law_may T.f__law_may.kp T.b__law_may .nil zR (zb (pv 5) (zb (pv 3) zg)))) (zh (zB (i:=3) sc__law_heads.nd rfl (Or.inl rfl) (zO (FnOk.mono (jN T) (by decide)) hr rfl T.m__law_behind T.f__law_behind.kp T.b__law_behind .nil zR (zb (pv 5) (zb (pv 3) zg)))))
    zt))))
    zt))))
  (zh (zy (z8 (zb (pv 2) (zb (zF z0 rfl T.b_len yM (zb (pv 3) zg)) zg)))))))),ZW h1 h2 q⟩
theorem Wd (T:Txt K mg t):FnOk P w K mg base (CX1 P w) 2 t.a__law_bad t.d__law_bad ["heads"] (jx):=by
 refine T.f__law_bad.ok0 sc__law_bad (fun vs H Q E h=>?_) (fun cdv A outer s H vs Q E hr h=>?_)
 ·obtain ⟨l,hs,rfl,_⟩:=h;rfl
 obtain ⟨l,hs,rfl,h1,h2,q⟩:=h
 exact ⟨jA K t,(zf (zB (i:=1) sc__law_bad.nd rfl (Or.inl rfl) (yq zg))
  (zf (qa PassesOwn.never rfl (Yk rfl T.b_range (zb (zF z0 rfl T.b_len yM (zb (pv 0) zg)) zg)) (xc (i:=2) sc__law_bad.nd rfl (Or.inl rfl)) (zf (zK (PW.pt (wO (zp yG (pv 2) (zl (i:=40)) (zu _)) (wv (vJ (yT (zO (FnOk.mono (jM T) (by decide)) hr rfl T.m__law_may T.f__law_may.kp T.b__law_may .nil zR (zb (ya ym (ya xg (pv 0) (pv 2) (fun _ _=>rfl)) (zl (i:=0)) (fun _ _=>rfl)) (zb (pv 1) zg)))))))) (zh (zy (pv 2)))
    zt)
  (zh (zB (i:=1) sc__law_bad.nd rfl (Or.inl rfl) (zO (FnOk.mono (jN T) (by decide)) hr rfl T.m__law_behind T.f__law_behind.kp T.b__law_behind .nil zR (zb (ya ym (ya xg (pv 0) (pv 2) (fun _ _=>rfl)) (zl (i:=0)) (fun _ _=>rfl)) (zb (pv 1) zg)))))))
  (zf (zK (zp (kN (XI hr)) (pv 1) (yq zg) (zu _)) (zh (zy (zF z0 rfl T.b_len yM (zb (pv 0) zg))))
    zt)
  (zh (zy (ve xC (zl (i:=1)))))))),Xj h1 h2 q⟩
theorem q9 (T:Txt K mg t):FnOk P w K mg base (CX1 P w) 1 t.a_Reading_init t.d_Reading_init ["self"] (wz t):=by
 refine T.f_Reading_init.ok0 qW (fun vs H Q E h=>?_) (fun cdv A outer s H vs Q E hr h=>?_)
 ·obtain ⟨x,dx,rfl,_⟩:=h;rfl
 obtain ⟨x,dx,rfl,h1,q⟩:=h
 exact ⟨wE K t,(zf (j7 (f:="rows") (pv 0) (yq zg) rfl)
  (zf (j7 (f:="blocks") (pv 0) (yq zg) rfl)
  (zh (j7 (f:="turned") (pv 0) (yq zg) rfl)))),qy (rdF T) h1 q⟩
theorem yE (T:Txt K mg t):FnOk P w K mg base (CX1 P w) 1 t.a_NoDealing_init t.d_NoDealing_init ["self","row"] (kT t):=by
 refine T.f_NoDealing_init.ok0 kQ (fun vs H Q E h=>?_) (fun cdv A outer s H vs Q E hr h=>?_)
 ·obtain ⟨x,y,rfl,_⟩:=h;rfl
 obtain ⟨x,y,rfl,h1,q⟩:=h
 exact ⟨xL K t,(zh (K4 T.es_NoDealing T.nx_NoDealing (pv 0) (pv 1) rfl)),ku h1 q⟩
theorem qB (T:Txt K mg t):FnOk P w K mg base (CX1 P w) 3 t.a_Reading_turns t.d_Reading_turns ["self","number"] (x9 t):=by
 refine T.f_Reading_turns.ok1 qh (fun vs H Q E h=>?_) (fun cdv A outer s H vs Q E hr h=>?_)
 ·obtain ⟨x,n,dx,rl,bl,tl,blocks,turned,rfl,_⟩:=h;rfl
 obtain ⟨x,n,dx,rl,bl,tl,blocks,turned,rfl,h1,h2⟩:=h
 exact ⟨wd K t E,(zf (zK (PW.pt (wO (zp (ZI (XI hr)) (yl (f:="blocks") (pv 0) rfl) (yq zg) (zu _)) (wv (yT (ya xg (yl (f:="turned") (pv 0) rfl) (ve xC (zl (i:=1))) (fun _ _=>rfl)))))) (zh (vz rfl T.xi_NoDealing T.xk_NoDealing T.xf_NoDealing (FnOk.mono (yE T) (by decide)) hr T.b_NoDealing_init jq rfl T.g_NoDealing (zb (pv 1) zg)))
   zt)
  (zh (K0 (yl (f:="turned") (pv 0) rfl) (ve xC (zl (i:=1))) (kA (b:=true)) rfl))),kZ (rdF T) h1 h2⟩
theorem qC (T:Txt K mg t):FnOk P w K mg base (CX1 P w) 3 t.a_Reading_shuts t.d_Reading_shuts ["self","number"] (wb t):=by
 refine T.f_Reading_shuts.ok1 qi (fun vs H Q E h=>?_) (fun cdv A outer s H vs Q E hr h=>?_)
 ·obtain ⟨x,n,dx,rl,bl,tl,blocks,turned,rfl,_⟩:=h;rfl
 obtain ⟨x,n,dx,rl,bl,tl,blocks,turned,rfl,h1,h2⟩:=h
 exact ⟨we K t E,(zf (zK (zp (ZI (XI hr)) (yl (f:="blocks") (pv 0) rfl) (yq zg) (zu _)) (zh (vz rfl T.xi_NoDealing T.xk_NoDealing T.xf_NoDealing (FnOk.mono (yE T) (by decide)) hr T.b_NoDealing_init jq rfl T.g_NoDealing (zb (pv 1) zg)))
   zt)
  (zf (yt (Zy PySem.F.plainAttrs_list PySem.F.slot_list_pop PySem.F.type_list_pop Zz (yl (f:="blocks") (pv 0) rfl)))
  (zh (yt (Zy PySem.F.plainAttrs_list PySem.F.slot_list_pop PySem.F.type_list_pop Zz (yl (f:="turned") (pv 0) rfl)))))),kY (rdF T) h1 h2⟩
theorem wu (T:Txt K mg t):FnOk P w K mg base (CX1 P w) 1 t.a_Reading_innermost t.d_Reading_innermost ["self"] (ye t):=by
 refine T.f_Reading_innermost.ok0 jr (fun vs H Q E h=>?_) (fun cdv A outer s H vs Q E hr h=>?_)
 ·obtain ⟨x,dx,rl,bl,tl,blocks,turned,inn,rfl,_⟩:=h;rfl
 obtain ⟨x,dx,rl,bl,tl,blocks,turned,inn,rfl,h1,h2,q⟩:=h
 exact ⟨y9 K t,(zf (zK (zp (ZI (XI hr)) (yl (f:="blocks") (pv 0) rfl) (yq zg) (zu _)) (zh (zy (yl (f:="rows") (pv 0) rfl)))
   zt)
  (zh (zy (jf (yT (ya xg (yl (f:="turned") (pv 0) rfl) (ve xC (zl (i:=1))) (fun _ _=>rfl))) (ya ym (ya xg (yl (f:="blocks") (pv 0) rfl) (ve xC (zl (i:=1))) (fun _ _=>rfl)) (zl (i:=3)) (fun _ _=>rfl)) (ya ym (ya xg (yl (f:="blocks") (pv 0) rfl) (ve xC (zl (i:=1))) (fun _ _=>rfl)) (zl (i:=2)) (fun _ _=>rfl)))))),jd (rdF T) h1 h2 q⟩
theorem k8 (T:Txt K mg t):FnOk P w K mg base (CX1 P w) 3 t.a_Reading_begins t.d_Reading_begins ["self","row","number"] (xK t):=by
 refine T.f_Reading_begins.ok1 kR (fun vs H Q E h=>?_) (fun cdv A outer s H vs Q E hr h=>?_)
 ·obtain ⟨x,v,n,dx,rl,bl,tl,blocks,turned,inn,zs,rfl,_⟩:=h;rfl
 obtain ⟨x,v,n,dx,rl,bl,tl,blocks,turned,inn,zs,rfl,h1,h2,h3,h4,h5,h6,h7⟩:=h
 exact ⟨xM K t E,(zf (zK (zp yG (zF z0 rfl T.b_len yM (zb (yl (f:="blocks") (pv 0) rfl) zg)) (xy rfl T.g_MOST_BLOCKS ⟨_,rfl⟩) (zu _)) (zh (vz rfl T.xi_NoDealing T.xk_NoDealing T.xf_NoDealing (FnOk.mono (yE T) (by decide)) hr T.b_NoDealing_init jq rfl T.g_NoDealing (zb (pv 2) zg)))
   zt)
  (zf (yt (vf PySem.F.plainAttrs_list PySem.F.slot_list_append PySem.F.type_list_append yI (yd (pv 0) T.cl_Reading T.me_Reading_innermost (FnOk.mono (wu T) (by decide)) hr T.b_Reading_innermost .nil wq) (zb (pv 1) zg)))
  (zf (yt (vf PySem.F.plainAttrs_list PySem.F.slot_list_append PySem.F.type_list_append yI (yl (f:="blocks") (pv 0) rfl) (zb (pv 1) zg)))
  (zh (yt (vf PySem.F.plainAttrs_list PySem.F.slot_list_append PySem.F.type_list_append yI (yl (f:="turned") (pv 0) rfl) (zb (kA (b:=false)) zg))))))),kx (rdF T) h1 h2 h3 h4 h5 h6 h7⟩
theorem qD (T:Txt K mg t):FnOk P w K mg base (CX1 P w) 4 t.a_Reading_reads t.d_Reading_reads ["self","row","number"] (wc t):=by
 refine T.f_Reading_reads.ok1 qj (fun vs H Q E h=>?_) (fun cdv A outer s H vs Q E hr h=>?_)
 ·obtain ⟨x,v,n,dx,rl,bl,tl,blocks,turned,hd,F,rfl,_⟩:=h;rfl
 obtain ⟨x,v,n,dx,rl,bl,tl,blocks,turned,hd,F,rfl,h1,h2,h3⟩:=h
 exact ⟨wg K t E,(zh (zK (zp yG (ya ym (pv 1) (zl (i:=0)) (fun _ _=>rfl)) (zE (x:="else")) (zu _)) (zh (yt (Zc (pv 0) T.cl_Reading T.me_Reading_turns (FnOk.mono (qB T) (by decide)) hr T.b_Reading_turns .nil wq (zb (pv 2) zg))))
   (zh (zK (zp yG (ya ym (pv 1) (zl (i:=0)) (fun _ _=>rfl)) (zE (x:="end")) (zu _)) (zh (yt (Zc (pv 0) T.cl_Reading T.me_Reading_shuts (FnOk.mono (qC T) (by decide)) hr T.b_Reading_shuts .nil wq (zb (pv 2) zg))))
   (zh (zK (zp yG (ya ym (pv 1) (zl (i:=0)) (fun _ _=>rfl)) (zE (x:="if")) (zu _)) (zh (yt (Zc (pv 0) T.cl_Reading T.me_Reading_begins (FnOk.mono (k8 T) (by decide)) hr T.b_Reading_begins .nil wq (zb (pv 1) (zb (pv 2) zg)))))
   (zh (yt (vf PySem.F.plainAttrs_list PySem.F.slot_list_append PySem.F.type_list_append yI (yd (pv 0) T.cl_Reading T.me_Reading_innermost (FnOk.mono (wu T) (by decide)) hr T.b_Reading_innermost .nil wq) (zb (pv 1) zg)))))))))),k6 h1 h2 h3⟩
theorem qE (T:Txt K mg t):FnOk P w K mg base (CX1 P w) 1 t.a_RowWords_init t.d_RowWords_init ["self","words","number"] (x8 t):=by
 refine T.f_RowWords_init.ok0 qk (fun vs H Q E h=>?_) (fun cdv A outer s H vs Q E hr h=>?_)
 ·obtain ⟨x,wa,n,dx,ws,rfl,_⟩:=h;rfl
 obtain ⟨x,wa,n,dx,ws,rfl,h1,h2,q⟩:=h
 exact ⟨wj K t,(zf (j7 (f:="words") (pv 0) (pv 1) rfl)
  (zf (j7 (f:="number") (pv 0) (pv 2) rfl)
  (zh (j7 (f:="at") (pv 0) (zl (i:=0)) rfl)))),kX (wrF T) h1 h2 q⟩
theorem yY (T:Txt K mg t):FnOk P w K mg base (CX1 P w) 1 t.a_RowWords_draw_word t.d_RowWords_draw_word ["self"] (zL t):=by
 refine T.f_RowWords_draw_word.ok0 sc_RowWords_draw_word (fun vs H Q E h=>?_) (fun cdv A outer s H vs Q E hr h=>?_)
 ·obtain ⟨x,dx,wa,ws,n,k,w,rfl,_⟩:=h;rfl
 obtain ⟨x,dx,wa,ws,n,k,w,rfl,h1,h2,q⟩:=h
 exact ⟨yV K t,(zf (zK (zp yG (yl (f:="at") (pv 0) rfl) (zF z0 rfl T.b_len yM (zb (yl (f:="words") (pv 0) rfl) zg)) (zu _)) (zh jg)
   zt)
  (zf (zB (i:=1) sc_RowWords_draw_word.nd rfl (Or.inl rfl) (ya xg (yl (f:="words") (pv 0) rfl) (yl (f:="at") (pv 0) rfl) (fun _ _=>rfl)))
  (zf (Vq (f:="at") (pv 0) (zl (i:=1)) QK)
  (zh (zy (pv 1)))))),vZ (wrF T) h1 h2 q⟩
theorem Z4 (T:Txt K mg t):FnOk P w K mg base (CX1 P w) 1 t.a_is_name t.d_is_name ["text"] (wX):=by
 refine T.f_is_name.ok0 WJ (fun vs H Q E h=>?_) (fun cdv A outer s H vs Q E hr h=>?_)
 ·obtain ⟨x,rfl,_⟩:=h;rfl
 obtain ⟨x,rfl,hx,q⟩:=h
 exact ⟨ko K t,(zf (zK (PW.pt (wO (zp yG (pv 0) (zE (x:="")) (zu _)) (wv (zp Xt (zF z0 rfl T.b_len yM (zb (pv 0) zg)) (xy rfl T.g_MOST_LETTERS ⟨_,rfl⟩) (zu _))))) (zh (zy (kA (b:=false))))
   zt)
  (zf (zK (PW.pt (wO (zp xR (pv 0) (xy rfl T.g_JOINING rfl) (by with_unfolding_all rfl)) (wv (zp xR (pv 0) (xy rfl T.g_ROW_WORDS rfl) (by with_unfolding_all rfl))))) (zh (zy (kA (b:=false))))
    zt)
  (zh (zy (zF (YA rfl) rfl T.b_all Jf (zb (YZ rfl (osc:=zi xY) (N:=["text"]) (xs:=["sign"]) (ix:=[]) (by decide +kernel) (Ji (pv 0)) (fun _ _ _ _=>(xc (i:=0) (show List.Nodup (["sign"]:List Str) from (by decide +kernel)) rfl (Or.inl rfl) (.inr rfl))) (fun _ _ _ _=>YX) (fun _ _ _ _=>(wH Ym (pv 0) (xy rfl T.g_LETTERS ⟨_,rfl⟩) (by with_unfolding_all rfl)))) zg)))))),X5 hx T.v_JOINING T.v_ROW_WORDS q⟩
theorem yv (T:Txt K mg t):FnOk P w K mg base (CX1 P w) 2 t.a_RowWords_draw_name t.d_RowWords_draw_name ["self"] (zM t):=by
 refine T.f_RowWords_draw_name.ok0 sc_RowWords_draw_name (fun vs H Q E h=>?_) (fun cdv A outer s H vs Q E hr h=>?_)
 ·obtain ⟨x,dx,wa,ws,n,k,w,rfl,_⟩:=h;rfl
 obtain ⟨x,dx,wa,ws,n,k,w,rfl,h1,h2,h3,q⟩:=h
 exact ⟨yW K t,(zf (zB (i:=1) sc_RowWords_draw_name.nd rfl (Or.inl rfl) (yd (pv 0) T.cl_RowWords T.me_RowWords_draw_word (FnOk.mono (yY T) (by decide)) hr T.b_RowWords_draw_word .nil zR))
  (zf (zK (vJ (yT (zO (FnOk.mono (Z4 T) (by decide)) hr rfl T.m_is_name T.f_is_name.kp T.b_is_name .nil zR (zb (pv 1) zg)))) (zh jg)
    zt)
  (zh (zy (pv 1))))),v3 h1 h2 h3 q⟩
theorem Z5 (T:Txt K mg t):FnOk P w K mg base (CX1 P w) 1 t.a_behind_term t.d_behind_term ["words","at"] (wY t):=by
 refine T.f_behind_term.ok1 sc_behind_term (fun vs H Q E h=>?_) (fun cdv A outer s H vs Q E hr h=>?_)
 ·obtain ⟨a,ws,k,rfl,_⟩:=h;rfl
 obtain ⟨a,ws,k,rfl,h1,h2,q⟩:=h
 exact ⟨w6 K t E,(zf (zB (i:=2) sc_behind_term.nd rfl (Or.inl rfl) (zl (i:=1)))
  (zf (zB (i:=3) sc_behind_term.nd rfl (Or.inl rfl) (pv 1))
  (zf (VW QX (zp Xt (pv 2) (zl (i:=0)) (zu _)) (zf (zK (zp Qr (pv 3) (zF z0 rfl T.b_len yM (zb (pv 0) zg)) (zu _)) (zh (kH rfl T.x_NoTerm Zg rfl T.g_NoTerm (zb (zE (x:="the words end ahead of the term's end")) zg)))
    zt)
  (zf (zK (zp yG (zQ YR (pv 3) (pv 1)) (xy rfl T.g_MOST_WORDS_terms ⟨_,rfl⟩) (zu _)) (zh (kH rfl T.x_NoTerm Zg rfl T.g_NoTerm (zb (zE (x:="a term of more than sixty words")) zg)))
    zt)
  (zf (zB (i:=2) sc_behind_term.nd rfl (Or.inl rfl) (jf (zp xR (ya xg (pv 0) (pv 3) (fun _ _=>rfl)) (xy rfl T.g_JOINING rfl) (by with_unfolding_all rfl)) (zQ j6 (pv 2) (zl (i:=1))) (zQ YR (pv 2) (zl (i:=1)))))
  (zh (QH (i:=3) sc_behind_term.nd rfl (Or.inl rfl) (zl (i:=1)) QI))))))
  (zh (zy (pv 3)))))),qX T.v_JOINING h1 h2 q⟩
theorem We (T:Txt K mg t):FnOk P w K mg base (CX1 P w) 1 t.a_is_worth t.d_is_worth ["thing"] (jt K):=by
 refine T.f_is_worth.ok0 XW (fun vs H Q E h=>?_) (fun cdv A outer s H vs Q E hr h=>?_)
 ·obtain ⟨x,rfl,_⟩:=h;rfl
 obtain ⟨x,rfl,h⟩:=h
 exact ⟨jB K t,(zf (zK (PW.pt (wO (vJ (yT (zF xG rfl T.b_isinstance yc (zb (pv 0) (zb (wG rfl T.b_int ZD rfl) zg))))) (wv (yT (zF xG rfl T.b_isinstance yc (zb (pv 0) (zb (wG rfl T.b_bool Y1 rfl) zg))))))) (zh (zy (kA (b:=false))))
   zt)
  (zh (zy (V0 Qq Qq (ve xC (zQ Zn (zl (i:=10)) (zl (i:=30)))) (pv 0) (zQ Zn (zl (i:=10)) (zl (i:=30))))))),Xa (kf K).i_b h⟩
theorem Yi (T:Txt K mg t):FnOk P w K mg base (CX1 P w) 1 t.a_is_figures t.d_is_figures ["text"] (vk):=by
 refine T.f_is_figures.ok0 Yc (fun vs H Q E h=>?_) (fun cdv A outer s H vs Q E hr h=>?_)
 ·obtain ⟨x,rfl,_⟩:=h;rfl
 obtain ⟨x,rfl,hx,q⟩:=h
 exact ⟨vp K t,(zh (zy (Zl (wH Yl (pv 0) (zE (x:="")) (zu _)) (YN (zF (YA rfl) rfl T.b_all Jf (zb (YZ rfl (osc:=zi yO) (N:=["text"]) (xs:=["sign"]) (ix:=[]) (by decide +kernel) (Ji (pv 0)) (fun _ _ _ _=>(xc (i:=0) (show List.Nodup (["sign"]:List Str) from (by decide +kernel)) rfl (Or.inl rfl) (.inr rfl))) (fun _ _ _ _=>YX) (fun _ _ _ _=>(wH Ym (pv 0) (xy rfl T.g_FIGURES ⟨_,rfl⟩) (by with_unfolding_all rfl)))) zg)))))),ZR hx q⟩
theorem WR (T:Txt K mg t):FnOk P w K mg base (CX1 P w) 1 t.a_numeral t.d_numeral ["worth"] (km):=by
 refine T.f_numeral.ok0 WK (fun vs H Q E h=>?_) (fun cdv A outer s H vs Q E hr h=>?_)
 ·obtain ⟨w,rfl,_⟩:=h;rfl
 obtain ⟨w,rfl,hw,q⟩:=h
 exact ⟨kq K t,(zh (zy (jP kC rfl T.b_str Jg (zb (pv 0) zg)))),X3 hw q⟩
theorem j3 (T:Txt K mg t):FnOk P w K mg base (CX1 P w) 2 t.a_is_numeral t.d_is_numeral ["text"] (xx):=by
 refine T.f_is_numeral.ok0 sc_is_numeral (fun vs H Q E h=>?_) (fun cdv A outer s H vs Q E hr h=>?_)
 ·obtain ⟨x,rfl,_⟩:=h;rfl
 obtain ⟨x,rfl,hx,q⟩:=h
 exact ⟨vq K t,(zf (zB (i:=1) sc_is_numeral.nd rfl (Or.inl rfl) (jf (yT (vf PySem.F.plainAttrs_str PySem.F.slot_str_startswith PySem.F.type_str_startswith Z9 (pv 0) (zb (zE (x:="-")) zg))) (wS QU (pv 0) (wI (zl (i:=1))) kD) (pv 0)))
  (zf (zK (PW.pt (wO (zp Xt (zF z0 rfl T.b_len yM (zb (pv 1) zg)) (xy rfl T.g_MOST_FIGURES ⟨_,rfl⟩) (zu _)) (wv (vJ (yT (zO (FnOk.mono (Yi T) (by decide)) hr rfl T.m_is_figures T.f_is_figures.kp T.b_is_figures .nil zR (zb (pv 1) zg))))))) (zh (zy (kA (b:=false))))
    zt)
  (zf (zB (i:=2) sc_is_numeral.nd rfl (Or.inl rfl) (jP kG rfl T.b_int ZD (zb (pv 0) zg)))
  (zh (zy (Zl (zO (FnOk.mono (We T) (by decide)) hr rfl T.m_is_worth T.f_is_worth.kp T.b_is_worth .nil zR (zb (pv 2) zg)) (YN (wH yG (zO (FnOk.mono (WR T) (by decide)) hr rfl T.m_numeral T.f_numeral.kp T.b_numeral .nil zR (zb (pv 2) zg)) (pv 0) (zu _))))))))),ZS hx q⟩
theorem Wf (T:Txt K mg t):FnOk P w K mg base (CX1 P w) 3 t.a_worth_in t.d_worth_in ["text"] (ju t):=by
 refine T.f_worth_in.ok1 XX (fun vs H Q E h=>?_) (fun cdv A outer s H vs Q E hr h=>?_)
 ·obtain ⟨x,rfl,_⟩:=h;rfl
 obtain ⟨x,rfl,hx,ha,q⟩:=h
 exact ⟨jC K t E,(zf (zK (vJ (yT (zO (FnOk.mono (j3 T) (by decide)) hr rfl T.m_is_numeral T.f_is_numeral.kp T.b_is_numeral .nil wq (zb (pv 0) zg)))) (zh (kH rfl T.x_NoNumber Zg rfl T.g_NoNumber (zb (W8 (pv 0)) zg)))
   zt)
  (zh (zy (jP kG rfl T.b_int ZD (zb (pv 0) zg))))),Xc hx ha q⟩
theorem WS (T:Txt K mg t):FnOk P w K mg base (CX1 P w) 4 t.a_part_in t.d_part_in ["word"] (kn t):=by
 refine T.f_part_in.ok1 WL (fun vs H Q E h=>?_) (fun cdv A outer s H vs Q E hr h=>?_)
 ·obtain ⟨x,rfl,_⟩:=h;rfl
 obtain ⟨x,rfl,hx,ha,q⟩:=h
 exact ⟨kr K t E,(zf (zK (yT (zO (FnOk.mono (Z4 T) (by decide)) hr rfl T.m_is_name T.f_is_name.kp T.b_is_name .nil wq (zb (pv 0) zg))) (zh (zy (pv 0)))
   zt)
  (zf (zK (yT (zO (FnOk.mono (j3 T) (by decide)) hr rfl T.m_is_numeral T.f_is_numeral.kp T.b_is_numeral .nil wq (zb (pv 0) zg))) (zh (zy (zO (FnOk.mono (Wf T) (by decide)) hr rfl T.m_worth_in T.f_worth_in.kp T.b_worth_in .nil wq (zb (pv 0) zg))))
    zt)
  (zh (kH rfl T.x_NoTerm Zg rfl T.g_NoTerm (zb (W8 (pv 0)) zg))))),X6 hx ha q⟩
theorem Xq (T:Txt K mg t):FnOk P w K mg base (CX1 P w) 5 t.a_term_from t.d_term_from ["words","at"] (vV t):=by
 refine T.f_term_from.ok1 sc_term_from (fun vs H Q E h=>?_) (fun cdv A outer s H vs Q E hr h=>?_)
 ·obtain ⟨a,ws,k,rfl,_⟩:=h;rfl
 obtain ⟨a,ws,k,rfl,h1,h2,h3,q⟩:=h
 exact ⟨vX K t E,(zf (zB (i:=2) sc_term_from.nd rfl (Or.inl rfl) (zO (FnOk.mono (Z5 T) (by decide)) hr rfl T.m_behind_term T.f_behind_term.kp T.b_behind_term .nil wq (zb (pv 0) (zb (pv 1) zg))))
  (zf (zB (i:=3) sc_term_from.nd rfl (Or.inl rfl) (yq zg))
  (zf (qa QX rfl (Q1 rfl T.b_reversed (zb (wS Zd (pv 0) (wI (pv 1)) (wI (pv 2))) zg)) (xc (i:=4) sc_term_from.nd rfl (Or.inl rfl)) (zh (zK (zp xR (pv 4) (xy rfl T.g_JOINING rfl) (by with_unfolding_all rfl)) (zf (zB (i:=5) sc_term_from.nd rfl (Or.inl rfl) (Zy PySem.F.plainAttrs_list PySem.F.slot_list_pop PySem.F.type_list_pop Zz (pv 3)))
  (zf (zB (i:=6) sc_term_from.nd rfl (Or.inl rfl) (Zy PySem.F.plainAttrs_list PySem.F.slot_list_pop PySem.F.type_list_pop Zz (pv 3)))
  (zh (yt (vf PySem.F.plainAttrs_list PySem.F.slot_list_append PySem.F.type_list_append yI (pv 3) (zb (zQ YS (zQ YS (pv 5) (pv 6)) (z8 (zb (pv 4) zg))) zg))))))
   (zh (yt (vf PySem.F.plainAttrs_list PySem.F.slot_list_append PySem.F.type_list_append yI (pv 3) (zb (z8 (zb (zO (FnOk.mono (WS T) (by decide)) hr rfl T.m_part_in T.f_part_in.kp T.b_part_in .nil wq (zb (pv 4) zg)) zg)) zg)))))))
  (zh (zy (z8 (zb (Zy PySem.F.plainAttrs_list PySem.F.slot_list_pop PySem.F.type_list_pop Zz (pv 3)) (zb (pv 2) zg)))))))),Yf T.v_JOINING h1 h2 h3 q⟩
theorem zS (T:Txt K mg t):FnOk P w K mg base (CX1 P w) 6 t.a_RowWords_draw_term t.d_RowWords_draw_term ["self"] (zG t):=by
 refine T.f_RowWords_draw_term.ok0 sc_RowWords_draw_term (fun vs H Q E h=>?_) (fun cdv A outer s H vs Q E hr h=>?_)
 ·obtain ⟨x,dx,wa,ws,n,k,ps,e,rfl,_⟩:=h;rfl
 obtain ⟨x,dx,wa,ws,n,k,ps,e,rfl,h1,h2,h3,h4,q⟩:=h
 exact ⟨yX K t,(zf (K1 (zB (i:=1) sc_RowWords_draw_term.nd rfl (Or.inl rfl) (zO (FnOk.mono (Xq T) (by decide)) hr rfl T.m_term_from T.f_term_from.kp T.b_term_from .nil zR (zb (yl (f:="words") (pv 0) rfl) (zb (yl (f:="at") (pv 0) rfl) zg)))))
  (zf (j7 (f:="at") (pv 0) (ya ym (pv 1) (zl (i:=1)) (fun _ _=>rfl)) rfl)
  (zh (zy (ya ym (pv 1) (zl (i:=0)) (fun _ _=>rfl)))))),v4 (wrF T) h1 h2 h3 h4 q⟩
theorem jX (T:Txt K mg t):FnOk P w K mg base (CX1 P w) 2 t.a_RowWords_draw_as t.d_RowWords_draw_as ["self"] (xq t):=by
 refine T.f_RowWords_draw_as.ok0 jV (fun vs H Q E h=>?_) (fun cdv A outer s H vs Q E hr h=>?_)
 ·obtain ⟨x,dx,wa,ws,n,k,rfl,_⟩:=h;rfl
 obtain ⟨x,dx,wa,ws,n,k,rfl,h1,h2,q⟩:=h
 exact ⟨xt K t,(zh (zK (zp Yl (yd (pv 0) T.cl_RowWords T.me_RowWords_draw_word (FnOk.mono (yY T) (by decide)) hr T.b_RowWords_draw_word .nil zR) (zE (x:="as")) (zu _)) (zh jg)
   zt)),jJ h1 h2 q⟩
theorem Yj (T:Txt K mg t):FnOk P w K mg base (CX1 P w) 7 t.a_take_drawn t.d_take_drawn ["words"] (vm t):=by
 refine T.f_take_drawn.ok0 sc_take_drawn (fun vs H Q E h=>?_) (fun cdv A outer s H vs Q E hr h=>?_)
 ·obtain ⟨x,dx,wa,ws,n,sh,T0,sl,rfl,_⟩:=h;rfl
 obtain ⟨x,dx,wa,ws,n,sh,T0,sl,rfl,h1,h2,h3,h4,h5,q⟩:=h
 exact ⟨vt K t,(zf (zB (i:=1) sc_take_drawn.nd rfl (Or.inl rfl) (yd (pv 0) T.cl_RowWords T.me_RowWords_draw_name (FnOk.mono (yv T) (by decide)) hr T.b_RowWords_draw_name .nil zR))
  (zf (zB (i:=2) sc_take_drawn.nd rfl (Or.inl rfl) (yd (pv 0) T.cl_RowWords T.me_RowWords_draw_term (FnOk.mono (zS T) (by decide)) hr T.b_RowWords_draw_term .nil zR))
  (zf (yt (yd (pv 0) T.cl_RowWords T.me_RowWords_draw_as (FnOk.mono (jX T) (by decide)) hr T.b_RowWords_draw_as .nil zR))
  (zh (zy (z8 (zb (zE (x:="take")) (zb (pv 1) (zb (pv 2) (zb (yd (pv 0) T.cl_RowWords T.me_RowWords_draw_name (FnOk.mono (yv T) (by decide)) hr T.b_RowWords_draw_name .nil zR) zg)))))))))),ZT h1 h2 h3 h4 h5 q⟩
theorem Xr (T:Txt K mg t):FnOk P w K mg base (CX1 P w) 8 t.a_row_drawn t.d_row_drawn ["words"] (vW t):=by
 refine T.f_row_drawn.ok0 sc_row_drawn (fun vs H Q E h=>?_) (fun cdv A outer s H vs Q E hr h=>?_)
 ·obtain ⟨x,dx,wa,ws,n,hd,rfl,_⟩:=h;rfl
 obtain ⟨x,dx,wa,ws,n,hd,rfl,h1,h2,h3,h4,h5,q⟩:=h
 exact ⟨vY K t,(zf (zB (i:=1) sc_row_drawn.nd rfl (Or.inl rfl) (yd (pv 0) T.cl_RowWords T.me_RowWords_draw_word (FnOk.mono (yY T) (by decide)) hr T.b_RowWords_draw_word .nil zR))
  (zf (zK (zp yG (pv 1) (zE (x:="take")) (zu _)) (zh (zy (zO (FnOk.mono (Yj T) (by decide)) hr rfl T.m_take_drawn T.f_take_drawn.kp T.b_take_drawn .nil zR (zb (pv 0) zg))))
    zt)
  (zf (zK (zp yG (pv 1) (zE (x:="give")) (zu _)) (zh (zy (z8 (zb (zE (x:="give")) (zb (yd (pv 0) T.cl_RowWords T.me_RowWords_draw_name (FnOk.mono (yv T) (by decide)) hr T.b_RowWords_draw_name .nil zR) (zb (yd (pv 0) T.cl_RowWords T.me_RowWords_draw_term (FnOk.mono (zS T) (by decide)) hr T.b_RowWords_draw_term .nil zR) (zb (yd (pv 0) T.cl_RowWords T.me_RowWords_draw_term (FnOk.mono (zS T) (by decide)) hr T.b_RowWords_draw_term .nil zR) zg)))))))
    zt)
  (zf (zK (zp yG (pv 1) (zE (x:="let")) (zu _)) (zh (zy (z8 (zb (zE (x:="let")) (zb (yd (pv 0) T.cl_RowWords T.me_RowWords_draw_name (FnOk.mono (yv T) (by decide)) hr T.b_RowWords_draw_name .nil zR) (zb (yd (pv 0) T.cl_RowWords T.me_RowWords_draw_term (FnOk.mono (zS T) (by decide)) hr T.b_RowWords_draw_term .nil zR) zg))))))
    zt)
  (zf (zK (zp xR (pv 1) (z8 (zb (zE (x:="say")) (zb (zE (x:="off")) zg))) (by with_unfolding_all rfl)) (zh (zy (z8 (zb (pv 1) (zb (yd (pv 0) T.cl_RowWords T.me_RowWords_draw_term (FnOk.mono (zS T) (by decide)) hr T.b_RowWords_draw_term .nil zR) zg)))))
    zt)
  (zf (zK (zp yG (pv 1) (zE (x:="if")) (zu _)) (zh (zy (z8 (zb (zE (x:="if")) (zb (yd (pv 0) T.cl_RowWords T.me_RowWords_draw_term (FnOk.mono (zS T) (by decide)) hr T.b_RowWords_draw_term .nil zR) (zb (yq zg) (zb (yq zg) zg)))))))
    zt)
  (zf (zK (zp xR (pv 1) (z8 (zb (zE (x:="else")) (zb (zE (x:="end")) zg))) (by with_unfolding_all rfl)) (zh (zy (z8 (zb (pv 1) zg))))
    zt)
  (zh jg)))))))),Yg h1 h2 h3 h4 h5 q⟩
theorem jO (T:Txt K mg t):FnOk P w K mg base (CX1 P w) 1 t.a_RowWords_draw_end t.d_RowWords_draw_end ["self"] (y7 t):=by
 refine T.f_RowWords_draw_end.ok0 js (fun vs H Q E h=>?_) (fun cdv A outer s H vs Q E hr h=>?_)
 ·obtain ⟨x,dx,wa,ws,n,rfl,_⟩:=h;rfl
 obtain ⟨x,dx,wa,ws,n,rfl,h1,q⟩:=h
 exact ⟨xa K t,(zh (zK (zp Xs (yl (f:="at") (pv 0) rfl) (zF z0 rfl T.b_len yM (zb (yl (f:="words") (pv 0) rfl) zg)) (zu _)) (zh jg)
   zt)),jc (wrF T) h1 q⟩
theorem VT (T:Txt K mg t):FnOk P w K mg base (CX1 P w) 9 t.a_row_in t.d_row_in ["text","number"] (ql t):=by
 refine T.f_row_in.ok1 sc_row_in (fun vs H Q E h=>?_) (fun cdv A outer s H vs Q E hr h=>?_)
 ·obtain ⟨x,n,hd,rfl,_⟩:=h;rfl
 obtain ⟨x,n,hd,rfl,h1,h2,q1,q2⟩:=h
 exact ⟨qm K t E,(zf (zB (i:=2) sc_row_in.nd rfl (Or.inl rfl) (vf PySem.F.plainAttrs_str PySem.F.slot_str_split PySem.F.type_str_split XN (pv 0) (zb (zE (x:=" ")) zg)))
  (zf (zK (PW.pt (wO (zp Qr (pv 1) (xy rfl T.g_MOST_ROWS ⟨_,rfl⟩) (zu _)) (wv (zp Xt (zF z0 rfl T.b_len yM (zb (pv 2) zg)) (xy rfl T.g_MOST_WORDS_reader ⟨_,rfl⟩) (zu _))))) (zh (vz rfl T.xi_NoDealing T.xk_NoDealing T.xf_NoDealing (FnOk.mono (yE T) (by decide)) hr T.b_NoDealing_init jq rfl T.g_NoDealing (zb (pv 1) zg)))
    zt)
  (zf (zB (i:=3) sc_row_in.nd rfl (Or.inl rfl) (Kx T.mk_RowWords (FnOk.mono (qE T) (by decide)) hr rfl T.g_RowWords T.b_RowWords_init .nil wq (zb (pv 2) (zb (pv 1) zg))))
  (zf (zB (i:=4) sc_row_in.nd rfl (Or.inl rfl) (zO (FnOk.mono (Xr T) (by decide)) hr rfl T.m_row_drawn T.f_row_drawn.kp T.b_row_drawn .nil wq (zb (pv 3) zg)))
  (zf (yt (yd (pv 3) T.cl_RowWords T.me_RowWords_draw_end (FnOk.mono (jO T) (by decide)) hr T.b_RowWords_draw_end .nil wq))
  (zh (zy (pv 4)))))))),WO h1 h2 q1 q2⟩
theorem Vj (T:Txt K mg t):FnOk P w K mg base (CX1 P w) 10 t.a_read t.d_read ["text"] (kU t):=by
 refine T.f_read.ok1 sc_read (fun vs H Q E h=>?_) (fun cdv A outer s H vs Q E hr h=>?_)
 ·obtain ⟨x,ts,rfl,_⟩:=h;rfl
 obtain ⟨x,ts,rfl,h1,h2,h3,h4,q1,q2⟩:=h
 exact ⟨Y9 K t E,(zf (zB (i:=1) sc_read.nd rfl (Or.inl rfl) (jf (zp Yl (pv 0) (zE (x:="")) (zu _)) (vf PySem.F.plainAttrs_str PySem.F.slot_str_split PySem.F.type_str_split XN (pv 0) (zb (zE (x:="\n")) zg)) (yq zg)))
  (zf (zB (i:=2) sc_read.nd rfl (Or.inl rfl) (V3 T.mk_Reading (FnOk.mono (q9 T) (by decide)) hr rfl T.g_Reading T.b_Reading_init .nil wq))
  (zf (qa QX rfl (KZ rfl T.b_enumerate (zb (pv 1) zg)) (Wh rfl (vw (xc (i:=3) sc_read.nd rfl (Or.inl rfl)) (vw (xc (i:=4) sc_read.nd rfl (Or.inl rfl)) YO))) (zh (yt (Zc (pv 2) T.cl_Reading T.me_Reading_reads (FnOk.mono (qD T) (by decide)) hr T.b_Reading_reads .nil wq (zb (zO (FnOk.mono (VT T) (by decide)) hr rfl T.m_row_in T.f_row_in.kp T.b_row_in .nil wq (zb (pv 4) (zb (pv 3) zg))) (zb (pv 3) zg))))))
  (zf (zK (zp (kN (XI hr)) (yl (f:="blocks") (pv 2) rfl) (yq zg) (zu _)) (zh (vz rfl T.xi_NoDealing T.xk_NoDealing T.xf_NoDealing (FnOk.mono (yE T) (by decide)) hr T.b_NoDealing_init jq rfl T.g_NoDealing (zb (zF z0 rfl T.b_len yM (zb (pv 1) zg)) zg)))
    zt)
  (zh (zy (yl (f:="rows") (pv 2) rfl))))))),Kb (rdF T) h1 h2 h3 h4 q1 q2⟩
theorem Z6 (T:Txt K mg t):∀ n,FnOk P w K mg base (CX1 P w) (1 + n) t.a__law_walked t.d__law_walked ["rows","around"] (yf n):=by
 intro n
 induction n with
 | zero=>exact ⟨fun vs H Q E h=>(ja h).elim,fun A outer s H args us vs Q E hr he hb hv h=>(ja h).elim⟩
 | succ n IH =>
 refine T.f__law_walked.ok0 sc__law_walked (k:=1 + n) (fun vs H Q E h=>?_) (fun cdv A outer s H vs Q E hr h=>?_)
 ·obtain ⟨l,xs,D,a,ar,rfl,_⟩:=h;rfl
 obtain ⟨l,xs,D,a,ar,rfl,h1,h2,h3,h4,h5,h6,h7,q⟩:=h
 exact ⟨va K t n,(zf (zK (vJ (yT (zF xG rfl T.b_isinstance yc (zb (pv 0) (zb (wG rfl T.b_list KI rfl) zg))))) (zh (zy je))
   zt)
  (zf (zB (i:=2) sc__law_walked.nd rfl (Or.inl rfl) (yq zg))
  (zf (qa PassesOwn.never rfl (YQ (pv 0)) (xc (i:=3) sc__law_walked.nd rfl (Or.inl rfl)) (zf (zK (PW.pt (wO (vJ (yT (zF xG rfl T.b_isinstance yc (zb (pv 3) (zb (wG rfl T.b_tuple XB rfl) zg))))) (wO (zp Xs (zF z0 rfl T.b_len yM (zb (pv 3) zg)) (zl (i:=2)) (zu _)) (wO (vJ (yT (zF xG rfl T.b_isinstance yc (zb (ya ym (pv 3) (zl (i:=1)) (fun _ _=>rfl)) (zb (wG rfl T.b_tuple XB rfl) zg))))) (wv (zp Yl (zF z0 rfl T.b_len yM (zb (ya ym (pv 3) (zl (i:=1)) (fun _ _=>rfl)) zg)) (zl (i:=1)) (zu _))))))) (zh (zy je))
    zt)
  (zf (zB (i:=4) sc__law_walked.nd rfl (Or.inl rfl) (ya ym (ya ym (pv 3) (zl (i:=1)) (fun _ _=>rfl)) (zl (i:=0)) (fun _ _=>rfl)))
  (zf (zK (PW.pt (wO (vJ (yT (zF xG rfl T.b_isinstance yc (zb (pv 4) (zb (wG rfl T.b_int ZD rfl) zg))))) (wv (yT (zF xG rfl T.b_isinstance yc (zb (pv 4) (zb (wG rfl T.b_bool Y1 rfl) zg))))))) (zh (zy je))
    zt)
  (zf (yt (vf PySem.F.plainAttrs_list PySem.F.slot_list_append PySem.F.type_list_append yI (pv 2) (zb (z8 (zb (pv 1) (zb (ya ym (pv 3) (zl (i:=0)) (fun _ _=>rfl)) (zb (pv 4) zg)))) zg)))
  (zh (zK (zp yG (zF z0 rfl T.b_len yM (zb (pv 3) zg)) (zl (i:=4)) (zu _)) (zf (zB (i:=5) sc__law_walked.nd rfl (Or.inl rfl) (zO (FnOk.mono IH (by lia)) hr rfl T.m__law_walked T.f__law_walked.kp T.b__law_walked .nil zR (zb (ya ym (pv 3) (zl (i:=2)) (fun _ _=>rfl)) (zb (zQ kP (pv 1) (z8 (zb (z8 (zb (pv 4) (zb (zl (i:=0)) zg))) zg))) zg))))
  (zf (zB (i:=6) sc__law_walked.nd rfl (Or.inl rfl) (zO (FnOk.mono IH (by lia)) hr rfl T.m__law_walked T.f__law_walked.kp T.b__law_walked .nil zR (zb (ya ym (pv 3) (zl (i:=3)) (fun _ _=>rfl)) (zb (zQ kP (pv 1) (z8 (zb (z8 (zb (pv 4) (zb (zl (i:=1)) zg))) zg))) zg))))
  (zf (zK (PW.pt (wO (zp VZ (pv 5) je (zu _)) (wO (zp VZ (pv 6) je (zu _)) (wv (zp Yl (ya ym (pv 3) (zl (i:=0)) (fun _ _=>rfl)) (zE (x:="if")) (zu _)))))) (zh (zy je))
    zt)
  (zh (zB (i:=2) sc__law_walked.nd rfl (Or.inl rfl) (zQ ZA (zQ ZA (pv 2) (pv 5)) (pv 6)))))))
   (zh (zK (PW.pt (wO (zp Yl (zF z0 rfl T.b_len yM (zb (pv 3) zg)) (zl (i:=2)) (zu _)) (wv (zp yG (ya ym (pv 3) (zl (i:=0)) (fun _ _=>rfl)) (zE (x:="if")) (zu _))))) (zh (zy je))
   zt)))))))))
  (zh (zy (pv 2)))))),qZ (kf K) h1 h2 h3 h4 h5 h6 h7 q⟩
theorem Wg (T:Txt K mg t):FnOk P w K mg base (CX1 P w) 1 t.a__law_due t.d__law_due ["heads"] (jy):=by
 refine T.f__law_due.ok0 sc__law_due (fun vs H Q E h=>?_) (fun cdv A outer s H vs Q E hr h=>?_)
 ·obtain ⟨l,hs,rfl,_⟩:=h;rfl
 obtain ⟨l,hs,rfl,h1,h2,h3,q⟩:=h
 exact ⟨jG K t,(zf (zB (i:=1) sc__law_due.nd rfl (Or.inl rfl) (yq zg))
  (zf (zB (i:=2) sc__law_due.nd rfl (Or.inl rfl) (z8 zg))
  (zf (qa PassesOwn.never rfl (YQ (pv 0)) (Wh rfl (vw (xc (i:=3) sc__law_due.nd rfl (Or.inl rfl)) (vw (xc (i:=4) sc__law_due.nd rfl (Or.inl rfl)) YO))) (zh (zK (zp yG (pv 3) (zE (x:="if")) (zu _)) (zf (yt (vf PySem.F.plainAttrs_list PySem.F.slot_list_append PySem.F.type_list_append yI (pv 1) (zb (z8 (zb (pv 2) (zb (pv 3) (zb (pv 4) zg)))) zg)))
  (zh (zB (i:=2) sc__law_due.nd rfl (Or.inl rfl) (zQ kP (pv 2) (z8 (zb (z8 (zb (pv 4) (zb (zl (i:=0)) zg))) zg))))))
   (zh (zK (zp yG (pv 3) (zE (x:="else")) (zu _)) (zh (zB (i:=2) sc__law_due.nd rfl (Or.inl rfl) (zQ kP (wS Ve (pv 2) kD (wI (ve xC (zl (i:=1))))) (z8 (zb (z8 (zb (ya ym (ya ym (pv 2) (ve xC (zl (i:=1))) (fun _ _=>rfl)) (zl (i:=0)) (fun _ _=>rfl)) (zb (zl (i:=1)) zg))) zg)))))
   (zh (zK (zp yG (pv 3) (zE (x:="end")) (zu _)) (zh (zB (i:=2) sc__law_due.nd rfl (Or.inl rfl) (wS Ve (pv 2) kD (wI (ve xC (zl (i:=1)))))))
   (zh (yt (vf PySem.F.plainAttrs_list PySem.F.slot_list_append PySem.F.type_list_append yI (pv 1) (zb (z8 (zb (pv 2) (zb (pv 3) (zb (pv 4) zg)))) zg)))))))))))
  (zh (zy (pv 1)))))),Xk h1 h2 h3 q⟩
theorem ok_law (T:Txt K mg t):FnOk P w K mg base (CX1 P w) 11 t.a_law t.d_law ["script"] (sp_law K):=by
 refine T.f_law.ok0 sc_law (fun vs H Q E h=>?_) (fun cdv A outer s H vs Q E hr h=>?_)
 ·obtain ⟨a,ns,rfl,_⟩:=h;rfl
 obtain ⟨a,ns,rfl,hS,hn,q⟩:=h
 exact ⟨WM K t,(zf (zB (i:=1) sc_law.nd rfl (Or.inl rfl) (zO (FnOk.mono (q8 T) (by decide)) hr rfl T.m__law_cell_at T.f__law_cell_at.kp T.b__law_cell_at .nil zR (zb (pv 0) (zb (zl (i:=0)) zg))))
  (zf (zB (i:=2) sc_law.nd rfl (Or.inl rfl) (zl (i:=80)))
  (zf (zK (zp Xt (zQ jh (zQ vy (pv 1) (zl (i:=18))) (zl (i:=3))) (zl (i:=0)) (zu _)) (zh (zB (i:=2) sc_law.nd rfl (Or.inl rfl) (zQ j6 (zl (i:=35)) (zQ jh (zQ vy (pv 1) (zl (i:=54))) (zl (i:=4))))))
    zt)
  (zf (zB (i:=3) sc_law.nd rfl (Or.inl rfl) (wS Zd (pv 0) (wI (zl (i:=1))) (wI (zQ j6 (zl (i:=1)) (pv 2)))))
  (zf (zB (i:=4) sc_law.nd rfl (Or.inl rfl) (ve xC (zl (i:=1))))
  (zf (zK (zp yG (zQ jh (pv 1) (zl (i:=2))) (zl (i:=1)) (zu _)) (zh (zB (i:=4) sc_law.nd rfl (Or.inl rfl) (zQ jh (zQ vy (pv 1) (zl (i:=2))) (zQ j6 (zF z0 rfl T.b_len yM (zb (pv 3) zg)) (zl (i:=1))))))
    zt)
  (zf (QG (zO (FnOk.mono (Yh T) (by decide)) hr rfl T.m__law_heads T.f__law_heads.kp T.b__law_heads .nil zR (zb (pv 3) (zb (pv 4) zg))) (Wh rfl (vw (xc (i:=5) sc_law.nd rfl (Or.inl rfl)) (vw (xc (i:=6) sc_law.nd rfl (Or.inl rfl)) YO))))
  (zf (zB (i:=7) sc_law.nd rfl (Or.inl rfl) (pv 6))
  (zf (zK (zp yG (zQ jh (zQ vy (pv 1) (zl (i:=2))) (zl (i:=3))) (zl (i:=1)) (zu _)) (zh (zB (i:=7) sc_law.nd rfl (Or.inl rfl) (zF (Vp rfl) rfl T.b_max QS (zb (zl (i:=0)) (zb (zQ j6 (zQ YR (pv 6) (zl (i:=1))) (zQ jh (zQ vy (pv 1) (zl (i:=6))) (zl (i:=3)))) zg)))))
    zt)
  (zf (zB (i:=5) sc_law.nd rfl (Or.inl rfl) (zQ ZA (pv 5) (zQ QO (yq (zb (z8 (zb (zE (x:="end")) (zb (zl (i:=0)) zg))) zg)) (pv 7))))
  (zf (zB (i:=8) sc_law.nd rfl (Or.inl rfl) (vf PySem.F.plainAttrs_str PySem.F.slot_str_join PySem.F.type_str_join KN (zE (x:="\n")) (zb (YZ rfl (osc:=zi ZN) (N:=["script","cell","most","cells","spot","heads","left","many","line","bad","at","e"]) (xs:=["head"]) (ix:=[]) (by decide +kernel) (YQ (pv 5)) (fun _ _ _ _=>(xc (i:=0) (show List.Nodup (["head"]:List Str) from (by decide +kernel)) rfl (Or.inl rfl) (.inr rfl))) (fun _ _ _ _=>YX) (fun _ _ _ _=>(jf (zp xR (ya ym (pv 0) (zl (i:=0)) (fun _ _=>rfl)) (z8 (zb (zE (x:="else")) (zb (zE (x:="end")) zg))) (by with_unfolding_all rfl)) (ya ym (pv 0) (zl (i:=0)) (fun _ _=>rfl)) (zQ Zo (zQ Zo (ya ym (pv 0) (zl (i:=0)) (fun _ _=>rfl)) (zE (x:=" "))) (jP kC rfl T.b_str Jg (zb (ya ym (pv 0) (zl (i:=1)) (fun _ _=>rfl)) zg)))))) zg)))
  (zf (zB (i:=9) sc_law.nd rfl (Or.inl rfl) (zO (FnOk.mono (Wd T) (by decide)) hr rfl T.m__law_bad T.f__law_bad.kp T.b__law_bad .nil zR (zb (pv 5) zg)))
  (zf (zK (zp Xs (pv 9) (zl (i:=0)) (zu _)) (zh (zy (wH (JG (XI hr)) (zO (FnOk.mono (Z6 T 6) (by decide)) hr rfl T.m__law_walked T.f__law_walked.kp T.b__law_walked .nil zR (zb (zO (FnOk.mono (Vj T) (by decide)) hr rfl T.m_read T.f_read.kp T.b_read .nil zR (zb (pv 8) zg)) (zb (z8 zg) zg))) (zO (FnOk.mono (Wg T) (by decide)) hr rfl T.m__law_due T.f__law_due.kp T.b__law_due .nil zR (zb (pv 5) zg)) (zu _))))
    zt)
  (zf (zB (i:=10) sc_law.nd rfl (Or.inl rfl) je)
  (zf (K8 (i:=11) (And.intro rfl rfl) rfl sc_law.nd (VH (VG (FnOk.mono (Vj T) (by decide)) hr rfl T.m_read T.f_read.kp T.b_read (zb (pv 8) zg))) rfl T.g_NoDealing rfl rfl (fun _=>(zh (zB (i:=10) sc_law.nd rfl (Or.inl rfl) (K6 (f:="row") (pv 11) rfl)))))
  (zh (zy (Zl (zF xG rfl T.b_isinstance yc (zb (pv 10) (zb (wG rfl T.b_int ZD rfl) zg))) (Zl (VV (zF xG rfl T.b_isinstance yc (zb (pv 10) (zb (wG rfl T.b_bool Y1 rfl) zg)))) (YN (wH yG (pv 10) (pv 9) (zu _)))))))))))))))))))))),Qo (ndF T) hS hn q⟩
end
end K15
open PySem PySem.W PyProof.Rows
def PySem.W.Fast.tw16978849032698059862:Unit:=()
def PySem.W.Fast.tw8240656043104077383:Unit:=()
def PySem.W.Fast.tw11234900896340782059:Unit:=()
def PySem.W.Fast.tw3490351342731824226:Unit:=()
def PySem.W.Fast.tw14332377359545616676:Unit:=()
def PySem.W.Fast.tw17108975790552652359:Unit:=()
def PySem.W.Fast.tw126795993122569405:Unit:=()
def PySem.W.Fast.tw16501824725935905449:Unit:=()
def PySem.W.Fast.tw4520787059174645351:Unit:=()
def PySem.W.Fast.tw2120927541739085356:Unit:=()
def PySem.W.Fast.tw5021416346018075015:Unit:=()
def PySem.W.Fast.tw16594627127486403214:Unit:=()
def PySem.W.Fast.tw14036311484781534963:Unit:=()
def PySem.W.Fast.tw8043392019400645965:Unit:=()
def PySem.W.Fast.tw15908247285179943889:Unit:=()
def PySem.W.Fast.tw4941347009199151111:Unit:=()
def PySem.W.Fast.tw9584287239631121698:Unit:=()
def PySem.W.Fast.tw10246481563102375473:Unit:=()
def PySem.W.Fast.tw2505028829896747606:Unit:=()
def PySem.W.Fast.tw1361418463468183022:Unit:=()
def PySem.W.Fast.tw790769796654860134:Unit:=()
def PySem.W.Fast.tw18363851339738660171:Unit:=()
def PySem.W.Fast.tw10716361114472369823:Unit:=()
def PySem.W.Fast.tw7983224887883462765:Unit:=()
def PySem.W.Fast.tw4344195680116252458:Unit:=()
def PySem.W.Fast.tw4239992246628565984:Unit:=()
def PySem.W.Fast.tw838788616685919769:Unit:=()
def PySem.W.Fast.tw13268250609562604713:Unit:=()
def PySem.W.Fast.tw9018517583452022393:Unit:=()
def PySem.W.Fast.tw15155016681029392996:Unit:=()
def PySem.W.Fast.tw5652188561807486731:Unit:=()
def PySem.W.Fast.tw13795111682545849366:Unit:=()
def PySem.W.Fast.tw187963136840711436:Unit:=()
def PySem.W.Fast.tw8504324590226595244:Unit:=()
def PySem.W.Fast.tw5210912638725597205:Unit:=()
def PySem.W.Fast.tw7805126309576049034:Unit:=()
def PySem.W.Fast.tw12967244440978177809:Unit:=()
def PySem.W.Fast.tw3085219145158227548:Unit:=()
def PySem.W.Fast.tw5316645401762002278:Unit:=()
def PySem.W.Fast.tw10469838487823643612:Unit:=()
def PySem.W.Fast.tw14312275258855160134:Unit:=()
def PySem.W.Fast.tw9439423294871649968:Unit:=()
def PySem.W.Fast.tw2325499277670366168:Unit:=()
def PySem.W.Fast.tw10851931818926602590:Unit:=()
def PySem.W.Fast.tw10911268731614584676:Unit:=()
def PySem.W.Fast.tw1944781023079863155:Unit:=()
def PySem.W.Fast.tw17348603658235301525:Unit:=()
def PySem.W.Fast.tw12542017646364177110:Unit:=()
def PySem.W.Fast.tw10973184554429253361:Unit:=()
def PySem.W.Fast.tw1243615636363012818:Unit:=()
def PySem.W.Fast.tw11133018510303696810:Unit:=()
def PySem.W.Fast.tw2005053225339504089:Unit:=()
def PySem.W.Fast.tw11258639783747482566:Unit:=()
def PySem.W.Fast.tw10148955211650723824:Unit:=()
def PySem.W.Fast.tw1846097255490884954:Unit:=()
def PySem.W.Fast.tw43710991199637250:Unit:=()
def PySem.W.Fast.tw7151460958650545644:Unit:=()
def PySem.W.Fast.tw668295295469986206:Unit:=()
def PySem.W.Fast.tw7141541740038504707:Unit:=()
def PySem.W.Fast.tw11836072326869579146:Unit:=()
def PySem.W.Fast.tw4220147709213414079:Unit:=()
def PySem.W.Fast.tw10519378260743217842:Unit:=()
def PySem.W.Fast.tw3228601310196593004:Unit:=()
def PySem.W.Fast.tw3293333532587806022:Unit:=()
def PySem.W.Fast.tw9734772667913489553:Unit:=()
def PySem.W.Fast.tw4367328123215347142:Unit:=()
def PySem.W.Fast.tw1628042801032677189:Unit:=()
def PySem.W.Fast.tw9264324529040208196:Unit:=()
def PySem.W.Fast.tw14717569352973950471:Unit:=()
def PySem.W.Fast.tw13912528810042183228:Unit:=()
def PySem.W.Fast.tw15905089968730914903:Unit:=()
def PySem.W.Fast.tw17284811082596106091:Unit:=()
def PySem.W.Fast.tw16985753248420909664:Unit:=()
def PySem.W.Fast.tw11915787825307804903:Unit:=()
def PySem.W.Fast.tw13196080662156825298:Unit:=()
def PySem.W.Fast.tw7877800047270464663:Unit:=()
def PySem.W.Fast.tw9756204032999305142:Unit:=()
def PySem.W.Fast.tw17746141037001062346:Unit:=()
def PySem.W.Fast.tw4956729308793210157:Unit:=()
def PySem.W.Fast.tw17108630231208415994:Unit:=()
def PySem.W.Fast.tw7713889426145217344:Unit:=()
def PySem.W.Fast.tw14298725727887697656:Unit:=()
def PySem.W.Fast.tw16573279789814491860:Unit:=()
def PySem.W.Fast.tw4789886298056250611:Unit:=()
def PySem.W.Fast.tw8434425708310730008:Unit:=()
def PySem.W.Fast.tw6374465134171283974:Unit:=()
def PySem.W.Fast.tw13720906815576772775:Unit:=()
def PySem.W.Fast.tw9240955080821932867:Unit:=()
def PySem.W.Fast.tw16486312582097369865:Unit:=()
def PySem.W.Fast.tw16831395494949108019:Unit:=()
def PySem.W.Fast.tw6224740251347109947:Unit:=()
def PySem.W.Fast.tw889941694247868115:Unit:=()
def PySem.W.Fast.tw2979452516353234097:Unit:=()
def PySem.W.Fast.tw543058235299327688:Unit:=()
def PySem.W.Fast.tw3785885076525118099:Unit:=()
def PySem.W.Fast.tw6144057625437670659:Unit:=()
def PySem.W.Fast.tw9496496820547779255:Unit:=()
def PySem.W.Fast.tw9295410995647379142:Unit:=()
def PySem.W.Fast.tw16379157288247746863:Unit:=()
def PySem.W.Fast.tw15170239174073935434:Unit:=()
def PySem.W.Fast.tw17208216501149177883:Unit:=()
def PySem.W.Fast.tw10796788191254766964:Unit:=()
def PySem.W.Fast.tw14685762321496707551:Unit:=()
def PySem.W.Fast.tw7552410601099481049:Unit:=()
def PySem.W.Fast.tw144583539840505521:Unit:=()
def PySem.W.Fast.tw6993602214705946219:Unit:=()
def PySem.W.Fast.tw12895218929039978264:Unit:=()
def PySem.W.Fast.tw3699696986171590771:Unit:=()
def PySem.W.Fast.tw3826440749682168556:Unit:=()
def PySem.W.Fast.tw5690996644492343523:Unit:=()
def PySem.W.Fast.tw3848886577764690018:Unit:=()
def PySem.W.Fast.tw13035908339406159506:Unit:=()
def PySem.W.Fast.tw11047964997309635806:Unit:=()
def PySem.W.Fast.tw3967757908385595246:Unit:=()
def PySem.W.Fast.tw9570041171868111515:Unit:=()
def PySem.W.Fast.tw9257814862113072642:Unit:=()
def PySem.W.Fast.tw1556811088617739606:Unit:=()
def PySem.W.Fast.tw10002435021073085340:Unit:=()
def PySem.W.Fast.tw16951619795719034675:Unit:=()
def PySem.W.Fast.tw7747798860460958154:Unit:=()
def PySem.W.Fast.tw4415466011194361340:Unit:=()
def PySem.W.Fast.tw399834228227522544:Unit:=()
def PySem.W.Fast.tw12975557329849371981:Unit:=()
def PySem.W.Fast.tw5778491663994476710:Unit:=()
def PySem.W.Fast.tw10950324115081654427:Unit:=()
def PySem.W.Fast.tw3116263845296249937:Unit:=()
def PySem.W.Fast.tw13734237853533331248:Unit:=()
def PySem.W.Fast.tw10508032117519014900:Unit:=()
def PySem.W.Fast.tw8551015421108995564:Unit:=()
def PySem.W.Fast.tw7541345820557142534:Unit:=()
def PySem.W.Fast.tw14627875983942163568:Unit:=()
def PySem.W.Fast.tw5132569191123878199:Unit:=()
def PySem.W.Fast.tw3972620015770518962:Unit:=()
def PySem.W.Fast.tw15850713897753293842:Unit:=()
def PySem.W.Fast.tw12383912079884957448:Unit:=()
def PySem.W.Fast.tw9561661707081997847:Unit:=()
def PySem.W.Fast.tw15937717853265116991:Unit:=()
def PySem.W.Fast.tw6610009724170058923:Unit:=()
def PySem.W.Fast.tw1240746707956634405:Unit:=()
def PySem.W.Fast.tw752819215143767163:Unit:=()
def PySem.W.Fast.tw17039170321292559032:Unit:=()
def PySem.W.Fast.tw16651405467102501659:Unit:=()
def PySem.W.Fast.tw4605726324236860707:Unit:=()
def PySem.W.Fast.tw4182452889394730154:Unit:=()
def PySem.W.Fast.tw4031941318623482898:Unit:=()
def PySem.W.Fast.tw11350041322746843951:Unit:=()
def PySem.W.Fast.tw10137632005890541943:Unit:=()
def PySem.W.Fast.tw17116938889875345376:Unit:=()
def PySem.W.Fast.tw7170272458536193481:Unit:=()
def PySem.W.Fast.tw6993559134921356610:Unit:=()
def PySem.W.Fast.tw17910156999901257451:Unit:=()
def PySem.W.Fast.tw14910866069241507506:Unit:=()
def PySem.W.Fast.tw5741335385927937429:Unit:=()
def PySem.W.Fast.tw13672744356121711873:Unit:=()
def PySem.W.Fast.tw10157104737280320711:Unit:=()
def PySem.W.Fast.tw18065668522590179944:Unit:=()
def PySem.W.Fast.tw14688303471615852218:Unit:=()
def PySem.W.Fast.tw7987102502233730576:Unit:=()
def PySem.W.Fast.tw10706694070557647709:Unit:=()
def PySem.W.Fast.tw8616951918851471315:Unit:=()
def PySem.W.Fast.tw16382959032573268724:Unit:=()
def PySem.W.Fast.tw1616104276920335744:Unit:=()
def PySem.W.Fast.tw15587718950919399952:Unit:=()
def PySem.W.Fast.tw2491506748690062928:Unit:=()
def PySem.W.Fast.tw471367160664596026:Unit:=()
def PySem.W.Fast.tw120230641044128195:Unit:=()
def PySem.W.Fast.tw7373303000840826219:Unit:=()
def PySem.W.Fast.tw11057122540362742020:Unit:=()
def PySem.W.Fast.tw9442739956611399320:Unit:=()
def PySem.W.Fast.tw4967556985452658737:Unit:=()
def PySem.W.Fast.tw5576980636842023203:Unit:=()
def PySem.W.Fast.tw5932184322496643464:Unit:=()
def PySem.W.Fast.tw69436442069593975:Unit:=()
def PySem.W.Fast.tw6625499781991782148:Unit:=()
def PySem.W.Fast.tw10621097909079424168:Unit:=()
def PySem.W.Fast.tw11683181908261614003:Unit:=()
def PySem.W.Fast.tw8208183842755098740:Unit:=()
def PySem.W.Fast.tw3222110830286230447:Unit:=()
def PySem.W.Fast.tw3780624039062133047:Unit:=()
def PySem.W.Fast.tw6769682709826707224:Unit:=()
def PySem.W.Fast.tw12278254023379801810:Unit:=()
def PySem.W.Fast.tw16247631098309666763:Unit:=()
def PySem.W.Fast.tw8905972109776727407:Unit:=()
def PySem.W.Fast.tw11060691717233693618:Unit:=()
def PySem.W.Fast.tw14441687308711874944:Unit:=()
def PySem.W.Fast.tw13625848323517554594:Unit:=()
def PySem.W.Fast.tw7520026519242590849:Unit:=()
def PySem.W.Fast.tw7896531911484053415:Unit:=()
def PySem.W.Fast.tw5773058096769980527:Unit:=()
def PySem.W.Fast.tw8019397852301917673:Unit:=()
def PySem.W.Fast.tw1537697183260502958:Unit:=()
def PySem.W.Fast.tw5309115452288506503:Unit:=()
def PySem.W.Fast.tw7265892844296231622:Unit:=()
def PySem.W.Fast.tw17493238951459406061:Unit:=()
def PySem.W.Fast.tw14602206805893466391:Unit:=()
def PySem.W.Fast.tw11491658409256526745:Unit:=()
def PySem.W.Fast.tw11423265839117690522:Unit:=()
def PySem.W.Fast.tw6696900943178054770:Unit:=()
def PySem.W.Fast.tw8996614082937771652:Unit:=()
def PySem.W.Fast.tw9679232800360985653:Unit:=()
def PySem.W.Fast.tw18048691561789119745:Unit:=()
def PySem.W.Fast.tw13214698505372847175:Unit:=()
def PySem.W.Fast.tw14566305040757246397:Unit:=()
def PySem.W.Fast.tw11121270709889717711:Unit:=()
def PySem.W.Fast.tw7283523230876973407:Unit:=()
def PySem.W.Fast.tw4474691395792948044:Unit:=()
def PySem.W.Fast.tw16564404909151960959:Unit:=()
def PySem.W.Fast.tw11069907250800309472:Unit:=()
def PySem.W.Fast.tw17363770441736775207:Unit:=()
def PySem.W.Fast.tw6142053651382912765:Unit:=()
def PySem.W.Fast.tw9412342611511747327:Unit:=()
def PySem.W.Fast.tw13836466407059854161:Unit:=()
def PySem.W.Fast.tw5099783366144351741:Unit:=()
def PySem.W.Fast.tw9453069448807012485:Unit:=()
def PySem.W.Fast.tw8857467491707913033:Unit:=()
def PySem.W.Fast.tw3455576984197507681:Unit:=()
def PySem.W.Fast.tw12299348497639108027:Unit:=()
def PySem.W.Fast.tw1713580656865796226:Unit:=()
def PySem.W.Fast.tw10545259155511693097:Unit:=()
def PySem.W.Fast.tw2175480279611796359:Unit:=()
def PySem.W.Fast.tw13401552533889228717:Unit:=()
def PySem.W.Fast.tw6784275354630876023:Unit:=()
def PySem.W.Fast.tw12695524460573821809:Unit:=()
def PySem.W.Fast.tw15231653394172913339:Unit:=()
def PySem.W.Fast.tw9305567703739902663:Unit:=()
def PySem.W.Fast.tw11894539888235405567:Unit:=()
def PySem.W.Fast.tw6886887625898121787:Unit:=()
def PySem.W.Fast.tw18201080256661097020:Unit:=()
def PySem.W.Fast.tw3463947291502231066:Unit:=()
def PySem.W.Fast.tw17801491293980921493:Unit:=()
def PySem.W.Fast.tw16796157685905560148:Unit:=()
def PySem.W.Fast.tw6488590385078436113:Unit:=()
def PySem.W.Fast.tw13248904566722625377:Unit:=()
def PySem.W.Fast.tw10503061241189574987:Unit:=()
def PySem.W.Fast.tw11872013699270740600:Unit:=()
def PySem.W.Fast.tw6532729358679540858:Unit:=()
def PySem.W.Fast.tw1284851518962432929:Unit:=()
def PySem.W.Fast.tw3637595870314027212:Unit:=()
def PySem.W.Fast.tw15771219824471168940:Unit:=()
def PySem.W.Fast.tw14351166092592704971:Unit:=()
def PySem.W.Fast.tw12729808834098657744:Unit:=()
def PySem.W.Fast.tw6225505615114580960:Unit:=()
def PySem.W.Fast.tw13430313372198694669:Unit:=()
def PySem.W.Fast.tw1286163605789702693:Unit:=()
def PySem.W.Fast.tw10294088051806135397:Unit:=()
def PySem.W.Fast.tw7818076186690486352:Unit:=()
def PySem.W.Fast.tw10828313055363456250:Unit:=()
def PySem.W.Fast.tw6623727227950344595:Unit:=()
def PySem.W.Fast.tw1937672674416164720:Unit:=()
def PySem.W.Fast.tw14650206881081757382:Unit:=()
def PySem.W.Fast.tw5650098286646185862:Unit:=()
def PySem.W.Fast.tw2844138532214676398:Unit:=()
def PySem.W.Fast.tw18105489457607979859:Unit:=()
def PySem.W.Fast.tw15246682888328553578:Unit:=()
def PySem.W.Fast.tw10284660641762080293:Unit:=()
def PySem.W.Fast.tw4092839693006328166:Unit:=()
def PySem.W.Fast.tw12634098047524392614:Unit:=()
def PySem.W.Fast.tw8851603544137815916:Unit:=()
def PySem.W.Fast.tw1357227864354344113:Unit:=()
def PySem.W.Fast.tw5399637282464942467:Unit:=()
def PySem.W.Fast.tw5898733463192997571:Unit:=()
def PySem.W.Fast.tw12171429919960542764:Unit:=()
def PySem.W.Fast.tw946636096368611140:Unit:=()
def PySem.W.Fast.tw16928680709195528206:Unit:=()
def PySem.W.Fast.tw16969868975402148864:Unit:=()
def PySem.W.Fast.tw13053604163293659577:Unit:=()
def PySem.W.Fast.tw9934430670219686691:Unit:=()
def PySem.W.Fast.tw17523113565940883250:Unit:=()
def PySem.W.Fast.tw6612365160228851513:Unit:=()
def PySem.W.Fast.tw9317900678462504541:Unit:=()
def PySem.W.Fast.tw16990086726944787507:Unit:=()
def PySem.W.Fast.tw2889764519981148779:Unit:=()
def PySem.W.Fast.tw2513866401622892487:Unit:=()
def PySem.W.Fast.tw2631947163841930405:Unit:=()
def PySem.W.Fast.tw8233746757249249229:Unit:=()
def PySem.W.Fast.tw16532028672580706764:Unit:=()
def PySem.W.Fast.tw14606448160391912045:Unit:=()
def PySem.W.Fast.tw14769725249700308983:Unit:=()
def PySem.W.Fast.tw18127581154547761740:Unit:=()
def PySem.W.Fast.tw4286716887823749697:Unit:=()
def PySem.W.Fast.tw16085198063204756273:Unit:=()
def PySem.W.Fast.tw10928840089010739452:Unit:=()
def PySem.W.Fast.tw2078237882809099763:Unit:=()
def PySem.W.Fast.tw7956908755639124902:Unit:=()
def PySem.W.Fast.tw17654279873848583375:Unit:=()
def PySem.W.Fast.tw11574364616038058642:Unit:=()
def PySem.W.Fast.tw6540823425117387409:Unit:=()
def PySem.W.Fast.tw8344757654644665123:Unit:=()
def PySem.W.Fast.tw11639941594987516873:Unit:=()
def PySem.W.Fast.tw2390903580841987180:Unit:=()
def PySem.W.Fast.tw12241291563258795868:Unit:=()
def PySem.W.Fast.tw14656219032399807928:Unit:=()
def PySem.W.Fast.tw17581238452447366523:Unit:=()
def PySem.W.Fast.tw10442560689058200786:Unit:=()
def PySem.W.Fast.tw12105679809127082633:Unit:=()
def PySem.W.Fast.tw16621548764139209482:Unit:=()
def PySem.W.Fast.tw7117832559339219794:Unit:=()
def PySem.W.Fast.tw2587103744990249129:Unit:=()
def PySem.W.Fast.tw13275201885845220721:Unit:=()
def PySem.W.Fast.tw2887771943043487278:Unit:=()
def PySem.W.Fast.tw4053114874468270678:Unit:=()
def PySem.W.Fast.tw13500093498834290820:Unit:=()
def PySem.W.Fast.tw3063105477137346781:Unit:=()
def PySem.W.Fast.tw17092463238404856876:Unit:=()
def PySem.W.Fast.tw4308224662667638346:Unit:=()
def PySem.W.Fast.tw14426444105559805932:Unit:=()
def PySem.W.Fast.tw6795385605301834275:Unit:=()
def PySem.W.Fast.tw13987011748308512675:Unit:=()
def PySem.W.Fast.tw8791531219097711844:Unit:=()
def PySem.W.Fast.tw5519711921804936535:Unit:=()
def PySem.W.Fast.tw15083847215243116045:Unit:=()
def PySem.W.Fast.tw9005099175965287152:Unit:=()
set_option maxRecDepth 100000 in
set_option maxHeartbeats 0 in
theorem PySem.Challenge.cw_forerun_k15_blocks_in_blocks_holds : PySem.Challenge.rw_forerun_k15_blocks_in_blocks.Holds := by
 w_on; o_law; k_head; (case hw => w_witness2)
 k_fill
 refine L2.walk_ofX (l := PySem.Challenge.rw_forerun_k15_blocks_in_blocks) (n := 63) (k := 11) (x := "script") (sp := K15.sp_law) rfl (by decide) rfl ⟨rfl, by decide, by decide⟩ (fun w h Y => PySem.W.kIn_of Y) ?F ?S
 case F =>
  intro w mg fa h KX G hmg
  have T : ∃ t, K15.Txt (L2.KOf KX) mg t := by
   dsimp only [L2.KOf]
   refine' K15.txt_mk KX G ?qa0 ?ql0 ?qc0 ?qk0 ?qa1 ?ql1 ?qc1 ?qk1 ?qa2 ?ql2 ?qc2 ?qk2 ?qa3 ?ql3 ?qc3 ?qk3 ?qa4 ?ql4 ?qc4 ?qk4 ?qa5 ?qi5 ?ql5 ?qc5 ?qk5 ?qa6 ?qi6 ?ql6 ?qc6 ?qk6 ?qa7 ?qi7 ?ql7 ?qc7 ?qk7 ?qa8 ?qi8 ?ql8 ?qc8 ?qk8 ?qa9 ?qi9 ?ql9 ?qc9 ?qk9 ?qa10 ?qi10 ?ql10 ?qc10 ?qk10 ?qa11 ?qi11 ?ql11 ?qc11 ?qk11 ?qa12 ?qi12 ?ql12 ?qc12 ?qk12 ?qa13 ?qi13 ?ql13 ?qc13 ?qk13 ?qa14 ?ql14 ?qc14 ?qk14 ?qa15 ?qi15 ?ql15 ?qc15 ?qk15 ?qa16 ?ql16 ?qc16 ?qk16 ?qa17 ?ql17 ?qc17 ?qk17 ?qa18 ?ql18 ?qc18 ?qk18 ?qa19 ?ql19 ?qc19 ?qk19 ?qa20 ?ql20 ?qc20 ?qk20 ?qa21 ?ql21 ?qc21 ?qk21 ?qa22 ?ql22 ?qc22 ?qk22 ?qa23 ?ql23 ?qc23 ?qk23 ?qa24 ?qi24 ?ql24 ?qc24 ?qk24 ?qa25 ?qi25 ?ql25 ?qc25 ?qk25 ?qa26 ?ql26 ?qc26 ?qk26 ?qa27 ?ql27 ?qc27 ?qk27 ?qa28 ?qi28 ?ql28 ?qc28 ?qk28 ?qa29 ?ql29 ?qc29 ?qk29 ?qa30 ?ql30 ?qc30 ?qk30 ?qa31 ?ql31 ?qc31 ?qk31 ?qa32 ?ql32 ?qc32 ?qk32 ?qa33 ?ql33 ?qc33 ?qk33 ?qz0 ?qz1 ?qz2 ?qz3 ?qz4 ?qz5 ?qz6 ?qz7 ?qz8 ?qz9 ?qz10 ?qz11 ?qg0 ?qg1 ?qh1 ?qg2 ?qg3 ?qg4 ?qg5 ?qg6 ?qg7 ?qg8 ?qg9 ?qh9 ?qv0 ?qv1 ?qv2 ?qv3 ?qv4 ?pg3 ?pd3 ?po3 ?pe3 ?pm3_ ?pk3 ?pn3_0 ?pn3_1 ?pn3_2 ?pg4 ?pd4 ?po4 ?pe4 ?pm4_ ?pk4 ?pn4_0 ?pn4_1 ?pn4_2 ?xx0 ?xk0 ?xy0_0 ?xy0_1 ?xy0_2 ?xy0_3 ?xy0_4 ?xy0_5 ?xy0_6 ?xy0_7 ?xo0 ?xd0 ?xn0 ?xe0_0 ?rx0 ?ry0_0 ?ry0_1 ?ry0_2 ?ry0_3 ?ry0_4 ?ry0_5 ?ry0_6 ?ry0_7 ?re0_0 ?rx1 ?ry1_0 ?ry1_1 ?ry1_2 ?ry1_3 ?ry1_4 ?ry1_5 ?ry1_6 ?ry1_7 ?re1_0
   (case qv0 => k_is)
   (case qv1 => k_is)
   (case qv2 => k_is)
   (case qv3 => k_is)
   (case qv4 => k_is)
   (case qa0 => k_is)
   (case ql0 => k_is)
   (case qc0 => k_is)
   (case qk0 => k_is)
   (case qa1 => k_is)
   (case ql1 => k_is)
   (case qc1 => k_is)
   (case qk1 => k_is)
   (case qa2 => k_is)
   (case ql2 => k_is)
   (case qc2 => k_is)
   (case qk2 => k_is)
   (case qa3 => k_is)
   (case ql3 => k_is)
   (case qc3 => k_is)
   (case qk3 => k_is)
   (case qa4 => k_is)
   (case ql4 => k_is)
   (case qc4 => k_is)
   (case qk4 => k_is)
   (case qa5 => k_is)
   (case qi5 => k_is)
   (case ql5 => k_is)
   (case qc5 => k_is)
   (case qk5 => k_is)
   (case qa6 => k_is)
   (case qi6 => k_is)
   (case ql6 => k_is)
   (case qc6 => k_is)
   (case qk6 => k_is)
   (case qa7 => k_is)
   (case qi7 => k_is)
   (case ql7 => k_is)
   (case qc7 => k_is)
   (case qk7 => k_is)
   (case qa8 => k_is)
   (case qi8 => k_is)
   (case ql8 => k_is)
   (case qc8 => k_is)
   (case qk8 => k_is)
   (case qa9 => k_is)
   (case qi9 => k_is)
   (case ql9 => k_is)
   (case qc9 => k_is)
   (case qk9 => k_is)
   (case qa10 => k_is)
   (case qi10 => k_is)
   (case ql10 => k_is)
   (case qc10 => k_is)
   (case qk10 => k_is)
   (case qa11 => k_is)
   (case qi11 => k_is)
   (case ql11 => k_is)
   (case qc11 => k_is)
   (case qk11 => k_is)
   (case qa12 => k_is)
   (case qi12 => k_is)
   (case ql12 => k_is)
   (case qc12 => k_is)
   (case qk12 => k_is)
   (case qa13 => k_is)
   (case qi13 => k_is)
   (case ql13 => k_is)
   (case qc13 => k_is)
   (case qk13 => k_is)
   (case qa14 => k_is)
   (case ql14 => k_is)
   (case qc14 => k_is)
   (case qk14 => k_is)
   (case qa15 => k_is)
   (case qi15 => k_is)
   (case ql15 => k_is)
   (case qc15 => k_is)
   (case qk15 => k_is)
   (case qa16 => k_is)
   (case ql16 => k_is)
   (case qc16 => k_is)
   (case qk16 => k_is)
   (case qa17 => k_is)
   (case ql17 => k_is)
   (case qc17 => k_is)
   (case qk17 => k_is)
   (case qa18 => k_is)
   (case ql18 => k_is)
   (case qc18 => k_is)
   (case qk18 => k_is)
   (case qa19 => k_is)
   (case ql19 => k_is)
   (case qc19 => k_is)
   (case qk19 => k_is)
   (case qa20 => k_is)
   (case ql20 => k_is)
   (case qc20 => k_is)
   (case qk20 => k_is)
   (case qa21 => k_is)
   (case ql21 => k_is)
   (case qc21 => k_is)
   (case qk21 => k_is)
   (case qa22 => k_is)
   (case ql22 => k_is)
   (case qc22 => k_is)
   (case qk22 => k_is)
   (case qa23 => k_is)
   (case ql23 => k_is)
   (case qc23 => k_is)
   (case qk23 => k_is)
   (case qa24 => k_is)
   (case qi24 => k_is)
   (case ql24 => k_is)
   (case qc24 => k_is)
   (case qk24 => k_is)
   (case qa25 => k_is)
   (case qi25 => k_is)
   (case ql25 => k_is)
   (case qc25 => k_is)
   (case qk25 => k_is)
   (case qa26 => k_is)
   (case ql26 => k_is)
   (case qc26 => k_is)
   (case qk26 => k_is)
   (case qa27 => k_is)
   (case ql27 => k_is)
   (case qc27 => k_is)
   (case qk27 => k_is)
   (case qa28 => k_is)
   (case qi28 => k_is)
   (case ql28 => k_is)
   (case qc28 => k_is)
   (case qk28 => k_is)
   (case qa29 => k_is)
   (case ql29 => k_is)
   (case qc29 => k_is)
   (case qk29 => k_is)
   (case qa30 => k_is)
   (case ql30 => k_is)
   (case qc30 => k_is)
   (case qk30 => k_is)
   (case qa31 => k_is)
   (case ql31 => k_is)
   (case qc31 => k_is)
   (case qk31 => k_is)
   (case qa32 => k_is)
   (case ql32 => k_is)
   (case qc32 => k_is)
   (case qk32 => k_is)
   (case qa33 => k_is)
   (case ql33 => k_is)
   (case qc33 => k_is)
   (case qk33 => k_is)
   (case qz0 => k_is)
   (case qz1 => k_is)
   (case qz2 => k_is)
   (case qz3 => k_is)
   (case qz4 => k_is)
   (case qz5 => k_is)
   (case qz6 => k_is)
   (case qz7 => k_is)
   (case qz8 => k_is)
   (case qz9 => k_is)
   (case qz10 => k_is)
   (case qz11 => k_is)
   (case qg0 => k_is)
   (case qg1 => k_is)
   (case qh1 => k_is)
   (case qg2 => k_is)
   (case qg3 => k_is)
   (case qg4 => k_is)
   (case qg5 => k_is)
   (case qg6 => k_is)
   (case qg7 => k_is)
   (case qg8 => k_is)
   (case qg9 => k_is)
   (case qh9 => k_is)
   (case pg3 => k_is)
   (case pd3 => k_is)
   (case po3 => k_is)
   (case pe3 => k_is)
   (case pm3_ => k_is)
   (case pk3 => k_is)
   (case pn3_0 => k_is)
   (case pn3_1 => k_is)
   (case pn3_2 => k_is)
   (case pg4 => k_is)
   (case pd4 => k_is)
   (case po4 => k_is)
   (case pe4 => k_is)
   (case pm4_ => k_is)
   (case pk4 => k_is)
   (case pn4_0 => k_is)
   (case pn4_1 => k_is)
   (case pn4_2 => k_is)
   (case xx0 => kernel_rfl)
   (case xk0 => k_is)
   (case xy0_0 => k_is)
   (case xy0_1 => k_is)
   (case xy0_2 => k_is)
   (case xy0_3 => k_is)
   (case xy0_4 => k_is)
   (case xy0_5 => k_is)
   (case xy0_6 => k_is)
   (case xy0_7 => k_is)
   (case xo0 => kernel_rfl)
   (case xd0 => k_is)
   (case xn0 => k_is)
   (case xe0_0 => kernel_rfl)
   (case rx0 => k_exc)
   (case ry0_0 => k_is)
   (case ry0_1 => k_is)
   (case ry0_2 => k_is)
   (case ry0_3 => k_is)
   (case ry0_4 => k_is)
   (case ry0_5 => k_is)
   (case ry0_6 => k_is)
   (case ry0_7 => k_is)
   (case re0_0 => kernel_rfl)
   (case rx1 => k_exc)
   (case ry1_0 => k_is)
   (case ry1_1 => k_is)
   (case ry1_2 => k_is)
   (case ry1_3 => k_is)
   (case ry1_4 => k_is)
   (case ry1_5 => k_is)
   (case ry1_6 => k_is)
   (case ry1_7 => k_is)
   (case re1_0 => kernel_rfl)
  obtain ⟨t, T⟩ := T
  have e0 := hmg.symm.trans T.m_law
  cases e0
  exact ⟨_, T.w_law, fun base _ _ => K15.ok_law T⟩
 case S => exact fun K H a ns hl _ hS => ⟨a, ns, rfl, hS, hl, fun _ => rfl⟩
