import PyProof.Rows.All
import Wide.All
import OpenK.AllK
import Wide.FinOn
import Lean
import PyProof.EqAt
import PyProof.EqKinds
import PyProof.TupleCall
import PySem.Challenge.RW_forerun_k14_the_first_bad_row
import KE.IntBitsLaws
import KE.KDictList
import KE.KDictOf
import KE.KEqDict
import KE.KIntText
import KE.KItemsList
import KE.KRevIter
import KE.KSortAsk
import KE.KSortTup
import KE.KSorted
import KE.KTryMore
import KE.LcSums
import PyProof.AttrMissHeap
import PyProof.Conv_int_bool
import PyProof.DictItems
import PyProof.DictKinds
import PyProof.DictWalks
import PyProof.EnumFor
import PyProof.EnumMake
import PyProof.EqKinds
import PyProof.ExcInit
import PyProof.InstStoreFacts
import PyProof.ListIndexNeg
import PyProof.MeetsStr
import PyProof.NeKinds
import PyProof.NsDelKeeps
import PyProof.P3Eq
import PyProof.Rows.EqDataRows
import PyProof.Rows.Range3
import PyProof.StrCalls2
import PyProof.StrLaws
import PyProof.StrLawsTight
import PyProof.StrOps
import PyProof.StrOps2
import PyProof.TupleIter
import PyProof.TupleKey
import PyProof.TupleOfSeq
import PyProof.ZipIter
import Wide.ObjOpen
import Wide.RegSB
set_option Elab.async false
set_option linter.all false
set_option maxRecDepth 100000
namespace L2
open PySem PySem.Spec PyProof.Rows
abbrev Key:=Sum Int Str
def zbF:Key→Value→Bool
 | .inl k,v=>Value.isInt k v
 | .inr x,v=>Value.isStrOf x v
def zcZ (w:World):Key→Int
 | .inl k=>hashInt k
 | .inr x=>hashStr w x
theorem xk:∀ {k:Key} {v:Value},zbF k v=true→(∃ i t,k=Sum.inl i∧v=Value.int i t)∨(∃ x t,k=Sum.inr x∧v=Value.str x t)
 | .inl i,v,h=>by
  obtain ⟨t,e⟩:=Value.isInt_shape (k:=i) (v:=v) h
  exact .inl ⟨i,t,rfl,e⟩
 | .inr x,v,h=>by
  obtain ⟨t,e⟩:=Value.isStrOf_shape (x:=x) (v:=v) h
  exact .inr ⟨x,t,rfl,e⟩
theorem zbN (a b:Int):decide ((Sum.inl a:Key)=Sum.inl b)=(a == b):=by
 by_cases e:a=b
 ·subst e;simp
 ·have h:¬ (Sum.inl a:Key)=Sum.inl b:=fun q=>e (Sum.inl.inj q)
  rw [decide_eq_false h]
  exact (beq_eq_false_iff_ne.mpr e).symm
theorem zbO (a b:Str):decide ((Sum.inr a:Key)=Sum.inr b)=decide (a=b):=by
 by_cases e:a=b
 ·subst e;simp
 ·have h:¬ (Sum.inr a:Key)=Sum.inr b:=fun q=>e (Sum.inr.inj q)
  rw [decide_eq_false h,decide_eq_false e]
theorem zbP (a:Int) (b:Str):decide ((Sum.inl a:Key)=Sum.inr b)=false:=decide_eq_false (fun q=>nomatch q)
theorem zbQ (a:Str) (b:Int):decide ((Sum.inr a:Key)=Sum.inl b)=false:=decide_eq_false (fun q=>nomatch q)
def Kh (prog:Program) (w:World):PySem.KeyKind prog w Key where
 is:=zbF
 hash:=zcZ w
 inj:=fun v a b ha hb=>by
  rcases xk ha with ⟨i,t,rfl,rfl⟩ | ⟨x,t,rfl,rfl⟩
  ·rcases xk hb with ⟨j,u,rfl,e⟩ | ⟨y,u,rfl,e⟩
   ·injection e with e1 _;rw [e1]
   ·exact nomatch e
  ·rcases xk hb with ⟨j,u,rfl,e⟩ | ⟨y,u,rfl,e⟩
   ·exact nomatch e
   ·injection e with e1 _;rw [e1]
 byValue:=fun k v h=>by
  rcases xk h with ⟨i,t,rfl,rfl⟩ | ⟨x,t,rfl,rfl⟩ <;> rfl
 pyHash:=fun hv h=>by
  rcases xk hv with ⟨i,t,rfl,rfl⟩ | ⟨x,t,rfl,rfl⟩
  ·exact wpAny_pyHash_int h
  ·exact wpAny_pyHash_str h
 eqBool:=fun hu hv h=>by
  rcases xk hu with ⟨i,t,rfl,rfl⟩ | ⟨x,t,rfl,rfl⟩
  ·rcases xk hv with ⟨j,u,rfl,rfl⟩ | ⟨y,u,rfl,rfl⟩
   ·rw [zbN] at h;exact wpAny_eqBool_int h
   ·rw [zbP] at h;exact SeqAt.EqAt.int_str i t y u _ _ _ _ h
  ·rcases xk hv with ⟨j,u,rfl,rfl⟩ | ⟨y,u,rfl,rfl⟩
   ·rw [zbQ] at h;exact SeqAt.EqAt.str_int x t j u _ _ _ _ h
   ·rw [zbO] at h;exact wpAny_eqBool_str h
 «strs»:=fun k x t v h=>by
  rcases xk h with ⟨i,u,rfl,e⟩ | ⟨y,u,rfl,e⟩
  ·exact nomatch e
  ·injection e with e1 _
   subst e1
   cases v <;> rfl
end L2
namespace L2
open PySem PySem.Spec PyProof.Rows
inductive V where
 | non | bl (b:Bool) | int (i:Int) | str (x:Str) | byt (b:Array UInt8) | flt (b:UInt64) | ref (a:Addr) | ty (n:String)
 deriving DecidableEq
def RelV:V→Value→Prop
 | .non,u=>u=Value.none
 | .bl b,u=>u=Value.bool b
 | .int i,u=>∃ t,u=Value.int i t
 | .str x,u=>∃ t,u=Value.str x t
 | .byt b,u=>∃ t,u=Value.bytes b t
 | .flt b,u=>∃ t,u=Value.float b t
 | .ref a,u=>u=Value.ref a
 | .ty n,u=>u=Value.type n
abbrev Vals:List V→List Value→Prop:=Paired RelV
theorem Vals.length {xs:List V} {us:List Value} (r:Vals xs us):xs.length=us.length:=Paired.length r
theorem Vals.get:∀ {xs:List V} {us:List Value} {i:Nat} {x:V},Vals xs us→xs[i]?=some x→∃ u,us[i]?=some u∧RelV x u
 | _,_,_,_,.nil,e=>by simp at e
 | _,_,0,_,.cons r _,e=>by simp at e;subst e;exact ⟨_,rfl,r⟩
 | _,_,i + 1,x,.cons _ t,e=>by
  obtain ⟨u,h1,h2⟩:=Vals.get (i:=i) (x:=x) t (by simpa using e)
  exact ⟨u,by simpa using h1,h2⟩
theorem Vals.append:∀ {xs ys:List V} {us ws:List Value},Vals xs us→Vals ys ws→Vals (xs ++ ys) (us ++ ws)
 | _,_,_,_,.nil,s=>s
 | _,_,_,_,.cons r t,s=>.cons r (Vals.append t s)
theorem Vals.take:∀ {xs:List V} {us:List Value} (n:Nat),Vals xs us→Vals (xs.take n) (us.take n)
 | _,_,0,_=>.nil
 | _,_,_ + 1,.nil=>.nil
 | _,_,n + 1,.cons r t=>.cons r (Vals.take n t)
theorem Vals.drop:∀ {xs:List V} {us:List Value} (n:Nat),Vals xs us→Vals (xs.drop n) (us.drop n)
 | _,_,0,r=>r
 | _,_,_ + 1,.nil=>.nil
 | _,_,n + 1,.cons _ t=>Vals.drop n t
def RelO:Option V→Option Value→Prop
 | some v,some u=>RelV v u
 | none,none=>True
 | _,_=>False
def KV {κ:Type}:List (κ × V)→List (κ × Value)→Prop:=Paired fun (p:κ × V) (q:κ × Value)=>p.1=q.1∧RelV p.2 q.2
def kV:Key→V
 | .inl i=>.int i
 | .inr x=>.str x
inductive HO where
  | lst (xs:List V)
  | tup (xs:List V)
  | dK (kvs:List (Key × V)) | dT (kvs:List (List Key × V))
  | set (S:Int→Bool) (n:Nat)
  | ins (C dx:Addr) (fs:List (Str × V))
  | own (x:Addr)
  | xd (fs:List (Str × V))
  | met (f x:Addr)
  | rng (lo hi:Int)
  | frz (o:Obj) (u:HO)
  | tbl (ps:Array Value)
  | ext (φ:Heap→Prop)
abbrev Hp:=Addr→Option HO
def upd (H:Hp) (a:Addr) (o:HO):Hp:=fun b=>if b=a then some o else H b
theorem zd {H:Hp} {a:Addr} {o:HO}:upd H a o a=some o:=by unfold upd;rw [if_pos rfl]
theorem zw {H:Hp} {a b:Addr} {o:HO} (h:b≠a):upd H a o b=H b:=by unfold upd;rw [if_neg h]
theorem jk {H:Hp} {a b:Addr} {o u:HO} (h:H a=some o) (h':H b=some u) (d:o≠u):a≠b:=by
 intro e;subst e;rw [h] at h';exact d (Option.some.inj h')
theorem zS {H:Hp} {a b:Addr} {o:HO} (h:H a=some o) (h':H b=none):a≠b:=by
 intro e;subst e;rw [h] at h';cases h'
section
variable (P:Program) (w:World)
def ObjOk (H:Hp) (h:Heap) (a:Addr):HO→Prop
 | .lst xs=>xs.length≤sizeLine∧∃ (its:List Value) (n:Nat),Vals xs its∧h.get? a=some { cls:=.type "list",data:=.seq its.toArray n }
 | .tup xs=>xs.length≤sizeLine∧∃ its:List Value,Vals xs its∧IsTup h a its.toArray
 | .dK kvs=>kvs.length≤sizeLine∧(a == sysModules)=false∧∃ vs,KV kvs vs∧h.DictOf (Kh P w) a vs
 | .dT kvs=>kvs.length≤sizeLine∧(a == sysModules)=false∧∃ xs:List (List Key × Addr × Value),
   Paired (fun (p:List Key × V) (q:List Key × Addr × Value)=>p.1=q.1∧H q.2.1=some (.tup (p.1.map kV))∧RelV p.2 q.2.2) kvs xs ∧
   ∃ o es ep,h.get? a=some o∧o.ExactDict∧o.data=.dict es ep∧es.toList=xs.map (entryOfKey (tupleKind (Kh P w)))∧(xs.map (·.1)).Nodup
 | .set S n=>h.SetOf (intKind P w) a S n
 | .ins C dx fs=>H dx=some (.own a)∧fs.length≤1000∧dx≠a∧h.get? a=some (PySem.W.instObj C dx) ∧
   ∃ mA,h.Ns1 dx mA∧(∀ f,RelO (fs.lookup f) (mA f))∧PySem.Within mA (fs.map (·.1))
 | .own _=>∃ o,h.get? a=some o
 | .xd fs=>∃ mA,h.Ns1 a mA∧∀ f,RelO (fs.lookup f) (mA f)
 | .rng lo hi=>∃ t u v,h.get? a=some { cls:=.type "range",data:=.fields #[.int lo t,.int hi u,.int 1 v] }
 | .frz o u=>h.get? a=some o∧ObjOk H h a u
 | .tbl ps=>h.get? a=some { cls:=.none,data:=.fields ps }
 | .met f x=>h.get? a=some (PySem.W.methodObj (.ref f) (.ref x))
 | .ext φ=>φ h∧(∃ o,h.get? a=some o)∧∀ h1 h2:Heap,φ h1→(∀ o,h1.get? a=some o→h2.get? a=some o)→φ h2
def HOk (H:Hp) (h:Heap):Prop:=∀ a o,H a=some o→ObjOk P w H h a o
end
section
variable {P:Program} {w:World} {H H':Hp} {h h':Heap} {a:Addr} {o:HO}
theorem ObjOk.lt (x:ObjOk P w H h a o):a < h.objs.size:=by
 cases o with
 | lst xs=>obtain ⟨_,_,_,_,e⟩:=x;exact Heap.lt_size e
 | tup xs=>obtain ⟨_,_,_,p⟩:=x;exact p.lt
 | dK kvs=>obtain ⟨_,_,_,_,o,_,_,e,_⟩:=x;exact Heap.lt_size e
 | dT kvs=>obtain ⟨_,_,_,_,o,_,_,e,_⟩:=x;exact Heap.lt_size e
 | set S n=>obtain ⟨o,_,_,_,e,_⟩:=x;exact Heap.lt_size e
 | ins C dx fs=>obtain ⟨_,_,_,e,_⟩:=x;exact Heap.lt_size e
 | own y=>obtain ⟨_,e⟩:=x;exact Heap.lt_size e
 | xd fs=>obtain ⟨_,⟨_,_,_,e,_⟩,_⟩:=x;exact Heap.lt_size e
 | rng lo hi=>obtain ⟨_,_,_,e⟩:=x;exact Heap.lt_size e
 | frz ob u=>obtain ⟨e,_⟩:=x;exact Heap.lt_size e
 | tbl ps=>exact Heap.lt_size (show h.get? a=some _ from x)
 | met f y=>exact Heap.lt_size (show h.get? a=some _ from x)
 | ext φ=>obtain ⟨_,⟨_,e⟩,_⟩:=x;exact Heap.lt_size e
theorem Paired.mapP {α β:Type} {F G:α→β→Prop}:∀ {l₁:List α} {l₂:List β},Paired F l₁ l₂→(∀ a b,F a b→G a b)→Paired G l₁ l₂
 | _,_,.nil,_=>.nil
 | _,_,.cons r t,f=>.cons (f _ _ r) (Paired.mapP t f)
theorem ObjOk.stay (x:ObjOk P w H h a o) (k:∀ b u,(b=a∨H b=some (.own a))→h.get? b=some u→h'.get? b=some u)
  (ho:∀ b,H b=some (.own a)→H' b=some (.own a)) (ht:∀ b xs,H b=some (.tup xs)→H' b=some (.tup xs)):ObjOk P w H' h' a o:=by
 induction o with
 | lst xs=>obtain ⟨z,its,n,r,e⟩:=x;exact ⟨z,its,n,r,k _ _ (.inl rfl) e⟩
 | tup xs=>obtain ⟨z,its,r,ob,e,c⟩:=x;exact ⟨z,its,r,ob,k _ _ (.inl rfl) e,c⟩
 | dK kvs=>obtain ⟨z,y,vs,r,ob,es,ep,e,c⟩:=x;exact ⟨z,y,vs,r,ob,es,ep,k _ _ (.inl rfl) e,c⟩
 | dT kvs =>
  obtain ⟨z,y,xs,r,ob,es,ep,e,c⟩:=x
  exact ⟨z,y,xs,Paired.mapP r fun p q z=>⟨z.1,ht _ _ z.2.1,z.2.2⟩,ob,es,ep,k _ _ (.inl rfl) e,c⟩
 | set S n=>obtain ⟨ob,es,ep,t,e,c⟩:=x;exact ⟨ob,es,ep,t,k _ _ (.inl rfl) e,c⟩
 | ins C dx fs =>
  obtain ⟨d,z,ne,e,mA,⟨od,es,ep,e2,c⟩,r⟩:=x
  exact ⟨ho _ d,z,ne,k _ _ (.inl rfl) e,mA,⟨od,es,ep,k _ _ (.inr d) e2,c⟩,r⟩
 | own y=>obtain ⟨ob,e⟩:=x;exact ⟨ob,k _ _ (.inl rfl) e⟩
 | xd fs=>obtain ⟨mA,⟨od,es,ep,e,c⟩,r⟩:=x;exact ⟨mA,⟨od,es,ep,k _ _ (.inl rfl) e,c⟩,r⟩
 | rng lo hi=>obtain ⟨t,u,v,e⟩:=x;exact ⟨t,u,v,k _ _ (.inl rfl) e⟩
 | frz ob u ih=>obtain ⟨e,q⟩:=x;exact ⟨k _ _ (.inl rfl) e,ih q⟩
 | tbl ps =>
  have e:h.get? a=some { cls:=.none,data:=.fields ps }:=x
  show h'.get? a=some { cls:=.none,data:=.fields ps }
  exact k a _ (.inl rfl) e
 | met f y =>
  have e:h.get? a=some (PySem.W.methodObj (.ref f) (.ref y)):=x
  show h'.get? a=some (PySem.W.methodObj (.ref f) (.ref y))
  exact k a _ (.inl rfl) e
 | ext φ=>obtain ⟨p,⟨o,e⟩,st⟩:=x;exact ⟨st _ _ p fun o q=>k _ _ (.inl rfl) q,⟨o,k _ _ (.inl rfl) e⟩,st⟩
theorem HOk.lt (x:HOk P w H h) (e:H a=some o):a < h.objs.size:=(x a o e).lt
theorem HOk.fresh (x:HOk P w H h) (e:h.objs.size≤a):H a=none:=by
 cases q:H a with
 | none=>rfl
 | some u=>exact absurd (Nat.lt_of_lt_of_le (x.lt q) e) (Nat.lt_irrefl _)
theorem HOk.kept (x:HOk P w H h) (k:∀ b u,h.get? b=some u→h'.get? b=some u):HOk P w H h':=fun a o e =>
 (x a o e).stay (fun b u _ q=>k b u q) (fun _ q=>q) fun _ _ q=>q
theorem HOk.laid (x:HOk P w H h) (k:∀ b u,h.get? b=some u→h'.get? b=some u) (hp:h.objs.size≤a) (new:ObjOk P w (upd H a o) h' a o):HOk P w (upd H a o) h':=fun b u e=>by
 have hn:=x.fresh hp
 by_cases hb:b=a
 ·subst hb;rw [zd] at e;cases e;exact new
 ·rw [zw hb] at e
  exact (x b u e).stay (fun c v _ q=>k c v q) (fun c q=>by rw [zw (zS q hn)];exact q) fun c xs q=>by rw [zw (zS q hn)];exact q
end
def Rd (H:Hp) (a:Addr) (u:HO):Prop:=H a=some u∨∃ o,H a=some (.frz o u)
theorem Rd.ok {P:Program} {w:World} {H:Hp} {h:Heap} {a:Addr} {u:HO} (r:Rd H a u) (x:HOk P w H h):ObjOk P w H h a u:=by
 rcases r with r | ⟨o,r⟩
 ·exact x a u r
 ·obtain ⟨_,q⟩:=x a _ r
  exact q
def Mut:Option HO→Prop
 | some (.lst _)=>True
 | some (.dK _)=>True
 | some (.dT _)=>True
 | some (.set _ _)=>True
 | some (.ins _ _ _)=>True
 | some (.ext _)=>True
 | _=>False
section
variable {P:Program} {w:World} {H:Hp} {h h':Heap} {x e:Addr} {o':HO}
theorem HOk.write (ok:HOk P w H h) (mu:Mut (H x)) (he:e=x∨H e=some (.own x)) (k:∀ b u,b≠e→h.get? b=some u→h'.get? b=some u) (heo:∃ u,h'.get? e=some u)
  (new:ObjOk P w (upd H x o') h' x o'):HOk P w (upd H x o') h':=fun b u q=>by
 have nown:∀ c y,H c=some (.own y)→c≠x:=fun c y r z=>by subst z;rw [r] at mu;exact mu
 have ntup:∀ c xs,H c=some (.tup xs)→c≠x:=fun c xs r z=>by subst z;rw [r] at mu;exact mu
 by_cases hb:b=x
 ·subst hb;rw [zd] at q;cases q;exact new
 ·rw [zw hb] at q
  by_cases hbe:b=e
  ·have q':H b=some (.own x):=by
    rcases he with z | z
    ·exact absurd (hbe.trans z) hb
    ·rw [hbe];exact z
   rw [q] at q';cases q'
   obtain ⟨v,hv⟩:=heo
   exact ⟨v,by rw [hbe];exact hv⟩
  ·refine (ok b u q).stay (fun c v hc r=>k c v ?_ r) (fun c r=>by rw [zw (nown c b r)];exact r) fun c xs r=>by rw [zw (ntup c xs r)];exact r
   rcases hc with rfl | hc
   ·exact hbe
   ·rintro rfl
    rcases he with z | z
    ·exact nown c b hc z
    ·rw [hc] at z;cases z;exact hb rfl
end
structure Un (fs ex:List Addr) (H H':Hp) (h h':Heap):Prop where
 keep:∀ b o,h.get? b=some o→H b=none→b ∉ fs→b ∉ ex→h'.get? b=some o
 slot:∀ b o,h.get? b=some o→H b=none→b∈fs→b ∉ ex→∃ sl,h'.get? b=some { o with slots:=sl }
 free:∀ b o,h.get? b=some o→H b=none→b ∉ ex→H' b=none
 there:∀ b o,h.get? b=some o→b ∉ ex→∃ o',h'.get? b=some o'
 tups:∀ b xs,H b=some (.tup xs)→H' b=some (.tup xs)
 frzs:∀ b o u,H b=some (.frz o u)→H' b=some (.frz o u)
 tbls:∀ b ps,H b=some (.tbl ps)→∃ more,H' b=some (.tbl (ps ++ more))
section
variable {fs fs' ex ex':List Addr} {H H1 H2:Hp} {h h1 h2 h':Heap} {a x e:Addr} {o:HO}
theorem Un.any (u:Un fs ex H H1 h h1) {b:Addr} {ob:Obj} (q:h.get? b=some ob) (n:H b=none) (hx:b ∉ ex):∃ sl,h1.get? b=some { ob with slots:=sl }:=by
 by_cases hb:b∈fs
 ·exact u.slot b ob q n hb hx
 ·exact ⟨ob.slots,u.keep b ob q n hb hx⟩
theorem Un.kept (k:∀ b u,h.get? b=some u→h'.get? b=some u):Un fs ex H H h h' :=
 ⟨fun b ob q _ _ _=>k b ob q,fun b ob q _ _ _=>⟨ob.slots,k b ob q⟩,fun _ _ _ n _=>n,fun b ob q _=>⟨ob,k b ob q⟩,fun _ _ q=>q,fun _ _ _ q=>q,fun _ ps q=>⟨#[],by rw [q];simp⟩⟩
theorem Un.refl:Un fs ex H H h h:=Un.kept fun _ _ q=>q
theorem Un.laid (k:∀ b u,h.get? b=some u→h'.get? b=some u) (hp:h.objs.size≤a) (hn:H a=none):Un fs ex H (upd H a o) h h' where
 keep:=fun b u q _ _ _=>k b u q
 slot:=fun b u q _ _ _=>⟨u.slots,k b u q⟩
 free:=fun b u q n _=>by rw [zw (Nat.ne_of_lt (Nat.lt_of_lt_of_le (Heap.lt_size q) hp))];exact n
 there:=fun b u q _=>⟨u,k b u q⟩
 tups:=fun b xs q=>by rw [zw (zS q hn)];exact q
 frzs:=fun b u xs q=>by rw [zw (zS q hn)];exact q
 tbls:=fun b ps q=>⟨#[],by rw [zw (zS q hn),q];simp⟩
theorem Un.write (mu:Mut (H x)) (he:e=x∨H e=some (.own x)) (k:∀ b u,b≠e→h.get? b=some u→h'.get? b=some u) (heo:∃ u,h'.get? e=some u):Un fs ex H (upd H x o) h h':=by
 have hx:∀ b,H b=none→b≠x:=fun b n z=>by subst z;rw [n] at mu;exact mu
 have hb:∀ b,H b=none→b≠e:=fun b n z=>by
  subst z
  rcases he with r | r
  ·exact hx b n r
  ·rw [n] at r;cases r
 have hm:∀ b u,H b=some u→¬ Mut (some u)→b≠x:=fun b u q nm z=>by subst z;rw [q] at mu;exact nm mu
 refine ⟨fun b u q n _ _=>k b u (hb b n) q,fun b u q n _ _=>⟨u.slots,k b u (hb b n) q⟩,fun b u q n _=>by rw [zw (hx b n)];exact n,fun b u q _=>?_,
  fun b xs q=>by rw [zw (hm b _ q fun z=>z)];exact q,fun b u xs q=>by rw [zw (hm b _ q fun z=>z)];exact q,fun b ps q=>⟨#[],by rw [zw (hm b _ q fun z=>z),q];simp⟩⟩
 by_cases hbe:b=e
 ·subst hbe;exact heo
 ·exact ⟨u,k b u hbe q⟩
end
def trk (h:Heap) (H:Hp):List Addr:=(List.range h.objs.size).filter fun a=>(H a).isSome
def WJ (h:Heap) (H:Hp):Heap:=PySem.W.hideAll h (trk h H)
theorem KY (h:Heap) (H:Hp):(WJ h H).objs.size=h.objs.size:=PySem.W.hideAll_size _ _
theorem Qx {h:Heap} {H:Hp} {b:Addr} {o:Obj} (e:h.get? b=some o) (n:H b=none):(WJ h H).get? b=some o :=
 PySem.W.hideAll_get _ e fun hm=>by
  have q:(H b).isSome=true:=(List.mem_filter.mp hm).2
  rw [n] at q;simp at q
theorem zaV {h:Heap} {H:Hp} {b:Addr} {o:Obj} (e:(WJ h H).get? b=some o):h.get? b=some o∧H b=none:=by
 have e':h.get? b=some o:=PySem.W.of_hideAll (trk h H) e
 refine ⟨e',?_⟩
 cases q:H b with
 | none=>rfl
 | some x =>
  have hm:b∈trk h H:=List.mem_filter.mpr ⟨List.mem_range.mpr (Heap.lt_size e'),by simp [q]⟩
  have z:(WJ h H).get? b=none:=PySem.W.hideAll_none (trk h H) hm
  rw [z] at e;cases e
def zaW (g h:Heap) (L:Addr):List (Addr × Obj):=(List.range h.objs.size).filterMap fun a=>if a=L∨(g.get? a).isSome=true then none else (h.get? a).map fun o=>(a,o)
def rest (g h:Heap) (L d:Addr):List (Addr × Obj):=(zaW g h L).filter fun p=>decide (p.1≠d)
end L2
namespace L2
open PySem PySem.Spec PyProof.Rows
structure Mod (K:PySem.W.Frag) (mg:Str→Option Value) (base:Heap):Prop where
 kin:K.In base
 glob:base.Ns mainGlobals mg
 blt:∃ mb,base.Ns builtinsNs mb∧∀ x:Str,x≠"__name__"→mb x=bootBuiltins x
 nolimit:base.NoLimit
set_option genSizeOf false in
set_option genInjectivity false in
structure Cx where
 prog:Program
 w:World
 K:PySem.W.Frag
 mg:Str→Option Value
 base:Heap
 A:Around
 N:List Str
 s₀:Shared
 H₀:Hp
 env:Env
 outer:List Env
 stack:List Env
 ex:List Addr
 fn:Str→Bool
 calm:Bool
 pn:List (Addr × Obj)
 xe:Value→Shared→Prop
def frs (l:List Env):List Addr:=l.filterMap (·.frame)
abbrev Cx.fs (X:Cx):List Addr:=frs X.outer
def Vis (sc:Scope) (x:Str):Prop:=sc.names.lookup x=some .local∨sc.names.lookup x=some .cell∨sc.names.lookup x=some .free
def Loc (sc:Scope) (x:Str):Prop:=sc.names.lookup x=some .local∨sc.names.lookup x=some .cell
def zcB (env:Env) (h:Heap) (m:Str→Option Value) (x:Str) (u:Value):Prop :=
 (env.kindOf x=some .local∧m x=some u)∨((env.kindOf x=some .cell∨env.kindOf x=some .free)∧∃ c,env.cells.lookup x=some c∧h.IsCell c (some u))
structure Cx.Ok (X:Cx):Prop where
 mod:Mod X.K X.mg X.base
 kind:X.env.scope.kind=.function
 glob:X.env.globals=mainGlobals
 blt:X.env.builtins=builtinsNs
 above:X.s₀.heap.objs.size≤X.env.locals
 inj:∀ x y c,X.env.cells.lookup x=some c→X.env.cells.lookup y=some c→x=y
 has:∀ x,(X.env.kindOf x=some .cell∨X.env.kindOf x=some .free)→∃ c,X.env.cells.lookup x=some c
 cab:∀ x c,X.fn x=true→X.env.cells.lookup x=some c→X.s₀.heap.objs.size≤c
 hd:X.calm=true→X.A.handled=none
 frames:X.A.frames=some X.stack
 stk:X.stack=X.outer∨(X.stack=X.env :: X.outer∧X.env.frame=some X.env.locals)
 exf:∀ b∈X.ex,b≠X.env.locals∧∀ x c,X.env.cells.lookup x=some c→c≠b
 bs:∀ b o,X.base.get? b=some o→X.s₀.heap.get? b=some o∧X.H₀ b=none
 bsz:X.base.objs.size≤X.s₀.heap.objs.size
 noex:∀ b o,X.base.get? b=some o→b ∉ X.ex
 exfs:∀ b∈X.ex,b ∉ X.fs
 funs:X.s₀.heap.FunFrames X.base X.outer
 frf:∀ b∈X.fs,X.H₀ b=none
structure Inv (X:Cx) (pins:List (Addr × Obj)) (σ:List (Option V)) (H:Hp) (s:Shared):Prop where
 ok:X.Ok
 os:s.os=X.s₀.os
 bare:AllBare s.gens
 base:Un X.fs X.ex X.H₀ H X.s₀.heap s.heap
 loc:∃ m,s.heap.Ns X.env.locals m∧∀ (i:Nat) (x:Str) (v:V),X.N[i]?=some x→σ[i]?=some (some v)→Vis X.env.scope x→∃ u,RelV v u∧zcB X.env s.heap m x u
 cell:∀ x c,X.env.cells.lookup x=some c→∃ v,s.heap.IsCell c v
 free:H X.env.locals=none
 freeC:∀ x c,X.env.cells.lookup x=some c→H c=none
 pin:∀ p∈X.pn ++ pins,s.heap.get? p.1=some p.2∧H p.1=none∧p.1≠X.env.locals∧p.1 ∉ X.fs∧∀ v,p.2.data≠.cell v
 hok:HOk X.prog X.w H s.heap
 len:σ.length=X.N.length
section
variable {X:Cx} {pins:List (Addr × Obj)} {σ:List (Option V)} {H H':Hp} {s:Shared} {h':Heap}
theorem Cx.Ok.nofr (ok:X.Ok) {b:Addr} {o:Obj} (e:X.base.get? b=some o):b ∉ X.fs:=fun hb=>by
 have:=(ok.funs.mem hb).1
 rw [e] at this;cases this
theorem Inv.bs (I:Inv X pins σ H s):∀ b o,X.base.get? b=some o→s.heap.get? b=some o∧H b=none:=fun b o e =>
 ⟨I.base.keep b o (I.ok.bs b o e).1 (I.ok.bs b o e).2 (I.ok.nofr e) (I.ok.noex b o e),I.base.free b o (I.ok.bs b o e).1 (I.ok.bs b o e).2 (I.ok.noex b o e)⟩
theorem Inv.bk (I:Inv X pins σ H s):∀ b o,X.base.get? b=some o→s.heap.get? b=some o:=fun b o e=>(I.bs b o e).1
theorem Inv.mod (I:Inv X pins σ H s):Mod X.K X.mg X.base:=I.ok.mod
theorem Inv.kIn (I:Inv X pins σ H s):X.K.In s.heap:=I.ok.mod.kin.keeps I.bk
theorem Inv.lt (I:Inv X pins σ H s):X.env.locals < s.heap.objs.size:=let ⟨_,hn,_⟩:=I.loc;hn.lt
theorem Inv.sz (I:Inv X pins σ H s):X.s₀.heap.objs.size≤s.heap.objs.size:=Nat.le_trans I.ok.above (Nat.le_of_lt I.lt)
theorem Inv.nofs (I:Inv X pins σ H s) {a:Addr} (h:s.heap.objs.size≤a):a ∉ X.fs:=fun hb=>by
 obtain ⟨_,o,ho,_⟩:=I.ok.funs.mem hb
 exact absurd (Nat.lt_of_lt_of_le (Heap.lt_size ho) (Nat.le_trans I.sz h)) (Nat.lt_irrefl _)
theorem Inv.cne (I:Inv X pins σ H s):∀ x c,X.env.cells.lookup x=some c→c≠X.env.locals:=fun x c e z=>by
 obtain ⟨v,o,ho,hd⟩:=I.cell x c e
 obtain ⟨m,⟨o',es,ep,ho',hd',_⟩,_⟩:=I.loc
 rw [z,ho'] at ho;cases ho;rw [hd'] at hd;cases hd
theorem Inv.funs (I:Inv X pins σ H s):s.heap.FunFrames X.base X.outer:=by
 have all:∀ (l:List Env),(∀ b∈frs l,b∈X.fs)→X.s₀.heap.FunFrames X.base l→s.heap.FunFrames X.base l:=by
  intro l
  induction l with
  | nil=>intro _ _;trivial
  | cons env r ih =>
   intro hs hl
   obtain ⟨hk,⟨L,o,hf,hn,ho,hd⟩,hr⟩:=hl
   have hL:L∈X.fs:=hs L (by unfold frs;rw [List.filterMap_cons,hf];exact List.mem_cons_self)
   obtain ⟨sl,e⟩:=I.base.slot L o ho (I.ok.frf L hL) hL fun z=>I.ok.exfs L z hL
   exact ⟨hk,⟨L,_,hf,hn,e,hd⟩,ih (fun b hb=>hs b (by unfold frs;rw [List.filterMap_cons,hf];exact List.mem_cons_of_mem _ hb)) hr⟩
 exact all X.outer (fun _ hb=>hb) I.ok.funs
theorem Inv.stack (I:Inv X pins σ H s):s.heap.FunFrames X.base X.stack:=by
 rcases I.ok.stk with e | ⟨e,hf⟩
 ·rw [e];exact I.funs
 ·rw [e]
  obtain ⟨m,hn,_⟩:=I.loc
  refine .cons (by rw [I.ok.kind];decide) hf hn ?_ I.funs
  exact Heap.get?_none_of_le (Nat.le_trans I.ok.bsz I.ok.above)
theorem Inv.stkSub (I:Inv X pins σ H s):∀ b∈frs X.stack,b∈X.env.locals :: X.fs:=fun b hb=>by
 rcases I.ok.stk with e | ⟨e,hf⟩
 ·rw [e] at hb;exact List.mem_cons_of_mem _ hb
 ·rw [e] at hb
  unfold frs at hb
  rw [List.filterMap_cons,hf] at hb
  exact hb
theorem Inv.stkFree (I:Inv X pins σ H s):∀ b∈frs X.stack,H b=none:=fun b hb=>by
 rcases List.mem_cons.mp (I.stkSub b hb) with e | hb
 ·rw [e];exact I.free
 ·obtain ⟨_,o,ho,_⟩:=I.ok.funs.mem hb
  exact I.base.free b o ho (I.ok.frf b hb) fun z=>I.ok.exfs b z hb
theorem Inv.step {g':Array GenState} {t':Nat} {d':Drawn} {ch:List Addr} (I:Inv X pins σ H s)
  (hch:∀ b∈ch,(b∈X.ex∨X.s₀.heap.objs.size≤b)∧b≠X.env.locals∧(∀ x c,X.env.cells.lookup x=some c→c≠b)∧∀ p∈X.pn ++ pins,p.1≠b)
  (keep:∀ b o,b≠X.env.locals→b ∉ X.fs→b ∉ ch→s.heap.get? b=some o→H b=none→h'.get? b=some o)
  (slot:∀ b o,b≠X.env.locals→b∈X.fs→b ∉ ch→s.heap.get? b=some o→H b=none→∃ sl,h'.get? b=some { o with slots:=sl }) (free:∀ b o,b ∉ ch→s.heap.get? b=some o→H b=none→H' b=none)
  (there:∀ b o,b ∉ ch→s.heap.get? b=some o→∃ o',h'.get? b=some o')
  (tups:∀ b xs,H b=some (.tup xs)→H' b=some (.tup xs)) (frzs:∀ b o u,H b=some (.frz o u)→H' b=some (.frz o u)) (tbls:∀ b ps,H b=some (.tbl ps)→∃ more,H' b=some (.tbl (ps ++ more)))
  (ns:∀ m,s.heap.Ns X.env.locals m→h'.Ns X.env.locals m) (hok:HOk X.prog X.w H' h') (hg:AllBare g') :
  Inv X pins σ H' { s with heap:=h',gens:=g',drawn:=d',toks:=t' }:=by
 have neL:∀ b o,X.s₀.heap.get? b=some o→b≠X.env.locals:=fun b o e=>Nat.ne_of_lt (Nat.lt_of_lt_of_le (Heap.lt_size e) I.ok.above)
 have neC:∀ b o,X.s₀.heap.get? b=some o→b ∉ X.ex→b ∉ ch:=fun b o e hx hb=>by
  rcases (hch b hb).1 with z | z
  ·exact hx z
  ·exact absurd (Nat.lt_of_lt_of_le (Heap.lt_size e) z) (Nat.lt_irrefl _)
 have cellK:∀ x c,X.env.cells.lookup x=some c→∀ v,s.heap.IsCell c v→h'.IsCell c v:=fun x c e v ⟨o,ho,hd⟩=>by
  have nch:c ∉ ch:=fun z=>(hch c z).2.2.1 x c e rfl
  by_cases hc:c∈X.fs
  ·obtain ⟨sl,q⟩:=slot c o (I.cne x c e) hc nch ho (I.freeC x c e)
   exact ⟨_,q,hd⟩
  ·exact ⟨o,keep c o (I.cne x c e) hc nch ho (I.freeC x c e),hd⟩
 refine ⟨I.ok,I.os,hg,⟨fun b o e n hb hx=>?_,fun b o e n hb hx=>?_,fun b o e n hx=>?_,fun b o e hx=>?_,fun b xs e=>tups b xs (I.base.tups b xs e),fun b o xs e=>frzs b o xs (I.base.frzs b o xs e),fun b ps e=>?_⟩,?_,fun x c e=>?_,?_,fun x c e=>?_,fun p hp=>?_,hok,I.len⟩
 ·exact keep b o (neL b o e) hb (neC b o e hx) (I.base.keep b o e n hb hx) (I.base.free b o e n hx)
 ·obtain ⟨sl,e1⟩:=I.base.slot b o e n hb hx
  obtain ⟨sl',e2⟩:=slot b _ (neL b o e) hb (neC b o e hx) e1 (I.base.free b o e n hx)
  exact ⟨sl',e2⟩
 ·obtain ⟨o',e1⟩:=I.base.there b o e hx
  exact free b o' (neC b o e hx) e1 (I.base.free b o e n hx)
 ·obtain ⟨o',e1⟩:=I.base.there b o e hx
  exact there b o' (neC b o e hx) e1
 ·obtain ⟨m1,e1⟩:=I.base.tbls b ps e
  obtain ⟨m2,e2⟩:=tbls b _ e1
  exact ⟨m1 ++ m2,by rw [e2,Array.append_assoc]⟩
 ·obtain ⟨m,hn,hl⟩:=I.loc
  refine ⟨m,ns m hn,fun i x v e1 e2 e3=>?_⟩
  obtain ⟨u,r,l⟩:=hl i x v e1 e2 e3
  refine ⟨u,r,?_⟩
  rcases l with l | ⟨k,c,e,z⟩
  ·exact .inl l
  ·exact .inr ⟨k,c,e,cellK x c e _ z⟩
 ·obtain ⟨v,z⟩:=I.cell x c e
  exact ⟨v,cellK x c e v z⟩
 ·obtain ⟨m,⟨o,_,_,ho,_⟩,_⟩:=I.loc
  exact free _ o (fun z=>(hch _ z).2.1 rfl) ho I.free
 ·obtain ⟨v,o,ho,hd⟩:=I.cell x c e
  exact free c o (fun z=>(hch c z).2.2.1 x c e rfl) ho (I.freeC x c e)
 ·obtain ⟨e,n,ne,nf,d⟩:=I.pin p hp
  have nch:p.1 ∉ ch:=fun z=>(hch p.1 z).2.2.2 p hp rfl
  exact ⟨keep p.1 p.2 ne nf nch e n,free p.1 p.2 nch e n,ne,nf,d⟩
theorem Inv.un {t':Nat} (I:Inv X pins σ H s) (u:Un X.fs [] H H' s.heap h') (hok:HOk X.prog X.w H' h'):Inv X pins σ H' { s with heap:=h',toks:=t' }:=by
 obtain ⟨m,⟨o,es,ep,ho,r⟩,_⟩:=id I.loc
 obtain ⟨sl,hL⟩:=u.any ho I.free (by simp)
 exact I.step (g':=s.gens) (d':=s.drawn) (ch:=[]) (fun _ z=>nomatch z) (fun b o _ hb _ e n=>u.keep b o e n hb (by simp)) (fun b o _ hb _ e n=>u.slot b o e n hb (by simp)) (fun b o _ e n=>u.free b o e n (by simp)) (fun b o _ e=>u.there b o e (by simp)) u.tups u.frzs u.tbls (fun m' hm=>by
  obtain ⟨o',es',ep',ho',r'⟩:=hm
  rw [ho] at ho';cases ho'
  exact ⟨_,es',ep',hL,r'⟩) hok I.bare
theorem Inv.call {g':Array GenState} {t':Nat} {d':Drawn} {ch:List Addr} (I:Inv X pins σ H s) (u:Un (frs X.stack) ch H H' s.heap h') (hok:HOk X.prog X.w H' h') (hg:AllBare g')
  (hch:∀ b∈ch,(b∈X.ex∨X.s₀.heap.objs.size≤b)∧b≠X.env.locals∧(∀ x c,X.env.cells.lookup x=some c→c≠b)∧∀ p∈X.pn ++ pins,p.1≠b) :
  Inv X pins σ H' { s with heap:=h',gens:=g',drawn:=d',toks:=t' }:=by
 obtain ⟨m,⟨o,es,ep,ho,r⟩,_⟩:=id I.loc
 obtain ⟨sl,hL⟩:=u.any ho I.free fun z=>(hch _ z).2.1 rfl
 exact I.step (ch:=ch) hch (fun b o hL hb hc e n=>u.keep b o e n (fun z=>(List.mem_cons.mp (I.stkSub b z)).elim hL hb) hc) (fun b o _ _ hc e n=>u.any e n hc) (fun b o hc e n=>u.free b o e n hc) (fun b o hc e=>u.there b o e hc) u.tups u.frzs u.tbls (fun m' hm=>by
  obtain ⟨o',es',ep',ho',r'⟩:=hm
  rw [ho] at ho';cases ho'
  exact ⟨_,es',ep',hL,r'⟩) hok hg
theorem Inv.turned {t':Nat} {it:Addr} (I:Inv X pins σ H s) (k:∀ b o,b≠it→s.heap.get? b=some o→h'.get? b=some o) (hn:H it=none) (hL:it≠X.env.locals)
  (h1:it∈X.ex∨X.s₀.heap.objs.size≤it) (h2:∀ x c,X.env.cells.lookup x=some c→c≠it) (h3:∀ p∈X.pn ++ pins,p.1≠it):Inv X pins σ H { s with heap:=h',toks:=t' }:=by
 have nit:∀ b u,H b=some u→b≠it:=fun b u e z=>by rw [z,hn] at e;cases e
 refine I.step (g':=s.gens) (d':=s.drawn) (ch:=[it]) (fun b hb=>?_) (fun b o _ _ hc e _=>k b o (fun z=>hc (by simp [z])) e) (fun b o _ _ hc e _=>⟨o.slots,k b o (fun z=>hc (by simp [z])) e⟩) (fun _ _ _ _ n=>n)
  (fun b o hc e=>⟨o,k b o (fun z=>hc (by simp [z])) e⟩) (fun _ _ e=>e) (fun _ _ _ e=>e) (fun b ps e=>⟨#[],by rw [e];simp⟩) (fun m hm=>?_) (fun b u e=>?_) I.bare
 ·have e:b=it:=by simpa using hb
  subst e
  exact ⟨h1,hL,h2,h3⟩
 ·obtain ⟨o,es,ep,ho,r⟩:=hm
  exact ⟨o,es,ep,k _ o (Ne.symm hL) ho,r⟩
 ·refine (I.hok b u e).stay (fun c v hc q=>k c v ?_ q) (fun _ q=>q) fun _ _ q=>q
  rcases hc with z | z
  ·rw [z];exact nit b u e
  ·exact nit c _ z
theorem Inv.tok (I:Inv X pins σ H s) (t:Nat):Inv X pins σ H { s with toks:=t }:=I.un (h':=s.heap) (t':=t) Un.refl I.hok
theorem Inv.kept {t':Nat} (I:Inv X pins σ H s) (k:∀ b u,s.heap.get? b=some u→h'.get? b=some u):Inv X pins σ H { s with heap:=h',toks:=t' }:=I.un (Un.kept k) (I.hok.kept k)
theorem Inv.laid {a:Addr} {o:HO} {t':Nat} (I:Inv X pins σ H s) (k:∀ b u,s.heap.get? b=some u→h'.get? b=some u) (hp:s.heap.objs.size≤a) (new:ObjOk X.prog X.w (upd H a o) h' a o) :
  Inv X pins σ (upd H a o) { s with heap:=h',toks:=t' }:=I.un (Un.laid k hp (I.hok.fresh hp)) (I.hok.laid k hp new)
theorem Inv.write {x e:Addr} {o:HO} {t':Nat} (I:Inv X pins σ H s) (mu:Mut (H x)) (he:e=x∨H e=some (.own x)) (k:∀ b u,b≠e→s.heap.get? b=some u→h'.get? b=some u) (heo:∃ u,h'.get? e=some u)
  (new:ObjOk X.prog X.w (upd H x o) h' x o):Inv X pins σ (upd H x o) { s with heap:=h',toks:=t' }:=I.un (Un.write mu he k heo) (I.hok.write mu he k heo new)
theorem Inv.pins_of {pins':List (Addr × Obj)} (I:Inv X pins σ H s) (h:∀ p∈pins',s.heap.get? p.1=some p.2∧H p.1=none∧p.1≠X.env.locals∧p.1 ∉ X.fs∧∀ v,p.2.data≠.cell v):Inv X pins' σ H s :=
 ⟨I.ok,I.os,I.bare,I.base,I.loc,I.cell,I.free,I.freeC,fun p hp=>(List.mem_append.mp hp).elim (fun z=>I.pin p (List.mem_append_left _ z)) (h p),I.hok,I.len⟩
theorem Xb {N:List Str} (hN:N.Nodup) {i j:Nat} {x:Str} (a:N[i]?=some x) (b:N[j]?=some x):i=j:=by
 obtain ⟨h1,e1⟩:=List.getElem?_eq_some_iff.mp a
 obtain ⟨h2,e2⟩:=List.getElem?_eq_some_iff.mp b
 exact (List.getElem_inj hN).mp (e1.trans e2.symm)
theorem KZ {M:Model} {A:Around} {E:Value→Shared→Prop} {i:Nat} {x:Str} {v:V} {u:Value} {Q:Unit→Shared→Prop} (I:Inv X pins σ H s) (hN:X.N.Nodup) (hi:X.N[i]?=some x) (hx:Loc X.env.scope x) (r:RelV v u)
  (h:∀ s',Inv X pins (σ.set i (some v)) H s'→(∃ a,Heap.SameBut a s.heap s'.heap∧(a=X.env.locals∨X.env.cells.lookup x=some a))→Q () s') (hf:X.fn x=true∨X.env.scope.names.lookup x=some .local:=by first | exact .inl rfl | exact .inr rfl | assumption):wpAny M A (storeName X.env x u) Q E s:=by
 obtain ⟨m,hn,hl⟩:=id I.loc
 have hcls:(X.env.scope.kind == .class || (X.env.scope.kind == .module && X.env.locals != X.env.globals))=false:=by rw [I.ok.kind];rfl
 have hiσ:i < σ.length:=by rw [I.len];exact (List.getElem?_eq_some_iff.mp hi).1
 have cne:=I.cne
 have tracked:∀ {a:Addr} {h':Heap},(∃ o,s.heap.get? a=some o∧H a=none)→Heap.SameBut a s.heap h'→HOk X.prog X.w H h':=fun {a h'} ha hs b ob e=>by
  obtain ⟨_,_,hfree⟩:=ha
  refine (I.hok b ob e).stay (fun c w' hc q=>(hs.2 c ?_).trans q) (fun _ q=>q) fun _ _ q=>q
  rintro rfl
  rcases hc with rfl | hc
  ·rw [hfree] at e;cases e
  ·rw [hfree] at hc;cases hc
 rcases hx with hk | hk
 ·refine wpAny_storeName_local hk hn (fun h' hn' hs=>?_) hcls
  obtain ⟨oL,_,_,hoL,_⟩:=id hn
  refine h _ ⟨I.ok,I.os,I.bare,⟨fun b o e n hb hx=>?_,fun b o e n hb hx=>?_,I.base.free,fun b o e hx=>?_,I.base.tups,I.base.frzs,I.base.tbls⟩,⟨_,hn',fun j y v' e1 e2 e3=>?_⟩,fun y c e=>?_,I.free,I.freeC,fun p hp=>?_,tracked ⟨oL,hoL,I.free⟩ hs,by simpa using I.len⟩ ⟨_,hs,.inl rfl⟩
  ·exact (hs.2 b (Nat.ne_of_lt (Nat.lt_of_lt_of_le (Heap.lt_size e) I.ok.above))).trans (I.base.keep b o e n hb hx)
  ·obtain ⟨sl,e1⟩:=I.base.slot b o e n hb hx
   exact ⟨sl,(hs.2 b (Nat.ne_of_lt (Nat.lt_of_lt_of_le (Heap.lt_size e) I.ok.above))).trans e1⟩
  ·obtain ⟨o',e1⟩:=I.base.there b o e hx
   exact ⟨o',(hs.2 b (Nat.ne_of_lt (Nat.lt_of_lt_of_le (Heap.lt_size e) I.ok.above))).trans e1⟩
  ·by_cases hj:j=i
   ·subst hj
    rw [hi] at e1;cases e1
    rw [List.getElem?_set_self hiσ] at e2
    cases e2
    exact ⟨u,r,.inl ⟨hk,by simp⟩⟩
   ·rw [List.getElem?_set_ne (Ne.symm hj)] at e2
    obtain ⟨u',r',q⟩:=hl j y v' e1 e2 e3
    refine ⟨u',r',?_⟩
    rcases q with ⟨k,e⟩ | ⟨k,c,e,z⟩
    ·refine .inl ⟨k,?_⟩
     have:y≠x:=fun e=>hj (Xb hN e1 (e ▸ hi))
     simp [this,e]
    ·exact .inr ⟨k,c,e,z.sameBut hs (cne y c e)⟩
  ·obtain ⟨w',z⟩:=I.cell y c e
   exact ⟨w',z.sameBut hs (cne y c e)⟩
  ·obtain ⟨e,n,ne,nf,d⟩:=I.pin p hp
   exact ⟨(hs.2 p.1 ne).trans e,n,ne,nf,d⟩
 ·have hfn:X.fn x=true:=by
   rcases hf with z | z
   ·exact z
   ·rw [z] at hk;cases hk
  obtain ⟨c,hc⟩:=I.ok.has x (.inl hk)
  obtain ⟨w',z⟩:=I.cell x c hc
  refine wpAny_storeName_cell I.ok.kind hk hc z (fun h' hc' hs=>?_)
  obtain ⟨oc,hoc,hocd⟩:=id z
  refine h { s with heap:=h' } ⟨I.ok,I.os,I.bare,⟨fun b o e n hb hx=>?_,fun b o e n hb hx=>?_,I.base.free,fun b o e hx=>?_,I.base.tups,I.base.frzs,I.base.tbls⟩,⟨m,hn.sameBut hs (Ne.symm (cne x c hc)),fun j y v' e1 e2 e3=>?_⟩,fun y c' e=>?_,I.free,I.freeC,fun p hp=>?_,tracked ⟨oc,hoc,I.freeC x c hc⟩ hs,by simpa using I.len⟩ ⟨c,hs,.inr hc⟩
  ·exact (hs.2 b (Nat.ne_of_lt (Nat.lt_of_lt_of_le (Heap.lt_size e) (I.ok.cab x c hfn hc)))).trans (I.base.keep b o e n hb hx)
  ·obtain ⟨sl,e1⟩:=I.base.slot b o e n hb hx
   exact ⟨sl,(hs.2 b (Nat.ne_of_lt (Nat.lt_of_lt_of_le (Heap.lt_size e) (I.ok.cab x c hfn hc)))).trans e1⟩
  ·obtain ⟨o',e1⟩:=I.base.there b o e hx
   exact ⟨o',(hs.2 b (Nat.ne_of_lt (Nat.lt_of_lt_of_le (Heap.lt_size e) (I.ok.cab x c hfn hc)))).trans e1⟩
  ·by_cases hj:j=i
   ·subst hj
    rw [hi] at e1;cases e1
    rw [List.getElem?_set_self hiσ] at e2
    cases e2
    exact ⟨u,r,.inr ⟨.inl hk,c,hc,hc'⟩⟩
   ·rw [List.getElem?_set_ne (Ne.symm hj)] at e2
    obtain ⟨u',r',q⟩:=hl j y v' e1 e2 e3
    refine ⟨u',r',?_⟩
    rcases q with q | ⟨k,c',e,z'⟩
    ·exact .inl q
    ·refine .inr ⟨k,c',e,z'.sameBut hs ?_⟩
     rintro rfl
     exact hj (Xb hN e1 (I.ok.inj _ _ _ e hc ▸ hi))
  ·by_cases hcc:c'=c
   ·subst hcc;exact ⟨_,hc'⟩
   ·obtain ⟨w2,z2⟩:=I.cell y c' e
    exact ⟨w2,z2.sameBut hs hcc⟩
  ·obtain ⟨e,n,ne,nf,d⟩:=I.pin p hp
   refine ⟨(hs.2 p.1 ?_).trans e,n,ne,nf,d⟩
   intro q
   rw [q,hoc] at e
   have q':oc=p.2:=Option.some.inj e
   exact d w' (by rw [← q'];exact hocd)
theorem kc {M:Model} {A:Around} {E:Value→Shared→Prop} {i:Nat} {x:Str} {v:V} {u:Value} {Q:Unit→Shared→Prop} (I:Inv X pins σ H s) (hN:X.N.Nodup) (hi:X.N[i]?=some x) (hx:Loc X.env.scope x) (r:RelV v u)
  (h:∀ s',Inv X pins (σ.set i (some v)) H s'→Q () s') (hf:X.fn x=true∨X.env.scope.names.lookup x=some .local:=by first | exact .inl rfl | exact .inr rfl | assumption):wpAny M A (storeName X.env x u) Q E s :=
 KZ I hN hi hx r (fun s' I' _=>h s' I') hf
theorem Inv.call' {s':Shared} {ch:List Addr} (I:Inv X pins σ H s) (ho:s'.os=s.os) (u:Un (frs X.stack) ch H H' s.heap s'.heap) (hok:HOk X.prog X.w H' s'.heap) (hg:AllBare s'.gens)
  (hch:∀ b∈ch,(b∈X.ex∨X.s₀.heap.objs.size≤b)∧b≠X.env.locals∧(∀ x c,X.env.cells.lookup x=some c→c≠b)∧∀ p∈X.pn ++ pins,p.1≠b):Inv X pins σ H' s':=by
 obtain ⟨h',g',d',t',o'⟩:=s'
 have e:o'=s.os:=ho
 subst e
 exact I.call (g':=g') (t':=t') (d':=d') u hok hg hch
end
abbrev XK:=Value→Option Addr→Hp→Prop
abbrev St:=List (Option V)
abbrev VK:=V→Hp→Prop
abbrev TE:=St→Hp→VK→Prop
abbrev TT:=St→Hp→(Bool→Hp→Prop)→Prop
abbrev TA:=St→Hp→(List V→Hp→Prop)→Prop
set_option genSizeOf false in
set_option genInjectivity false in
structure ke where
 nx:St→Hp→Prop
 rt:VK
 bk:St→Hp→Prop:=fun _ _=>False
 ct:St→Hp→Prop:=fun _ _=>False
abbrev TS:=ke→St→Hp→Prop
def EP (X:Cx) (pins:List (Addr × Obj)) (σ:St) (Q:VK) (u:Value) (s':Shared):Prop:=∃ v H',Inv X pins σ H' s'∧RelV v u∧Q v H'
def TP (X:Cx) (pins:List (Addr × Obj)) (σ:St) (Q:Bool→Hp→Prop) (b:Bool) (s':Shared):Prop:=∃ H',Inv X pins σ H' s'∧Q b H'
def AP (X:Cx) (pins:List (Addr × Obj)) (σ:St) (Q:List V→Hp→Prop) (us:List Value) (s':Shared):Prop:=∃ vs H',Inv X pins σ H' s'∧Vals vs us∧Q vs H'
def SP (X:Cx) (pins:List (Addr × Obj)) (D:ke) (f:Flow) (s':Shared):Prop :=
 match f with
 | .next=>∃ σ' H',Inv X pins σ' H' s'∧D.nx σ' H'
 | .brk=>∃ σ' H',Inv X pins σ' H' s'∧D.bk σ' H'
 | .cont=>∃ σ' H',Inv X pins σ' H' s'∧D.ct σ' H'
 | .ret u=>∃ v σ' H',Inv X pins σ' H' s'∧RelV v u∧D.rt v H'
def PE (X:Cx) (e:Expr) (t:TE):Prop :=
 ∀ (pins:List (Addr × Obj)) (s:Shared) (σ:St) (H:Hp) (Q:VK),Inv X pins σ H s→t σ H Q→wpAny (model X.prog X.w) X.A (eval e X.env) (EP X pins σ Q) X.xe s
def PT (X:Cx) (e:Expr) (t:TT):Prop :=
 ∀ (pins:List (Addr × Obj)) (s:Shared) (σ:St) (H:Hp) (Q:Bool→Hp→Prop),Inv X pins σ H s→t σ H Q→wpAny (model X.prog X.w) X.A (isTrue e X.env (eval e X.env)) (TP X pins σ Q) X.xe s
def PW (X:Cx) (e:Expr) (t:TT):Prop :=
 ∀ (whole:Sem Value) (pins:List (Addr × Obj)) (s:Shared) (σ:St) (H:Hp) (Q:Bool→Hp→Prop),Inv X pins σ H s→t σ H Q→wpAny (model X.prog X.w) X.A (isTrue e X.env whole) (TP X pins σ Q) X.xe s
theorem PW.pt {X:Cx} {e:Expr} {t:TT} (h:PW X e t):PT X e t:=h _
def PA (X:Cx) (es:List Expr) (t:TA):Prop :=
 ∀ (pos:Pos) (pins:List (Addr × Obj)) (s:Shared) (σ:St) (H:Hp) (Q:List V→Hp→Prop),Inv X pins σ H s→t σ H Q→wpAny (model X.prog X.w) X.A (spliced (backTo pos (starEach es X.env))) (AP X pins σ Q) X.xe s
def PS (X:Cx) (st:Stmt) (t:TS):Prop :=
 ∀ (pins:List (Addr × Obj)) (s:Shared) (σ:St) (H:Hp) (D:ke),Inv X pins σ H s→t D σ H→wpAny (model X.prog X.w) X.A (exec st X.env) (SP X pins D) X.xe s
def PSs (X:Cx) (st:List Stmt) (t:TS):Prop :=
 ∀ (pins:List (Addr × Obj)) (s:Shared) (σ:St) (H:Hp) (D:ke),Inv X pins σ H s→t D σ H→wpAny (model X.prog X.w) X.A (execs st X.env) (SP X pins D) X.xe s
theorem thn {α:Type} {t:Sem α} {Q Q':α→Shared→Prop} {M:Model} {A:Around} {E:Value→Shared→Prop} {s:Shared} (h:wpAny M A t Q E s) (hQ:∀ a s,Q a s→Q' a s):wpAny M A t Q' E s:=wpAny_mono h hQ fun _ _ x=>x
end L2
namespace L2
open PySem PySem.Spec PyProof.Rows
section
variable {X:Cx}
def ze (i:Nat):TE:=fun σ H Q=>∃ v,σ[i]?=some (some v)∧Q v H
def tC (v:V):TE:=fun _ H Q=>Q v H
theorem zbR {i:Nat} {x:Str} {pos:Pos} (hN:X.N[i]?=some x) (hv:Vis X.env.scope x) (hd:(x == ("__debug__":Str))=false:=by decide) (hcd:(x == ("__classdict__":Str))=false:=by decide):PE X (.Name x pos) (ze i):=by
 intro pins s σ H Q I h
 obtain ⟨v,e,h⟩:=h
 obtain ⟨m,hn,hl⟩:=I.loc
 obtain ⟨u,r,l⟩:=hl i x v hN e hv
 have fin:EP X pins σ Q u s:=⟨v,H,I,r,h⟩
 rcases l with ⟨hk,hm⟩ | ⟨hk,c,hc,hcell⟩
 ·exact wpAny_Name (wpAny_loadName_local I.ok.kind hk hn hm fin) hd
 ·rcases hk with hk | hk
  ·exact wpAny_Name (wpAny_loadName_cell I.ok.kind hk hc hcell fin) hd
  ·exact wpAny_Name (wpAny_loadName_free I.ok.kind hk hc hcell fin hcd) hd
theorem zi {i j pos}:PE X (.Constant (.int i) j pos) (tC (.int i)):=fun _ _ _ H _ I h=>wpAny_Constant_int ⟨.int i,H,I.tok _,⟨_,rfl⟩,h⟩
theorem ww {b j pos}:PE X (.Constant (.bool b) j pos) (tC (.bl b)):=fun _ _ _ H _ I h=>Constant_bool ⟨.bl b,H,I,rfl,h⟩
theorem zbS {j pos}:PE X (.Constant .none j pos) (tC .non):=fun _ _ _ H _ I h=>Constant_none ⟨.non,H,I,rfl,h⟩
theorem zn {x j pos}:PE X (.Constant (.str x) j pos) (tC (.str x)):=fun _ _ _ H _ I h=>Calls.Constant_str ⟨.str x,H,I.tok _,⟨_,rfl⟩,h⟩
def Gl (X:Cx) (x:Str):Prop:=X.env.kindOf x=some .globalImplicit
theorem x9 {E:Value→Shared→Prop} {pins:List (Addr × Obj)} {s:Shared} {σ:St} {H:Hp} {x:Str} {u:Value} {pos:Pos} {Q:Value→Shared→Prop} (I:Inv X pins σ H s) (hg:Gl X x) (hm:X.mg x=some u) (h:Q u s)
  (hd:(x == ("__debug__":Str))=false:=by decide):wpAny (model X.prog X.w) X.A (eval (.Name x pos) X.env) Q E s :=
 Calls.Name_function_global I.ok.kind hg (Calls.loadGlobal_global (by rw [I.ok.glob];exact I.mod.glob.keeps I.bk) hm h) hd
theorem Zh {E:Value→Shared→Prop} {pins:List (Addr × Obj)} {s:Shared} {σ:St} {H:Hp} {x:Str} {u:Value} {pos:Pos} {Q:Value→Shared→Prop} (I:Inv X pins σ H s) (hg:Gl X x) (hm:X.mg x=none) (hv:bootBuiltins x=some u) (h:Q u s)
  (hn:x≠"__name__":=by decide) (hd:(x == ("__debug__":Str))=false:=by decide):wpAny (model X.prog X.w) X.A (eval (.Name x pos) X.env) Q E s:=by
 obtain ⟨mb,h1,h2⟩:=I.mod.blt
 exact Calls.Name_function_global I.ok.kind hg (Calls.loadGlobal_builtin (by rw [I.ok.glob];exact I.mod.glob.keeps I.bk) hm (by rw [I.ok.blt];exact h1.keeps I.bk) ((h2 x hn).trans hv) h) hd
theorem yF {x:Str} {v:V} {u:Value} {pos:Pos} (hg:Gl X x) (hm:X.mg x=some u) (r:RelV v u) (hd:(x == ("__debug__":Str))=false:=by decide):PE X (.Name x pos) (tC v) :=
 fun _ _ _ H _ I h=>x9 I hg hm ⟨v,H,I,r,h⟩ hd
theorem qQ {x:Str} {v:V} {u:Value} {pos:Pos} (hg:Gl X x) (hm:X.mg x=none) (hv:bootBuiltins x=some u) (r:RelV v u) (hn:x≠"__name__":=by decide) (hd:(x == ("__debug__":Str))=false:=by decide):PE X (.Name x pos) (tC v) :=
 fun _ _ _ H _ I h=>Zh I hg hm hv ⟨v,H,I,r,h⟩ hn hd
variable {a b:Expr} {ta tb:TE} {pos:Pos}
def tB (t:TE):TT:=fun σ H Q=>t σ H fun x H1=>∃ c,x=.bl c∧Q c H1
theorem xw {e:Expr} {t:TE} (h:PE X e t) (he:∀ whole,isTrue e X.env whole=(do let v ← whole;standAt e.pos;holding [v] (truthy v)):=by intro _;rfl):PT X e (tB t):=by
 intro pins s σ H Q I hw
 refine isTrue_plain (thn (h pins s σ H _ I hw) fun v s1 ⟨x,H1,I1,r1,q1⟩=>?_) (he _)
 obtain ⟨d,rfl,q⟩:=q1
 cases r1
 exact wpAny_truthy_bool ⟨H1,I1,q⟩
variable {tA tB':TT} {rest:List Expr}
def wS (t u:TT):TT:=fun σ H Q=>t σ H fun c H1=>if c=true then u σ H1 Q else Q false H1
def tOr (t u:TT):TT:=fun σ H Q=>t σ H fun c H1=>if c=true then Q true H1 else u σ H1 Q
def vd (t:TT):TT:=fun σ H Q=>t σ H fun c H1=>Q (!c) H1
theorem jL (ha:PT X a tA):PW X (.BoolOp .And [a] pos) tA:=by
 intro wh pins s σ H Q I h
 refine isTrue_and (thn (ha pins s σ H Q I h) fun c s1 e=>?_)
 cases c with
 | true=>exact isTrue_and_nil e
 | false=>exact e
theorem ve (ha:PT X a tA):PW X (.BoolOp .Or [a] pos) tA:=by
 intro wh pins s σ H Q I h
 refine isTrue_or (thn (ha pins s σ H Q I h) fun c s1 e=>?_)
 cases c with
 | false=>exact isTrue_or_nil e
 | true=>exact e
theorem vN (ha:PT X a tA) (hb:PW X (.BoolOp .And (b :: rest) pos) tB'):PW X (.BoolOp .And (a :: b :: rest) pos) (wS tA tB'):=by
 intro wh pins s σ H Q I h
 refine isTrue_and (thn (ha pins s σ H _ I h) fun c s1 ⟨H1,I1,q1⟩=>?_)
 cases c with
 | true=>exact hb wh pins s1 σ H1 Q I1 q1
 | false=>exact ⟨H1,I1,q1⟩
theorem jm (ha:PT X a tA) (hb:PW X (.BoolOp .Or (b :: rest) pos) tB'):PW X (.BoolOp .Or (a :: b :: rest) pos) (tOr tA tB'):=by
 intro wh pins s σ H Q I h
 refine isTrue_or (thn (ha pins s σ H _ I h) fun c s1 ⟨H1,I1,q1⟩=>?_)
 cases c with
 | true=>exact ⟨H1,I1,q1⟩
 | false=>exact hb wh pins s1 σ H1 Q I1 q1
theorem kq (ha:PT X a tA):PT X (.UnaryOp .Not a pos) (vd tA):=by
 intro pins s σ H Q I h
 exact isTrue_not (ha pins s σ H (fun c H1=>Q (!c) H1) I h)
def jM (ta tb:TE):TE:=fun σ H Q=>ta σ H fun x H1=>∃ c,x=.bl c∧if c=true then tb σ H1 Q else Q (.bl false) H1
def Jt (ta tb:TE):TE:=fun σ H Q=>ta σ H fun x H1=>∃ c,x=.bl c∧if c=true then Q (.bl true) H1 else tb σ H1 Q
def Qy (ta:TE):TE:=fun σ H Q=>ta σ H fun x H1=>∃ c,x=.bl c∧Q (.bl (!c)) H1
theorem Yf {op} {t:TE} (h:PE X a t):PE X (.BoolOp op [a] pos) t:=fun pins s σ H Q I hw=>BoolOp_one (h pins s σ H Q I hw)
theorem Zi (ha:PE X a ta) (hb:PE X (.BoolOp .And (b :: rest) pos) tb):PE X (.BoolOp .And (a :: b :: rest) pos) (jM ta tb):=by
 intro pins s σ H Q I h
 refine BoolOp_and (thn (ha pins s σ H _ I h) fun v s1 ⟨x,H1,I1,r1,q1⟩=>?_)
 obtain ⟨c,rfl,q1⟩:=q1
 cases r1
 refine wpAny_truthy_bool ?_
 cases c with
 | true=>exact hb pins s1 σ H1 Q I1 q1
 | false=>exact ⟨.bl false,H1,I1,rfl,q1⟩
theorem zcC (ha:PE X a ta) (hb:PE X (.BoolOp .Or (b :: rest) pos) tb):PE X (.BoolOp .Or (a :: b :: rest) pos) (Jt ta tb):=by
 intro pins s σ H Q I h
 refine BoolOp_or (thn (ha pins s σ H _ I h) fun v s1 ⟨x,H1,I1,r1,q1⟩=>?_)
 obtain ⟨c,rfl,q1⟩:=q1
 cases r1
 refine wpAny_truthy_bool ?_
 cases c with
 | false=>exact hb pins s1 σ H1 Q I1 q1
 | true=>exact ⟨.bl true,H1,I1,rfl,q1⟩
theorem zbT (ha:PE X a ta):PE X (.UnaryOp .Not a pos) (Qy ta):=by
 intro pins s σ H Q I h
 refine UnaryOp_ (thn (ha pins s σ H _ I h) fun v s1 ⟨x,H1,I1,r1,q1⟩=>?_)
 obtain ⟨c,rfl,q1⟩:=q1
 cases r1
 exact not_of (wpAny_truthy_bool ⟨.bl (!c),H1,I1,rfl,q1⟩)
def tIf (t:TT) (ta tb:TE):TE:=fun σ H Q=>t σ H fun c H1=>if c=true then ta σ H1 Q else tb σ H1 Q
theorem ZH {c:Expr} (hc:PT X c tA) (ha:PE X a ta) (hb:PE X b tb):PE X (.IfExp c a b pos) (tIf tA ta tb):=by
 intro pins s σ H Q I h
 refine wpAny_IfExp (thn (hc pins s σ H _ I h) fun d s1 ⟨H1,I1,q1⟩=>?_)
 cases d with
 | true=>exact ha pins s1 σ H1 Q I1 q1
 | false=>exact hb pins s1 σ H1 Q I1 q1
end
end L2
namespace L2
open PySem PySem.Spec PyProof.Rows
def SqL (K:PySem.W.Frag) (H:Hp) (a:Addr) (xs:List V):Prop :=
 Rd H a (.lst xs) ∨
  ∃ (o:Obj) (its:Array Value) (n:Nat),K.lookup a=some o∧o.cls=.type "list"∧o.dict=none∧o.data=.seq its n∧its.size≤sizeLine∧Vals xs its.toList
def SqT (K:PySem.W.Frag) (H:Hp) (a:Addr) (xs:List V):Prop :=
 Rd H a (.tup xs) ∨
  ∃ (o:Obj) (its:Array Value) (n:Nat),K.lookup a=some o∧o.cls=.type "tuple"∧o.data=.seq its n∧its.size≤sizeLine∧Vals xs its.toList
def zc0:Value→Option V
 | .none=>some .non
 | .bool b=>some (.bl b)
 | .int i _=>some (.int i)
 | .str x _=>some (.str x)
 | .bytes b _=>some (.byt b)
 | .float b _=>some (.flt b)
 | .ref a=>some (.ref a)
 | .type n=>some (.ty n)
 | _=>none
theorem RelV.abs {x:V} {u:Value} (r:RelV x u):zc0 u=some x:=by
 cases x with
 | non=>cases r;rfl
 | bl _=>cases r;rfl
 | int _=>obtain ⟨t,rfl⟩:=r;rfl
 | str _=>obtain ⟨t,rfl⟩:=r;rfl
 | byt _=>obtain ⟨t,rfl⟩:=r;rfl
 | flt _=>obtain ⟨t,rfl⟩:=r;rfl
 | ref _=>cases r;rfl
 | ty _=>cases r;rfl
theorem RelV.inj {x y:V} {u:Value} (r:RelV x u) (q:RelV y u):x=y:=Option.some.inj (r.abs.symm.trans q.abs)
theorem Vals.inj:∀ {xs ys:List V} {us:List Value},Vals xs us→Vals ys us→xs=ys
 | _,_,_,.nil,.nil=>rfl
 | _,_,_,.cons r t,.cons r' t'=>by rw [r.inj r',Vals.inj t t']
section
variable {X:Cx} {pins:List (Addr × Obj)} {σ:St} {H:Hp} {s:Shared} {a:Addr} {xs ys:List V}
theorem SqL.of {K:PySem.W.Frag} (h:H a=some (.lst xs)):SqL K H a xs:=.inl (.inl h)
theorem SqT.of {K:PySem.W.Frag} (h:H a=some (.tup xs)):SqT K H a xs:=.inl (.inl h)
theorem Inv.list (I:Inv X pins σ H s) (h:SqL X.K H a xs):∃ its:List Value,Vals xs its∧PlainL s.heap a its.toArray∧xs.length≤sizeLine:=by
 rcases h with h | ⟨o,its,n,hk,hc,hd,hs,hz,r⟩
 ·obtain ⟨z,its,n,r,e⟩:=h.ok I.hok
  exact ⟨its,r,⟨_,n,e,rfl,rfl,rfl⟩,z⟩
 ·refine ⟨its.toList,r,⟨o,n,I.kIn a o hk,hc,hd,by simpa using hs⟩,?_⟩
  have e:=r.length
  simp only [Array.length_toList] at e
  lia
theorem Inv.tuple (I:Inv X pins σ H s) (h:SqT X.K H a xs):∃ its:List Value,Vals xs its∧IsTup s.heap a its.toArray∧xs.length≤sizeLine:=by
 rcases h with h | ⟨o,its,n,hk,hc,hs,hz,r⟩
 ·obtain ⟨z,its,r,p⟩:=h.ok I.hok
  exact ⟨its,r,p,z⟩
 ·refine ⟨its.toList,r,⟨o,I.kIn a o hk,hc,n,by simpa using hs⟩,?_⟩
  have e:=r.length
  simp only [Array.length_toList] at e
  lia
theorem Inv.list_inj (I:Inv X pins σ H s) (h:SqL X.K H a xs) (h':SqL X.K H a ys):xs=ys:=by
 obtain ⟨its,r,⟨o,n,e,_,_,d⟩,_⟩:=I.list h
 obtain ⟨its',r',⟨o',n',e',_,_,d'⟩,_⟩:=I.list h'
 rw [e] at e';cases e'
 rw [d] at d'
 injection d' with d1 _
 have:its=its':=by simpa using congrArg Array.toList d1
 subst this
 exact r.inj r'
theorem Inv.tuple_inj (I:Inv X pins σ H s) (h:SqT X.K H a xs) (h':SqT X.K H a ys):xs=ys:=by
 obtain ⟨its,r,⟨o,e,_,n,d⟩,_⟩:=I.tuple h
 obtain ⟨its',r',⟨o',e',_,n',d'⟩,_⟩:=I.tuple h'
 rw [e] at e';cases e'
 rw [d] at d'
 injection d' with d1 _
 have:its=its':=by simpa using congrArg Array.toList d1
 subst this
 exact r.inj r'
end
abbrev Cx.wish (X:Cx) (E:Value→Shared→Prop):Cx:={ X with xe:=E }
abbrev Cx.nox (X:Cx):Cx:=X.wish fun _ _=>False
theorem Cx.Ok.wish {X:Cx} (ok:X.Ok) (E:Value→Shared→Prop):(X.wish E).Ok :=
 ⟨ok.mod,ok.kind,ok.glob,ok.blt,ok.above,ok.inj,ok.has,ok.cab,ok.hd,ok.frames,ok.stk,ok.exf,ok.bs,ok.bsz,ok.noex,ok.exfs,ok.funs,ok.frf⟩
theorem Cx.Ok.unwish {X:Cx} {E:Value→Shared→Prop} (ok:(X.wish E).Ok):X.Ok :=
 ⟨ok.mod,ok.kind,ok.glob,ok.blt,ok.above,ok.inj,ok.has,ok.cab,ok.hd,ok.frames,ok.stk,ok.exf,ok.bs,ok.bsz,ok.noex,ok.exfs,ok.funs,ok.frf⟩
section
variable {X:Cx} {pins:List (Addr × Obj)} {σ:St} {H:Hp} {s:Shared} {E:Value→Shared→Prop}
theorem Inv.wish (I:Inv X pins σ H s) (E:Value→Shared→Prop):Inv (X.wish E) pins σ H s:=⟨I.ok.wish E,I.os,I.bare,I.base,I.loc,I.cell,I.free,I.freeC,I.pin,I.hok,I.len⟩
theorem Inv.unwish (I:Inv (X.wish E) pins σ H s):Inv X pins σ H s:=⟨I.ok.unwish,I.os,I.bare,I.base,I.loc,I.cell,I.free,I.freeC,I.pin,I.hok,I.len⟩
theorem SP.unwish {D:ke} {f:Flow} {s':Shared} (h:SP (X.wish E) pins D f s'):SP X pins D f s':=by
 cases f with
 | next=>obtain ⟨σ',H',I,q⟩:=h;exact ⟨σ',H',I.unwish,q⟩
 | brk=>obtain ⟨σ',H',I,q⟩:=h;exact ⟨σ',H',I.unwish,q⟩
 | cont=>obtain ⟨σ',H',I,q⟩:=h;exact ⟨σ',H',I.unwish,q⟩
 | ret u=>obtain ⟨v,σ',H',I,r,q⟩:=h;exact ⟨v,σ',H',I.unwish,r,q⟩
theorem PSs.nox {st:List Stmt} {t:TS} (h:PSs X.nox st t):PSs X st t:=fun pins s σ H D I hw =>
 wpAny_mono (h pins s σ H D (I.wish _) hw) (fun _ _ q=>q.unwish) fun _ _ z=>False.elim z
end
section
variable {X:Cx} {st:Stmt} {rest:List Stmt} {t u:TS} {e:Expr} {te:TE} {pos:Pos}
def zx:TS:=fun D σ H=>D.nx σ H
def zq (t u:TS):TS:=fun D σ H=>t { D with nx:=u D } σ H
theorem zB:PSs X [] zx:=fun _ _ σ H _ I h=>wpAny_execs_nil ⟨σ,H,I,h⟩
theorem zf (h1:PS X st t) (h2:PSs X rest u):PSs X (st :: rest) (zq t u):=by
 intro pins s σ H D I h
 refine wpAny_execs_cons (thn (h1 pins s σ H { D with nx:=u D } I h) fun f s1 q=>?_)
 cases f with
 | next =>
  obtain ⟨σ',H',I',q⟩:=q
  exact h2 pins s1 σ' H' D I' q
 | ret v=>exact q
 | brk=>exact q
 | cont=>exact q
theorem zh (h1:PS X st t):PSs X [st] t:=by
 intro pins s σ H D I h
 refine wpAny_execs_cons (thn (h1 pins s σ H D I h) fun f s1 q=>?_)
 cases f with
 | next=>exact wpAny_execs_nil q
 | ret v=>exact q
 | brk=>exact q
 | cont=>exact q
theorem Inv.quiet {pins:List (Addr × Obj)} {σ:St} {H:Hp} {s:Shared} (I:Inv X pins σ H s):interactive X.env=false:=by simp [interactive,I.ok.kind]
def yq (te:TE):TS:=fun D σ H=>te σ H fun _ H1=>D.nx σ H1
theorem yP (he:PE X e te) (hs:swapsWith e none pos.line X.env=pure false:=by rfl):PS X (.Expr e pos) (yq te):=by
 intro pins s σ H D I h
 exact wpAny_Expr_any (thn (he pins s σ H _ I h) fun v s1 ⟨x,H1,I1,r1,q1⟩=>⟨σ,H1,I1,q1⟩) I.quiet hs
def zF (te:TE):TS:=fun D σ H=>te σ H D.rt
theorem zD (he:PE X e te):PS X (.Return (some e) pos) (zF te):=by
 intro pins s σ H D I h
 exact wpAny_Return_some (thn (he pins s σ H _ I h) fun v s1 ⟨x,H1,I1,r1,q1⟩=>⟨x,σ,H1,I1,r1,q1⟩)
def zdt:TS:=fun D _ H=>D.rt .non H
def zE (c:TT) (t u:TS):TS:=fun D σ H=>c σ H fun b H1=>if b=true then t D σ H1 else u D σ H1
theorem zN {c:Expr} {a b:List Stmt} {tc:TT} (hc:PT X c tc) (ha:PSs X a t) (hb:PSs X b u):PS X (.If c a b pos) (zE tc t u):=by
 intro pins s σ H D I h
 refine wpAny_If (thn (hc pins s σ H _ I h) fun d s1 ⟨H1,I1,q1⟩=>?_)
 cases d with
 | true=>exact ha pins s1 σ H1 D I1 q1
 | false=>exact hb pins s1 σ H1 D I1 q1
def zc1:TS:=fun _ _ _=>False
end
abbrev TG:=V→St→Hp→(St→Hp→Prop)→Prop
abbrev TGs:=List V→St→Hp→(St→Hp→Prop)→Prop
def PG (X:Cx) (target:Expr) (t:TG):Prop :=
 ∀ (pins:List (Addr × Obj)) (s:Shared) (σ:St) (H:Hp) (v:V) (u:Value) (Q:St→Hp→Prop),Inv X pins σ H s→RelV v u→t v σ H Q →
  wpAny (model X.prog X.w) X.A (assign target X.env u) (fun _ s'=>∃ σ' H',Inv X pins σ' H' s'∧Q σ' H') X.xe s
def PGs (X:Cx) (ts:List Expr) (t:TGs):Prop :=
 ∀ (pins:List (Addr × Obj)) (s:Shared) (σ:St) (H:Hp) (vs:List V) (us:List Value) (Q:St→Hp→Prop),Inv X pins σ H s→Vals vs us→t vs σ H Q →
  wpAny (model X.prog X.w) X.A (assignInOrder ((assignEach ts X.env).map (·.2)) us) (fun _ s'=>∃ σ' H',Inv X pins σ' H' s'∧Q σ' H') X.xe s
abbrev TIp:=V→V→Hp→VK→Prop
def PIp (X:Cx) (op:Operator) (t:TIp):Prop :=
 ∀ (pins:List (Addr × Obj)) (s:Shared) (σ:St) (H:Hp) (x y:V) (v u:Value) (Q:VK),Inv X pins σ H s→RelV x v→RelV y u→t x y H Q →
  wpAny (model X.prog X.w) X.A (inplaceOp op v u) (EP X pins σ Q) X.xe s
section
variable {X:Cx} {pos:Pos}
def zo (i:Nat):TG:=fun v σ H Q=>Q (σ.set i (some v)) H
theorem wb {i:Nat} {x:Str} (hN:X.N.Nodup) (hi:X.N[i]?=some x) (hx:Loc X.env.scope x) (hf:X.fn x=true∨X.env.scope.names.lookup x=some .local:=by first | exact .inl rfl | exact .inr rfl | assumption):PG X (.Name x pos) (zo i):=by
 intro pins s σ H v u Q I r h
 exact wpAny_assign_Name (kc I hN hi hx r (fun s' I'=>⟨_,H,I',h⟩) hf)
def WK:TGs:=fun vs σ H Q=>vs=[]∧Q σ H
def qb (t:TG) (u:TGs):TGs:=fun vs σ H Q=>∃ v r,vs=v :: r∧t v σ H fun σ' H'=>u r σ' H' Q
theorem Ki:PGs X [] WK:=by
 intro pins s σ H vs us Q I r h
 obtain ⟨e,h⟩:=h
 subst e
 cases r
 exact assignInOrder_nil ⟨σ,H,I,h⟩
theorem ZI {e:Expr} {es:List Expr} {t:TG} {u:TGs} (h1:PG X e t) (h2:PGs X es u)
  (hs:(assignEach (e :: es) X.env).map (·.2)=assign e X.env :: (assignEach es X.env).map (·.2):=by rfl):PGs X (e :: es) (qb t u):=by
 intro pins s σ H vs us Q I r h
 obtain ⟨v,vr,e1,h⟩:=h
 subst e1
 cases r with
 | cons r rr =>
  rw [hs]
  refine assignInOrder_cons (thn (h1 pins s σ H _ _ _ I r h) fun _ s1 ⟨σ1,H1,I1,q1⟩=>?_)
  exact h2 pins s1 σ1 H1 _ _ Q I1 rr q1
def WL (K:PySem.W.Frag) (n:Nat) (t:TGs):TG:=fun v σ H Q=>∃ a xs,v=.ref a∧SqT K H a xs∧xs.length=n∧t xs σ H Q
theorem Qz {es:List Expr} {k:Nat} {t:TGs} {n:Nat} (hc:X.calm=true) (h:PGs X es t)
  (hn:(assignEach es X.env).length=n:=by rfl) (hst:(assignEach es X.env).findIdx? (·.1)=none:=by rfl):PG X (.Tuple es k pos) (WL X.K n t):=by
 intro pins s σ H v u Q I r hw
 obtain ⟨a,xs,e1,hq,hl,hw⟩:=hw
 subst e1
 cases r
 obtain ⟨its,rv,ht,hz⟩:=I.tuple hq
 refine assign_Tuple_tuple (I.ok.hd hc) ht (by simp [hn,← hl,rv.length]) hst fun h' hx=>?_
 have I1:Inv X pins σ H { s with heap:=h' }:=I.kept (t':=s.toks) fun b o e=>hx b o (Nat.ne_of_lt (Heap.lt_size e)) e
 exact h pins _ σ H xs _ Q I1 (by simpa using rv) hw
def zI (te:TE) (g:TG):TS:=fun D σ H=>te σ H fun x H1=>g x σ H1 D.nx
theorem zbU {tg e:Expr} {te:TE} {g:TG} (he:PE X e te) (hg:PG X tg g) (hs:swapsWithSole [tg] e pos.line X.env=pure false:=by rfl) (hw:swappedStores [tg] e X.env=pure none:=by rfl)
  (h1:(assignEach [tg] X.env).map (·.2)=[assign tg X.env]:=by rfl):PS X (.Assign [tg] e pos) (zI te g):=by
 intro pins s σ H D I h
 refine wpAny_Assign_stores (thn (he pins s σ H _ I h) fun v s1 ⟨x,H1,I1,r1,q1⟩=>?_) hs hw
 rw [h1]
 exact thn (hg pins s1 σ H1 x v _ I1 r1 q1) fun _ s2 q=>q
theorem zA {i:Nat} {x:Str} {e:Expr} {te:TE} {pos':Pos} (hN:X.N.Nodup) (hi:X.N[i]?=some x) (hx:Loc X.env.scope x) (he:PE X e te) (hs:swapsWith e (some (.Name x pos')) pos.line X.env=pure false:=by rfl) (hf:X.fn x=true∨X.env.scope.names.lookup x=some .local:=by first | exact .inl rfl | exact .inr rfl | assumption) :
  PS X (.Assign [.Name x pos'] e pos) (zI te (zo i)):=by
 intro pins s σ H D I h
 refine wpAny_Assign_Name (thn (he pins s σ H _ I h) fun v s1 ⟨y,H1,I1,r1,q1⟩=>?_) hs
 exact kc I1 hN hi hx r1 (fun s2 I2=>⟨_,H1,I2,q1⟩) hf
def qc (i:Nat) (te:TE) (ti:TIp):TS:=fun D σ H=>∃ x,σ[i]?=some (some x)∧te σ H fun y H1=>ti x y H1 fun z H2=>D.nx (σ.set i (some z)) H2
theorem WM {i:Nat} {x:Str} {e:Expr} {te:TE} {op:Operator} {ti:TIp} {pos':Pos} (hN:X.N.Nodup) (hi:X.N[i]?=some x) (hx:Loc X.env.scope x) (he:PE X e te) (ho:PIp X op ti) (hf:X.fn x=true∨X.env.scope.names.lookup x=some .local:=by first | exact .inl rfl | exact .inr rfl | assumption) :
  PS X (.AugAssign (.Name x pos') op e pos) (qc i te ti):=by
 intro pins s σ H D I h
 obtain ⟨v,e1,h⟩:=h
 obtain ⟨m,hn,hl⟩:=I.loc
 have vis:Vis X.env.scope x:=by rcases hx with k | k;exact .inl k;exact .inr (.inl k)
 obtain ⟨u,r,l⟩:=hl i x v hi e1 vis
 refine wpAny_AugAssign_Name ?_
 have go:wpAny (model X.prog X.w) X.A (eval e X.env) (fun w s₂=>wpAny (model X.prog X.w) X.A (inplaceOp op u w) (fun r s₃=>wpAny (model X.prog X.w) X.A (storeName X.env x r) (fun _=>SP X pins D .next) X.xe s₃) X.xe s₂) X.xe s:=by
  refine thn (he pins s σ H _ I h) fun w s1 ⟨y,H1,I1,r1,q1⟩=>?_
  refine thn (ho pins s1 σ H1 v y u w _ I1 r r1 q1) fun z s2 ⟨zv,H2,I2,r2,q2⟩=>?_
  exact kc I2 hN hi hx r2 (fun s3 I3=>⟨_,H2,I3,q2⟩) hf
 rcases l with ⟨hk,hm⟩ | ⟨hk,c,hc,hcell⟩
 ·exact wpAny_loadName_local I.ok.kind hk hn hm go
 ·rcases hk with hk | hk
  ·exact wpAny_loadName_cell I.ok.kind hk hc hcell go
  ·rcases hx with k | k
   ·have:X.env.scope.names.lookup x=some .free:=hk
    rw [k] at this;cases this
   ·have:X.env.scope.names.lookup x=some .free:=hk
    rw [k] at this;cases this
def ipI (f:Int→Int→Int):TIp:=fun x y H Q=>∃ i j,x=.int i∧y=.int j∧Q (.int (f i j)) H
theorem Ju:PIp X .Add (ipI fun i j=>i + j):=by
 intro pins s σ H x y v u Q I r1 r2 h
 obtain ⟨i,j,e1,e2,q⟩:=h
 subst e1;subst e2
 obtain ⟨t,rfl⟩:=r1
 obtain ⟨t',rfl⟩:=r2
 exact iadd_int ⟨.int _,H,I.tok _,⟨_,rfl⟩,q⟩
theorem zbV:PIp X .Sub (ipI fun i j=>i - j):=by
 intro pins s σ H x y v u Q I r1 r2 h
 obtain ⟨i,j,e1,e2,q⟩:=h
 subst e1;subst e2
 obtain ⟨t,rfl⟩:=r1
 obtain ⟨t',rfl⟩:=r2
 exact isub_int ⟨.int _,H,I.tok _,⟨_,rfl⟩,q⟩
end
section
variable {X:Cx} {pos:Pos}
def Jv (c:TT) (tb:TS):TS:=fun D σ H=>∃ W:Nat→St→Hp→Prop,(∃ m,W m σ H)∧∀ m σ H,W m σ H →
 c σ H fun b H1=>if b=true then ∃ N:St→Hp→Prop,(∀ σ' H',N σ' H'→∃ m',m' < m∧W m' σ' H')∧tb { D with nx:=N,ct:=N,bk:=D.nx } σ H1 else D.nx σ H1
theorem QA {c:Expr} {body:List Stmt} {tc:TT} {tb:TS} (hp:PassesOwn (model X.prog X.w) X.A X.env X.xe) (hc:PT X c tc) (hb:PSs X body tb):PS X (.While c body [] pos) (Jv tc tb):=by
 intro pins s σ H D I h
 obtain ⟨W,⟨m0,w0⟩,turn⟩:=h
 refine wpAny_While (codeAny_whileLoop (fun n s'=>∃ σ' H',Inv X pins σ' H' s'∧W n σ' H') ?_ m0 ⟨σ,H,I,w0⟩)
 rintro n s1 ⟨σ1,H1,I1,w1⟩
 refine wpAny_passesOwn hp (thn (hc pins s1 σ1 H1 _ I1 (turn n σ1 H1 w1)) fun b s2 ⟨H2,I2,q2⟩=>?_)
 cases b with
 | true =>
  obtain ⟨N,hN,q2⟩:=q2
  rw [if_pos rfl]
  refine wpAny_passesOwn hp (thn (hb pins s2 σ1 H2 _ I2 q2) fun f s3 q3=>?_)
  cases f with
  | next =>
   obtain ⟨σ3,H3,I3,n3⟩:=q3
   obtain ⟨m',hm,w3⟩:=hN σ3 H3 n3
   exact ⟨m',hm,σ3,H3,I3,w3⟩
  | cont =>
   obtain ⟨σ3,H3,I3,n3⟩:=q3
   obtain ⟨m',hm,w3⟩:=hN σ3 H3 n3
   exact ⟨m',hm,σ3,H3,I3,w3⟩
  | brk=>exact q3
  | ret v=>exact q3
 | false =>
  rw [if_neg Bool.false_ne_true]
  exact wpAny_execs_nil ⟨σ1,H2,I2,q2⟩
end
set_option genSizeOf false in
set_option genInjectivity false in
structure It where
 go:Nat→Hp→Prop
 yld:Nat→Hp→V→Hp→Prop
 stop:Nat→Hp→Prop
def Zj (X:Cx) (pins:List (Addr × Obj)) (H:Hp) (b:Addr):Prop :=
 H b=none∧b≠X.env.locals∧b ∉ X.fs∧(b∈X.ex∨X.s₀.heap.objs.size≤b)∧(∀ x c,X.env.cells.lookup x=some c→c≠b)∧∀ p∈X.pn ++ pins,p.1≠b
theorem Inv.fpOk {X:Cx} {pins:List (Addr × Obj)} {σ:St} {H H':Hp} {s:Shared} {b:Addr} (I:Inv X pins σ H s) (hb:s.heap.objs.size≤b) (hn:H' b=none):Zj X pins H' b:=by
 refine ⟨hn,Nat.ne_of_gt (Nat.lt_of_lt_of_le I.lt hb),I.nofs hb,.inr (Nat.le_trans I.sz hb),fun x c e z=>?_,fun p hp z=>?_⟩
 ·obtain ⟨v,q⟩:=I.cell x c e
  exact absurd (Nat.lt_of_lt_of_le q.lt (by rw [z];exact hb)) (Nat.lt_irrefl _)
 ·exact absurd (Nat.lt_of_lt_of_le (Heap.lt_size (I.pin p hp).1) (by rw [z];exact hb)) (Nat.lt_irrefl _)
structure K0 (P:Program) (w:World) (K:PySem.W.Frag) (tg:Expr) (J:It) (fp:List Addr) (it:Addr) (tn:Nat→Heap→Prop):Prop where
 mem:it∈fp
 obj:∀ i h,tn i h→∀ b∈fp,∃ o,h.get? b=some o∧∀ v,o.data≠.cell v
 keep:∀ i h h',tn i h→(∀ b∈fp,∀ o,h.get? b=some o→h'.get? b=some o)→tn i h'
 item:∀ (X:Cx),X.prog=P→X.w=w→X.K=K→X.calm=true→∀ (i:Nat) (pins:List (Addr × Obj)) (s:Shared) (σ:St) (H:Hp) (E:Value→Shared→Prop),Inv X pins σ H s→(∀ b∈fp,Zj X pins H b)→tn i s.heap→J.go i H →
  wpAny (model P w) X.A (pyNext (.ref it)) (fun r s1=>∃ u,r=some u ∧
   wpAny (model P w) X.A (letOwnedTupleGo tg (.ref it) u) (fun _ s2=>∃ x H',Inv X pins σ H' s2∧RelV x u∧J.yld i H x H'∧tn (i + 1) s2.heap∧∀ b∈fp,H' b=none) E s1) E s
 done:∀ (X:Cx),X.prog=P→X.w=w→X.K=K→X.calm=true→∀ (i:Nat) (pins:List (Addr × Obj)) (s:Shared) (σ:St) (H:Hp) (E:Value→Shared→Prop),Inv X pins σ H s→(∀ b∈fp,Zj X pins H b)→tn i s.heap→J.stop i H →
  wpAny (model P w) X.A (pyNext (.ref it)) (fun r s1=>r=none∧Inv X pins σ H s1) E s
 self:∀ (A:Around) (i:Nat) (s:Shared) (Q:Value→Shared→Prop) (E:Value→Shared→Prop),tn i s.heap→Q (.ref it) s→wpAny (model P w) A (pyIter (.ref it)) Q E s
abbrev TI:=St→Hp→(It→Hp→Prop)→Prop
def PIE (X:Cx) (pins:List (Addr × Obj)) (σ:St) (tg:Expr) (R:It→Hp→Prop) (itv:Value) (s2:Shared):Prop :=
 ∃ (it:Addr) (fp:List Addr) (tn:Nat→Heap→Prop) (J:It) (H':Hp),itv=.ref it∧Inv X pins σ H' s2∧K0 X.prog X.w X.K tg J fp it tn∧tn 0 s2.heap∧(∀ b∈fp,Zj X pins H' b)∧R J H'
def PI (X:Cx) (tg iter:Expr) (wi:TI):Prop :=
 ∀ (pins:List (Addr × Obj)) (s:Shared) (σ:St) (H:Hp) (R:It→Hp→Prop),Inv X pins σ H s→wi σ H R →
  wpAny (model X.prog X.w) X.A (eval iter X.env) (fun v s1=>wpAny (model X.prog X.w) X.A (pyIter v) (PIE X pins σ tg R) X.xe s1) X.xe s
theorem Kj {M:Model} {A:Around} {E:Value→Shared→Prop} {s:Shared} {tg:Expr} {it:Addr} {u:Value} {o:Obj} {n:String} {vs:Array Value} {Q:Unit→Shared→Prop} (ho:s.heap.get? it=some o) (hc:o.cls=.type n) (hd:o.data=.fields vs)
  (hn:["enumerate","zip","dict_itemiterator","dict_reverseitemiterator","odict_iterator","itertools.zip_longest","itertools.pairwise"].contains n=false) (hQ:Q () s):wpAny M A (letOwnedTupleGo tg (.ref it) u) Q E s:=by
 unfold letOwnedTupleGo
 cases tg <;> first
  | exact wpAny_pure hQ
  | (cases u <;> first
      | exact wpAny_pure hQ
      | (refine wpAny_bind (wpAny_load ho ?_)
         rw [hc,hd]
         show wpAny M A (if (["enumerate","zip","dict_itemiterator","dict_reverseitemiterator","odict_iterator","itertools.zip_longest","itertools.pairwise"].contains n && vs[0]? == some (rawInt _))=true then _ else _) Q E s
         rw [if_neg (by intro h;rw [hn,Bool.false_and] at h;cases h)]
         exact wpAny_pure hQ))
def Itl (K:PySem.W.Frag) (a:Addr):It :=
 ⟨fun i H=>∃ xs x,SqL K H a xs∧xs[i]?=some x,fun i H x H'=>H'=H∧∀ xs,SqL K H a xs→xs[i]?=some x,fun i H=>∃ xs,SqL K H a xs∧xs.length≤i⟩
def Itt (K:PySem.W.Frag) (a:Addr):It :=
 ⟨fun i H=>∃ xs x,SqT K H a xs∧xs[i]?=some x,fun i H x H'=>H'=H∧∀ xs,SqT K H a xs→xs[i]?=some x,fun i H=>∃ xs,SqT K H a xs∧xs.length≤i⟩
def Itr (lo:Int) (n:Nat):It:=⟨fun i _=>i < n,fun i H x H'=>H'=H∧x=.int (lo + i),fun i _=>n≤i⟩
theorem K1 {P:Program} {w:World} {K:PySem.W.Frag} {tg:Expr} (a it:Addr):K0 P w K tg (Itl K a) [it] it (fun i h=>h.IsListIter it a i) where
 mem:=by simp
 obj:=fun i h st b hb=>by
  have e:b=it:=by simpa using hb
  subst e
  obtain ⟨o,e,c,d⟩:=st
  exact ⟨o,e,fun v z=>by rw [d] at z;cases z⟩
 keep:=fun i h h' st k=>st.at fun o e=>k it (by simp) o e
 item:=by
  intro X hP hw hK hc i pins s σ H E I hf st hg
  subst hP hw hK
  obtain ⟨xs,x,hq,hx⟩:=hg
  obtain ⟨its,rv,p,hz⟩:=I.list hq
  obtain ⟨u,hu,ru⟩:=rv.get hx
  obtain ⟨f0,f1,f2,f3,f4,f5⟩:=hf it (by simp)
  refine wpAny_pyNext_list_item st p.isList (x:=u) (by simpa using hu) fun h' st' sb=>?_
  have I1:Inv X pins σ H { s with heap:=h' }:=I.turned (t':=s.toks) (fun b o hb e=>(sb.2 b hb).trans e) f0 f1 f3 f4 f5
  obtain ⟨o,e,c,d⟩:=id st'
  exact ⟨u,rfl,Kj (s:={ s with heap:=h' }) e c d (by decide) ⟨x,H,I1,ru,⟨rfl,fun ys hy=>by rw [I.list_inj hy hq];exact hx⟩,st',fun b hb=>(hf b hb).1⟩⟩
 done:=by
  intro X hP hw hK hc i pins s σ H E I hf st hg
  subst hP hw hK
  obtain ⟨xs,hq,hx⟩:=hg
  obtain ⟨its,rv,p,hz⟩:=I.list hq
  obtain ⟨f0,f1,f2,f3,f4,f5⟩:=hf it (by simp)
  have hl:=rv.length
  exact wpAny_pyNext_list_end (I.ok.hd hc) st p.isList (by simp;lia) fun h' eb=>⟨rfl,I.turned (t':=s.toks) (fun b o hb e=>eb b o hb e) f0 f1 f3 f4 f5⟩
 self:=fun _ _ _ _ _ st h=>wpAny_pyIter_listiter st h
theorem Jw {P:Program} {w:World} {K:PySem.W.Frag} {tg:Expr} (it:Addr) (lo:Int) (n:Nat):K0 P w K tg (Itr lo n) [it] it (fun i h=>IsRangeIter h it (lo + (i:Nat) * 1) ((n:Int) - (i:Nat)) 1) where
 mem:=by simp
 obj:=fun i h st b hb=>by
  have e:b=it:=by simpa using hb
  subst e
  exact ⟨_,st,fun v z=>by
   have z':Data.fields _=Data.cell v:=z
   cases z'⟩
 keep:=fun i h h' st k=>k it (by simp) _ st
 item:=by
  intro X hP hw hK hc i pins s σ H E I hf st hg
  subst hP hw hK
  obtain ⟨f0,f1,f2,f3,f4,f5⟩:=hf it (by simp)
  have W:=Walks.range (prog:=X.prog) (w:=X.w) (I.ok.hd hc) it lo 1 n
  refine W.item i s _ _ hg st fun v h' tk hv st' kk=>?_
  obtain ⟨t,rfl⟩:=hv
  have I1:Inv X pins σ H { s with heap:=h',toks:=tk }:=I.turned (fun b o hb e=>kk b o (by simpa using hb) e) f0 f1 f3 f4 f5
  refine ⟨_,rfl,Kj (s:={ s with heap:=h',toks:=tk }) (n:="range_iterator") st' rfl rfl (by decide) ⟨.int (lo + i),H,I1,⟨t,?_⟩,⟨rfl,rfl⟩,st',fun b hb=>(hf b hb).1⟩⟩
  rw [Int.mul_one]
 done:=by
  intro X hP hw hK hc i pins s σ H E I hf st hg
  subst hP hw hK
  obtain ⟨f0,f1,f2,f3,f4,f5⟩:=hf it (by simp)
  exact wpAny_pyNext_range_end (I.ok.hd hc) st (by have:n≤i:=hg;lia) fun h' eb=>⟨rfl,I.turned (t':=s.toks) (fun b o hb e=>eb b o hb e) f0 f1 f3 f4 f5⟩
 self:=fun _ _ _ _ _ st h=>wpAny_pyIter_rangeiter st h
end L2
namespace L2
open PySem PySem.Spec PyProof.Rows
section
variable {X:Cx} {tg:Expr}
def VC (K:PySem.W.Frag) (tl:TE):TI:=fun σ H R=>tl σ H fun x H1=>∃ a,x=.ref a∧(∃ xs,SqL K H1 a xs)∧R (Itl K a) H1
def zdX (K:PySem.W.Frag) (tl:TE):TI:=fun σ H R=>tl σ H fun x H1=>∃ a,x=.ref a∧(∃ xs,SqT K H1 a xs)∧R (Itt K a) H1
theorem zaX {l:Expr} {tl:TE} (hl:PE X l tl):PI X tg l (VC X.K tl):=by
 intro pins s σ H R I h
 refine thn (hl pins s σ H _ I h) fun v s1 ⟨x,H1,I1,r1,q1⟩=>?_
 obtain ⟨a,e,⟨xs,hq⟩,q⟩:=q1
 subst e
 cases r1
 obtain ⟨its,rv,p,hz⟩:=I1.list hq
 refine wpAny_pyIter_list p.isList ?_
 refine ⟨s1.heap.objs.size,[s1.heap.objs.size],_,_,H1,rfl,I1.kept (t':=s1.toks) fun b o e=>Heap.get?_push_of_some _ e,K1 a _,⟨_,Heap.get?_push_size _ rfl,rfl,rfl⟩,fun b hb=>?_,q⟩
 have e:b=s1.heap.objs.size:=by simpa using hb
 subst e
 exact I1.fpOk (Nat.le_refl _) (I1.hok.fresh (Nat.le_refl _))
theorem VD {pins:List (Addr × Obj)} {σ:St} {H:Hp} {s:Shared} {R:It→Hp→Prop} {E:Value→Shared→Prop} {lo hi:Int} {t u v:Tok} {tk:Nat} (I:Inv X pins σ H s) (h1:-(2 ^ 62)≤lo) (h2:lo < 2 ^ 62) (h3:-(2 ^ 62)≤hi) (h4:hi < 2 ^ 62)
  (q:R (Itr lo (hi - lo).toNat) H):wpAny (model X.prog X.w) X.A (pyIter (.ref s.heap.objs.size)) (PIE X pins σ tg R) E { s with heap:=s.heap.push { cls:=.type "range",data:=.fields #[.int lo t,.int hi u,.int 1 v] },toks:=tk }:=by
 refine wpAny_pyIter_range (IsRange.new ..) (small_one h1 h2 h3 h4) ?_
 have I1:Inv X pins σ H { s with heap:=s.heap.push { cls:=.type "range",data:=.fields #[.int lo t,.int hi u,.int 1 v] },toks:=tk }:=I.kept fun b o e=>Heap.get?_push_of_some _ e
 refine ⟨(s.heap.push { cls:=.type "range",data:=.fields #[.int lo t,.int hi u,.int 1 v] }).objs.size,[(s.heap.push { cls:=.type "range",data:=.fields #[.int lo t,.int hi u,.int 1 v] }).objs.size],_,_,H,rfl,
  I1.kept (t':=tk) fun b o e=>Heap.get?_push_of_some _ e,Jw _ lo (hi - lo).toNat,?_,fun b hb=>?_,q⟩
 ·have e1:lo + ((0:Nat):Int) * 1=lo:=by simp
  have e2:(((hi - lo).toNat:Nat):Int) - ((0:Nat):Int)=Builtin.Range.rangeSize lo hi 1:=by rw [rangeSize_one];split <;> lia
  show IsRangeIter _ _ (lo + ((0:Nat):Int) * 1) ((((hi - lo).toNat:Nat):Int) - ((0:Nat):Int)) 1
  rw [e1,e2]
  exact Heap.get?_push_size _ rfl
 ·have e:b=(s.heap.push { cls:=.type "range",data:=.fields #[.int lo t,.int hi u,.int 1 v] }).objs.size:=by simpa using hb
  subst e
  exact I1.fpOk (Nat.le_refl _) (I1.hok.fresh (Nat.le_refl _))
def ZJ (ta:TA):TI:=fun σ H R=>ta σ H fun vs H1=>∃ j:Int,vs=[.int j]∧-(2 ^ 62)≤j∧j < 2 ^ 62∧R (Itr 0 j.toNat) H1
def Kk (ta:TA):TI:=fun σ H R=>ta σ H fun vs H1=>∃ i j:Int,vs=[.int i,.int j]∧(-(2 ^ 62)≤i∧i < 2 ^ 62∧-(2 ^ 62)≤j∧j < 2 ^ 62)∧R (Itr i (j - i).toNat) H1
theorem Wj {a:Expr} {ta:TA} {p pos:Pos} (hg:Gl X "range") (hm:X.mg "range"=none) (ha:PA X [a] ta) (hs:starEach [a] X.env=[(false,eval a X.env)]:=by rfl):PI X tg (.Call (.Name "range" p) [a] [] pos) (ZJ ta):=by
 intro pins s σ H R I h
 refine Call_ (Zh I hg hm boot_range (PyProof.Rows.callWith_type1 (thn (ha pos pins s σ H _ I h) fun us s1 ⟨vs,H1,I1,r1,q1⟩=>?_) hs rfl))
 obtain ⟨j,e,q1,q2,q⟩:=q1
 subst e
 cases r1 with
 | cons r rr =>
  cases rr
  obtain ⟨t,rfl⟩:=r
  exact call_range_1 (VD I1 (by lia) (by lia) q1 q2 (by simpa using q))
theorem K2 {a b:Expr} {ta:TA} {p pos:Pos} (hg:Gl X "range") (hm:X.mg "range"=none) (ha:PA X [a,b] ta) (hs:starEach [a,b] X.env=[(false,eval a X.env),(false,eval b X.env)]:=by rfl) (hs2:starEach [b] X.env=[(false,eval b X.env)]:=by rfl) :
  PI X tg (.Call (.Name "range" p) [a,b] [] pos) (Kk ta):=by
 intro pins s σ H R I h
 refine Call_ (Zh I hg hm boot_range (PyProof.Rows.callWith_type1 (thn (ha pos pins s σ H _ I h) fun us s1 ⟨vs,H1,I1,r1,q1⟩=>?_) (by rw [hs,hs2]) (by rw [hs2];rfl)))
 obtain ⟨i,j,e,⟨q1,q2,q3,q4⟩,q⟩:=q1
 subst e
 cases r1 with
 | cons r rr =>
  cases rr with
  | cons r' rr =>
   cases rr
   obtain ⟨t,rfl⟩:=r
   obtain ⟨t',rfl⟩:=r'
   exact call_range_2 (VD I1 q1 q2 q3 q4 q)
def xP (wi:TI) (g:TG) (tb:TS):TS:=fun D σ H=>wi σ H fun J H1=>∃ W:Nat→Nat→St→Hp→Prop,(∃ m,W 0 m σ H1)∧∀ i m σ H,W i m σ H →
 (J.stop i H∧D.nx σ H)∨(J.go i H∧∃ N:St→Hp→Prop,(∀ σ' H',N σ' H'→∃ m',m' < m∧W (i + 1) m' σ' H')∧∀ x H',J.yld i H x H'→g x σ H' fun σ2 H2=>tb { D with nx:=N,ct:=N,bk:=D.nx } σ2 H2)
def Xc (fp:List Addr) (h:Heap):List (Addr × Obj):=fp.filterMap fun b=>(h.get? b).map fun o=>(b,o)
theorem kr {fp:List Addr} {h:Heap} {b:Addr} {o:Obj} (hb:b∈fp) (e:h.get? b=some o):(b,o)∈Xc fp h:=List.mem_filterMap.mpr ⟨b,hb,by rw [e];rfl⟩
theorem K3 {fp:List Addr} {h:Heap} {p:Addr × Obj} (hp:p∈Xc fp h):p.1∈fp∧h.get? p.1=some p.2:=by
 obtain ⟨b,hb,e⟩:=List.mem_filterMap.mp hp
 cases q:h.get? b with
 | none=>rw [q] at e;cases e
 | some o =>
  rw [q] at e
  have e':(b,o)=p:=Option.some.inj e
  subst e'
  exact ⟨hb,q⟩
theorem Inv.pinned {pins:List (Addr × Obj)} {σ:St} {H:Hp} {s:Shared} {fp:List Addr} (I:Inv X pins σ H s) (hf:∀ b∈fp,Zj X pins H b) (ho:∀ b∈fp,∃ o,s.heap.get? b=some o∧∀ v,o.data≠.cell v):Inv X (pins ++ Xc fp s.heap) σ H s :=
 I.pins_of fun p hp=>(List.mem_append.mp hp).elim (fun z=>I.pin p (List.mem_append_right _ z)) fun z=>by
  obtain ⟨hb,e⟩:=K3 z
  obtain ⟨f0,f1,f2,_⟩:=hf p.1 hb
  obtain ⟨o,e',d⟩:=ho p.1 hb
  rw [e] at e';cases e'
  exact ⟨e,f0,f1,f2,d⟩
theorem Inv.unpinned {pins pl:List (Addr × Obj)} {σ:St} {H:Hp} {s:Shared} (I:Inv X (pins ++ pl) σ H s):Inv X pins σ H s:=I.pins_of fun p hp=>I.pin p (List.mem_append_right _ (List.mem_append_left _ hp))
theorem qd {iter:Expr} {body:List Stmt} {wi:TI} {g:TG} {tb:TS} {pos:Pos} (hp:PassesOwn (model X.prog X.w) X.A X.env X.xe) (hc:X.calm=true) (hi:PI X tg iter wi) (hg:PG X tg g) (hb:PSs X body tb)
  (hs:∀ x,foldedSetIterable iter X.env x=pure x:=by intro _;rfl):PS X (.For tg iter body [] pos) (xP wi g tb):=by
 intro pins s σ H D I h
 refine wpAny_For (thn (hi pins s σ H _ I h) fun v s1 h1=>thn h1 fun itv s2 h2=>?_) hs
 obtain ⟨it,fp,tn,J,H2,e,I2,T,st2,f2,W,⟨m0,w0⟩,turn⟩:=h2
 subst e
 -- what stays true of the iterator's objects through the loop
 have stat:∀ {H':Hp},(∀ b∈fp,H' b=none)→∀ b∈fp,Zj X pins H' b:=fun hn b hb=>⟨hn b hb,(f2 b hb).2⟩
 refine codeAny_forLoop_any (fun n s'=>∃ i σ' H',Inv X pins σ' H' s'∧tn i s'.heap∧(∀ b∈fp,H' b=none)∧W i n σ' H') ?_ m0 ⟨0,σ,H2,I2,st2,fun b hb=>(f2 b hb).1,w0⟩
 rintro n s3 ⟨i,σ3,H3,I3,st3,fr3,w3⟩
 rcases turn i n σ3 H3 w3 with ⟨stop,qn⟩ | ⟨go,N,hN,step⟩
 ·refine wpAny_passesOwn hp (thn (T.done X rfl rfl rfl hc i pins s3 σ3 H3 X.xe I3 (stat fr3) st3 stop) fun r s4 ⟨hr,I4⟩=>?_)
  subst hr
  exact wpAny_execs_nil ⟨σ3,H3,I4,qn⟩
 ·refine wpAny_passesOwn hp (thn (T.item X rfl rfl rfl hc i pins s3 σ3 H3 X.xe I3 (stat fr3) st3 go) fun r s4 ⟨u,hr,h4⟩=>?_)
  subst hr
  refine wpAny_passesOwn hp (thn h4 fun _ s5 ⟨x,H5,I5,r5,y5,st5,fr5⟩=>?_)
  have I5':=I5.pinned (stat fr5) (T.obj _ _ st5)
  refine wpAny_passesOwn hp (thn (hg _ s5 σ3 H5 x u _ I5' r5 (step x H5 y5)) fun _ s6 ⟨σ6,H6,I6,q6⟩=>?_)
  refine wpAny_passesOwn hp (thn (hb _ s6 σ6 H6 _ I6 q6) fun f s7 q7=>?_)
  have again:∀ {σ7:St} {H7:Hp},Inv X (pins ++ Xc fp s5.heap) σ7 H7 s7→N σ7 H7→∃ m,m < n∧∃ i σ' H',Inv X pins σ' H' s7∧tn i s7.heap∧(∀ b∈fp,H' b=none)∧W i m σ' H':=fun {σ7 H7} I7 n7=>by
   obtain ⟨m',hm,w7⟩:=hN σ7 H7 n7
   refine ⟨m',hm,i + 1,σ7,H7,I7.unpinned,T.keep _ _ _ st5 fun b hb o e=>(I7.pin (b,o) (List.mem_append_right _ (List.mem_append_right _ (kr hb e)))).1,fun b hb=>?_,w7⟩
   obtain ⟨o,e,d⟩:=T.obj _ _ st5 b hb
   exact (I7.pin (b,o) (List.mem_append_right _ (List.mem_append_right _ (kr hb e)))).2.1
  cases f with
  | next=>obtain ⟨σ7,H7,I7,n7⟩:=q7;exact again I7 n7
  | cont=>obtain ⟨σ7,H7,I7,n7⟩:=q7;exact again I7 n7
  | brk=>obtain ⟨σ7,H7,I7,q7⟩:=q7;exact ⟨σ7,H7,I7.unpinned,q7⟩
  | ret v=>obtain ⟨x7,σ7,H7,I7,r7,q7⟩:=q7;exact ⟨x7,σ7,H7,I7.unpinned,r7,q7⟩
end
end L2
namespace L2
open PySem PySem.Spec PyProof.Rows
abbrev R2:=V→V→Hp→VK→Prop
def OpR (X:Cx) (f:Value→Value→Sem Value) (r:R2):Prop :=
 ∀ (pins:List (Addr × Obj)) (s:Shared) (σ:St) (H:Hp) (x y:V) (v u:Value) (Q:VK),Inv X pins σ H s→RelV x v→RelV y u→r x y H Q →
  wpAny (model X.prog X.w) X.A (f v u) (EP X pins σ Q) X.xe s
def UnR (X:Cx) (f:Value→Sem Value) (r:V→Hp→VK→Prop):Prop :=
 ∀ (pins:List (Addr × Obj)) (s:Shared) (σ:St) (H:Hp) (x:V) (v:Value) (Q:VK),Inv X pins σ H s→RelV x v→r x H Q →
  wpAny (model X.prog X.w) X.A (f v) (EP X pins σ Q) X.xe s
def Zb (X:Cx) (f:Value) (r:List V→Hp→VK→Prop):Prop :=
 ∀ (pins:List (Addr × Obj)) (s:Shared) (σ:St) (H:Hp) (xs:List V) (us:List Value) (Q:VK),Inv X pins σ H s→Vals xs us→r xs H Q →
  wpAny (model X.prog X.w) X.A (call f us) (EP X pins σ Q) X.xe s
def tOp (r:R2) (ta tb:TE):TE:=fun σ H Q=>ta σ H fun x H1=>tb σ H1 fun y H2=>r x y H2 Q
def tUn (r:V→Hp→VK→Prop) (ta:TE):TE:=fun σ H Q=>ta σ H fun x H1=>r x H1 Q
def rI (C:Int→Int→Prop) (g:Int→Int→V):R2:=fun x y H Q=>∃ i j,x=.int i∧y=.int j∧C i j∧Q (g i j) H
def rI0 (g:Int→Int→V):R2:=fun x y H Q=>∃ i j,x=.int i∧y=.int j∧Q (g i j) H
def rU (g:Int→V):V→Hp→VK→Prop:=fun x H Q=>∃ i,x=.int i∧Q (g i) H
section
variable {X:Cx} {a b c:Expr} {ta tb tc:TE} {pos:Pos}
theorem zbW (ha:PE X a ta) (hb:PE X b tb) {pins:List (Addr × Obj)} {s:Shared} {σ:St} {H:Hp} {R:V→V→Hp→Prop} (I:Inv X pins σ H s)
  (h:ta σ H fun x H1=>tb σ H1 fun y H2=>R x y H2) {Q:Value→Shared→Prop} {f:Value→Value→Sem Value}
  (hf:∀ v u s2 x y H2,Inv X pins σ H2 s2→RelV x v→RelV y u→R x y H2→wpAny (model X.prog X.w) X.A (f v u) Q X.xe s2) :
  wpAny (model X.prog X.w) X.A (eval a X.env) (fun v s₁=>wpAny (model X.prog X.w) X.A (eval b X.env) (fun u s₂=>wpAny (model X.prog X.w) X.A (f v u) Q X.xe s₂) X.xe s₁) X.xe s:=by
 refine thn (ha pins s σ H _ I h) fun v s1 ⟨x,H1,I1,r1,q1⟩=>?_
 refine thn (hb pins s1 σ H1 _ I1 q1) fun u s2 ⟨y,H2,I2,r2,q2⟩=>?_
 exact hf v u s2 x y H2 I2 r1 r2 q2
theorem zu {op:Operator} {r:R2} (ho:OpR X (binaryOp op) r) (ha:PE X a ta) (hb:PE X b tb):PE X (.BinOp a op b pos) (tOp r ta tb):=by
 intro pins s σ H Q I h
 exact wpAny_BinOp (zbW ha hb I h fun v u s2 x y H2 I2 rx ry q=>ho pins s2 σ H2 x y v u Q I2 rx ry q)
theorem jo {op:UnaryOp} {r:V→Hp→VK→Prop} (ho:UnR X (unaryOp op) r) (ha:PE X a ta):PE X (.UnaryOp op a pos) (tUn r ta):=by
 intro pins s σ H Q I h
 exact UnaryOp_ (thn (ha pins s σ H _ I h) fun v s1 ⟨x,H1,I1,r1,q1⟩=>ho pins s1 σ H1 x v Q I1 r1 q1)
theorem opI {f:Value→Value→Sem Value} {C:Int→Int→Prop} {g:Int→Int→Int}
  (rule:∀ (i j:Int) (t u:Tok) (s:Shared) (Q:Value→Shared→Prop) (E:Value→Shared→Prop),C i j→Q (.int (g i j) s.toks) { s with toks:=s.toks + 1 }→wpAny (model X.prog X.w) X.A (f (.int i t) (.int j u)) Q E s) :
  OpR X f (rI C fun i j=>.int (g i j)):=by
 intro pins s σ H x y v u Q I rx ry h
 obtain ⟨i,j,rfl,rfl,hc,q⟩:=h
 obtain ⟨t,rfl⟩:=rx
 obtain ⟨t',rfl⟩:=ry
 exact rule i j t t' s _ _ hc ⟨.int (g i j),H,I.tok _,⟨_,rfl⟩,q⟩
theorem zcD {f:Value→Value→Sem Value} {g:Int→Int→Int}
  (rule:∀ (i j:Int) (t u:Tok) (s:Shared) (Q:Value→Shared→Prop) (E:Value→Shared→Prop),Q (.int (g i j) s.toks) { s with toks:=s.toks + 1 }→wpAny (model X.prog X.w) X.A (f (.int i t) (.int j u)) Q E s) :
  OpR X f (rI0 fun i j=>.int (g i j)):=by
 intro pins s σ H x y v u Q I rx ry h
 obtain ⟨i,j,rfl,rfl,q⟩:=h
 obtain ⟨t,rfl⟩:=rx
 obtain ⟨t',rfl⟩:=ry
 exact rule i j t t' s _ _ ⟨.int (g i j),H,I.tok _,⟨_,rfl⟩,q⟩
theorem zaY {f:Value→Value→Sem Value} {g:Int→Int→Bool}
  (rule:∀ (i j:Int) (t u:Tok) (s:Shared) (Q:Value→Shared→Prop) (E:Value→Shared→Prop),Q (.bool (g i j)) s→wpAny (model X.prog X.w) X.A (f (.int i t) (.int j u)) Q E s) :
  OpR X f (rI0 fun i j=>.bl (g i j)):=by
 intro pins s σ H x y v u Q I rx ry h
 obtain ⟨i,j,rfl,rfl,q⟩:=h
 obtain ⟨t,rfl⟩:=rx
 obtain ⟨t',rfl⟩:=ry
 exact rule i j t t' s _ _ ⟨.bl (g i j),H,I,rfl,q⟩
def Jx (i j:Int):Prop:=0≤j∧j≤1000000∧i.natAbs < 2 ^ 64
theorem xH:OpR X (binaryOp .Add) (rI0 fun i j=>.int (i + j)):=zcD fun _ _ _ _ _ _ _ q=>add_int q
theorem Zk:OpR X (binaryOp .Sub) (rI0 fun i j=>.int (i - j)):=zcD fun _ _ _ _ _ _ _ q=>sub_int q
theorem yQ:OpR X (binaryOp .Mod) (rI (fun _ j=>0 < j) fun i j=>.int (i % j)):=opI fun i j _ _ _ _ _ hc q=>by
 have h1:(0:Int) < j:=hc
 exact mod_int' (by lia) (by rw [Int.fmod_eq_emod_of_nonneg i (by lia)];exact q)
theorem Xd:OpR X (binaryOp .Pow) (rI Jx fun i j=>.int (i ^ j.toNat)):=opI fun _ _ _ _ _ _ _ hc q=>pow_int_small hc.1 hc.2.1 hc.2.2 q
theorem unI {f:Value→Sem Value} {g:Int→Int}
  (rule:∀ (i:Int) (t:Tok) (s:Shared) (Q:Value→Shared→Prop) (E:Value→Shared→Prop),Q (.int (g i) s.toks) { s with toks:=s.toks + 1 }→wpAny (model X.prog X.w) X.A (f (.int i t)) Q E s) :
  UnR X f (rU fun i=>.int (g i)):=by
 intro pins s σ H x v Q I rx h
 obtain ⟨i,rfl,q⟩:=h
 obtain ⟨t,rfl⟩:=rx
 exact rule i t s _ _ ⟨.int (g i),H,I.tok _,⟨_,rfl⟩,q⟩
theorem wF:UnR X (unaryOp .USub) (rU fun i=>.int (-i)):=unI fun _ _ _ _ _ q=>neg_int q
end
def yR:V→V→Bool
 | .non,.non=>true | .non,.int _=>true | .int _,.non=>true | .non,.bl _=>true | .bl _,.non=>true | .non,.str _=>true | .str _,.non=>true
 | .int _,.int _=>true | .bl _,.bl _=>true | .str _,.str _=>true | .byt _,.byt _=>true
 | .int _,.str _=>true | .str _,.int _=>true | .bl _,.str _=>true | .str _,.bl _=>true
 | _,_=>false
def rEq:R2:=fun x y H Q=>yR x y=true∧Q (.bl (decide (x=y))) H
def rNe:R2:=fun x y H Q=>yR x y=true∧Q (.bl (!decide (x=y))) H
theorem Kl {i j:Int}:decide (V.int i=V.int j)=(i == j):=by
 rw [Bool.eq_iff_iff]
 simp
theorem QB {i j:Bool}:decide (V.bl i=V.bl j)=(i == j):=by
 rw [Bool.eq_iff_iff]
 simp
theorem Km {i j:Str}:decide (V.str i=V.str j)=(i == j):=by
 rw [Bool.eq_iff_iff]
 simp
theorem Kn {i j:Array UInt8}:decide (V.byt i=V.byt j)=(i.toList == j.toList):=by
 rw [Bool.eq_iff_iff]
 cases i
 cases j
 simp
section
variable {X:Cx} {a b c:Expr} {ta tb tc:TE} {pos:Pos}
theorem ye {pins:List (Addr × Obj)} {σ:St} {H:Hp} {s:Shared} {Q:VK} {k k':Bool} (I:Inv X pins σ H s) (q:Q (.bl k) H) (e:k=k'):EP X pins σ Q (.bool k') s:=by
 subst e
 exact ⟨.bl k,H,I,rfl,q⟩
theorem yb:OpR X (compareOp .Eq) rEq:=by
 intro pins s σ H x y v u Q I rx ry h
 obtain ⟨hs,q⟩:=h
 cases x with
 | non =>
  cases rx
  cases y with
  | non=>cases ry;exact PySem.EqNone.eq_none_none (ye I q (by simp))
  | bl j=>cases ry;exact PySem.EqNone.eq_none_bool (ye I q (by simp))
  | int j=>obtain ⟨t',rfl⟩:=ry;exact PySem.EqNone.eq_none_int (ye I q (by simp))
  | str j=>obtain ⟨t',rfl⟩:=ry;exact PySem.EqNone.eq_none_str (ye I q (by simp))
  | _=>exact absurd (show false=true from hs) Bool.false_ne_true
 | bl i =>
  cases rx
  cases y with
  | non=>cases ry;exact PySem.EqNone.eq_bool_none (ye I q (by simp))
  | bl j=>cases ry;exact eq_bool (ye I q QB)
  | str j=>obtain ⟨t',rfl⟩:=ry;exact PySem.EqMixed.eq_bool_str (ye I q (by simp))
  | _=>exact absurd (show false=true from hs) Bool.false_ne_true
 | int i =>
  obtain ⟨t,rfl⟩:=rx
  cases y with
  | non=>cases ry;exact PySem.EqNone.eq_int_none (ye I q (by simp))
  | int j=>obtain ⟨t',rfl⟩:=ry;exact eq_int (ye I q Kl)
  | str j=>obtain ⟨t',rfl⟩:=ry;exact PySem.EqMixed.eq_int_str (ye I q (by simp))
  | _=>exact absurd (show false=true from hs) Bool.false_ne_true
 | str i =>
  obtain ⟨t,rfl⟩:=rx
  cases y with
  | non=>cases ry;exact PySem.EqNone.eq_str_none (ye I q (by simp))
  | bl j=>cases ry;exact PySem.EqMixed.eq_str_bool (ye I q (by simp))
  | int j=>obtain ⟨t',rfl⟩:=ry;exact PySem.EqMixed.eq_str_int (ye I q (by simp))
  | str j=>obtain ⟨t',rfl⟩:=ry;exact eq_str (ye I q Km)
  | _=>exact absurd (show false=true from hs) Bool.false_ne_true
 | byt i =>
  obtain ⟨t,rfl⟩:=rx
  cases y with
  | byt j=>obtain ⟨t',rfl⟩:=ry;exact PySem.W.eq_bytes (ye I q Kn)
  | _=>exact absurd (show false=true from hs) Bool.false_ne_true
 | _=>cases y <;> exact absurd (show false=true from hs) Bool.false_ne_true
theorem Wk:OpR X (compareOp .NotEq) rNe:=by
 intro pins s σ H x y v u Q I rx ry h
 obtain ⟨hs,q⟩:=h
 cases x with
 | non =>
  cases rx
  cases y with
  | non=>cases ry;exact PySem.EqNone.ne_none_none (ye I q (by simp))
  | bl j=>cases ry;exact PySem.EqNone.ne_none_bool (ye I q (by simp))
  | int j=>obtain ⟨t',rfl⟩:=ry;exact PySem.EqNone.ne_none_int (ye I q (by simp))
  | str j=>obtain ⟨t',rfl⟩:=ry;exact PySem.EqNone.ne_none_str (ye I q (by simp))
  | _=>exact absurd (show false=true from hs) Bool.false_ne_true
 | bl i =>
  cases rx
  cases y with
  | non=>cases ry;exact PySem.EqNone.ne_bool_none (ye I q (by simp))
  | bl j=>cases ry;exact ne_bool (ye I q (congrArg not QB))
  | str j=>obtain ⟨t',rfl⟩:=ry;exact PySem.EqMixed.ne_bool_str (ye I q (by simp))
  | _=>exact absurd (show false=true from hs) Bool.false_ne_true
 | int i =>
  obtain ⟨t,rfl⟩:=rx
  cases y with
  | non=>cases ry;exact PySem.EqNone.ne_int_none (ye I q (by simp))
  | int j=>obtain ⟨t',rfl⟩:=ry;exact ne_int (ye I q (congrArg not Kl))
  | str j=>obtain ⟨t',rfl⟩:=ry;exact PySem.EqMixed.ne_int_str (ye I q (by simp))
  | _=>exact absurd (show false=true from hs) Bool.false_ne_true
 | str i =>
  obtain ⟨t,rfl⟩:=rx
  cases y with
  | non=>cases ry;exact PySem.EqNone.ne_str_none (ye I q (by simp))
  | bl j=>cases ry;exact PySem.EqMixed.ne_str_bool (ye I q (by simp))
  | int j=>obtain ⟨t',rfl⟩:=ry;exact PySem.EqMixed.ne_str_int (ye I q (by simp))
  | str j=>obtain ⟨t',rfl⟩:=ry;exact ne_str (ye I q (congrArg not Km))
  | _=>exact absurd (show false=true from hs) Bool.false_ne_true
 | byt i =>
  obtain ⟨t,rfl⟩:=rx
  cases y with
  | byt j=>obtain ⟨t',rfl⟩:=ry;exact PySem.W.ne_bytes (ye I q (congrArg not Kn))
  | _=>exact absurd (show false=true from hs) Bool.false_ne_true
 | _=>cases y <;> exact absurd (show false=true from hs) Bool.false_ne_true
theorem ZK:OpR X (compareOp .Lt) (rI0 fun i j=>.bl (decide (i < j))):=zaY fun _ _ _ _ _ _ _ q=>lt_int q
theorem Ko:OpR X (compareOp .LtE) (rI0 fun i j=>.bl (decide (i≤j))):=zaY fun _ _ _ _ _ _ _ q=>le_int q
theorem Zc:OpR X (compareOp .Gt) (rI0 fun i j=>.bl (decide (j < i))):=zaY fun _ _ _ _ _ _ _ q=>gt_int q
theorem Kp:OpR X (compareOp .GtE) (rI0 fun i j=>.bl (decide (j≤i))):=zaY fun _ _ _ _ _ _ _ q=>ge_int q
theorem Wl:OpR X (compareOp .In) (fun x y H Q=>∃ i j,x=.str i∧y=.str j∧Q (.bl (!(Builtin.Str.occurrences j i 0 j.length 1).isEmpty)) H):=by
 intro pins s σ H x y v u Q I rx ry h
 obtain ⟨i,j,rfl,rfl,q⟩:=h
 obtain ⟨t,rfl⟩:=rx
 obtain ⟨t',rfl⟩:=ry
 exact in_str (ye I q rfl)
theorem ZL:OpR X (compareOp .NotIn) (fun x y H Q=>∃ i j,x=.str i∧y=.str j∧Q (.bl (!(!(Builtin.Str.occurrences j i 0 j.length 1).isEmpty))) H):=by
 intro pins s σ H x y v u Q I rx ry h
 obtain ⟨i,j,rfl,rfl,q⟩:=h
 obtain ⟨t,rfl⟩:=rx
 obtain ⟨t',rfl⟩:=ry
 exact notIn_str (ye I q rfl)
theorem zy (b:Expr) {op:CmpOp} (h:op≠.In:=by decide) (h2:op≠.NotIn:=by decide):behindInMarks op b=false:=by
 have e1:(op == CmpOp.In)=false:=by cases op <;> first | rfl | exact absurd rfl h
 have e2:(op == CmpOp.NotIn)=false:=by cases op <;> first | rfl | exact absurd rfl h2
 cases b <;> simp [behindInMarks,e1,e2]
theorem xN {op:CmpOp} {r:R2} (ho:OpR X (compareOp op) r) (ha:PE X a ta) (hb:PE X b tb) (hm:behindInMarks op b=false):PE X (.Compare a [op] [b] pos) (tOp r ta tb):=by
 intro pins s σ H Q I h
 exact wpAny_Compare1 (zbW ha hb I h fun v u s2 x y H2 I2 rx ry q=>ho pins s2 σ H2 x y v u Q I2 rx ry q) hm
def zp (t:TE):TT:=fun σ H Q=>t σ H fun x H'=>∃ k,x=.bl k∧Q k H'
theorem zt {op:CmpOp} {r:R2} (ho:OpR X (compareOp op) r) (ha:PE X a ta) (hb:PE X b tb) (hm:behindInMarks op b=false):PT X (.Compare a [op] [b] pos) (zp (tOp r ta tb)):=by
 intro pins s σ H Q I h
 refine wpAny_isTrue_Compare1 (thn (ha pins s σ H _ I h) fun v s1 ⟨x,H1,I1,r1,q1⟩=>thn (hb pins s1 σ H1 _ I1 q1) fun u s2 ⟨y,H2,I2,r2,q2⟩ =>
  thn (ho pins s2 σ H2 x y v u _ I2 r1 r2 q2) fun c s3 ⟨z,H3,I3,r3,k,e,q3⟩=>?_) hm
 subst e
 cases r3
 exact wpAny_truthy_bool ⟨H3,I3,q3⟩
def Zl (r r':R2) (ta tb tc:TE):TE:=fun σ H Q=>ta σ H fun x H1=>tb σ H1 fun y H2=>r x y H2 fun z H3=>∃ k,z=.bl k ∧
 (if k=true then tc σ H3 fun w' H4=>r' y w' H4 Q else Q (.bl false) H3)
theorem VE {op op':CmpOp} {r r':R2} (ho:OpR X (compareOp op) r) (ho':OpR X (compareOp op') r') (ha:PE X a ta) (hb:PE X b tb) (hc:PE X c tc)
  (hm:lastMarks [op,op'] [b,c]=false:=by with_unfolding_all rfl):PE X (.Compare a [op,op'] [b,c] pos) (Zl r r' ta tb tc):=by
 intro pins s σ H Q I h
 refine Compare_chain (thn (ha pins s σ H _ I h) fun v s1 ⟨x,H1,I1,r1,q1⟩=>chain_link (thn (hb pins s1 σ H1 _ I1 q1) fun u s2 ⟨y,H2,I2,r2,q2⟩ =>
  thn (ho pins s2 σ H2 x y v u _ I2 r1 r2 q2) fun d s3 ⟨z,H3,I3,r3,k,e,q3⟩=>?_)) hm
 subst e
 cases r3
 refine wpAny_truthy_bool ?_
 cases k with
 | false=>exact ite_ff ⟨.bl false,H3,I3,rfl,q3⟩
 | true=>exact ite_tt (chain_last (thn (hc pins s3 σ H3 _ I3 q3) fun w' s4 ⟨z',H4,I4,r4,q4⟩=>ho' pins s4 σ H4 y z' u w' Q I4 r2 r4 q4))
theorem WN:(sizeLine:Nat) < 2 ^ 63:=by rw [sizeLine_eq];decide
theorem zz:OpR X (binaryOp .Add) (fun x y H Q=>∃ i j,x=.str i∧y=.str j∧i.length + j.length≤sizeLine∧Q (.str (i ++ j)) H):=by
 intro pins s σ H x y v u Q I rx ry h
 obtain ⟨i,j,rfl,rfl,hz,q⟩:=h
 obtain ⟨t,rfl⟩:=rx
 obtain ⟨t',rfl⟩:=ry
 exact add_str (fun t' tk=>⟨.str (i ++ j),H,I.tok _,⟨_,rfl⟩,q⟩) hz
theorem ZM {x:V} {us:List Value} (r:Vals [x] us):∃ u,us=[u]∧RelV x u:=by
 cases r with
 | cons r1 r2=>cases r2;exact ⟨_,rfl,r1⟩
theorem QC {x y:V} {us:List Value} (r:Vals [x,y] us):∃ u w',us=[u,w']∧RelV x u∧RelV y w':=by
 cases r with
 | cons r1 r2 =>
  cases r2 with
  | cons r3 r4=>cases r4;exact ⟨_,_,rfl,r1,r3⟩
theorem kt:Zb X (.type "str") (fun xs H Q=>∃ i,xs=[.int i]∧i.natAbs.log2 < 1920∧Q (.str (toString i)) H):=by
 intro pins s σ H xs us Q I r h
 obtain ⟨i,rfl,hz,q⟩:=h
 obtain ⟨u,rfl,t,rfl⟩:=ZM r
 exact PySem.P.str_of_int hz ⟨.str _,H,I.tok _,⟨_,rfl⟩,q⟩
def yU (K:PySem.W.Frag) (x:V) (H:Hp) (n:Nat):Prop :=
 match x with
 | .str y=>y.length≤sizeLine∧n=y.length
 | .byt y=>y.size≤sizeLine∧n=y.size
 | .ref p=>(∃ xs,SqL K H p xs∧n=xs.length)∨∃ xs,SqT K H p xs∧n=xs.length
 | _=>False
theorem zR:Zb X (.builtin "len") (fun xs H Q=>∃ x n,xs=[x]∧yU X.K x H n∧Q (.int n) H):=by
 intro pins s σ H xs us Q I r h
 obtain ⟨x,n,rfl,e,q⟩:=h
 obtain ⟨u,rfl,rx⟩:=ZM r
 have hl:=WN
 have hs:sizeLine=16777216:=sizeLine_eq
 cases x with
 | str y =>
  obtain ⟨t,rfl⟩:=rx
  obtain ⟨hy,e'⟩:y.length≤sizeLine∧n=y.length:=e
  subst e'
  exact len_str (by lia) ⟨.int _,H,I.tok _,⟨_,rfl⟩,q⟩
 | byt y =>
  obtain ⟨t,rfl⟩:=rx
  obtain ⟨hy,e'⟩:y.size≤sizeLine∧n=y.size:=e
  subst e'
  exact PySem.W.len_bytes (by lia) ⟨.int _,H,I.tok _,⟨_,rfl⟩,q⟩
 | ref p =>
  cases rx
  have e':(∃ xs,SqL X.K H p xs∧n=xs.length)∨∃ xs,SqT X.K H p xs∧n=xs.length:=e
  rcases e' with ⟨xs,hx,e'⟩ | ⟨xs,hx,e'⟩
  ·subst e'
   obtain ⟨its,r',pl,hz⟩:=I.list hx
   have hlen:=r'.length
   exact Calls.call_len_list pl.isList (by simp only [List.size_toArray];lia) ⟨.int xs.length,H,I.tok _,⟨_,by simp only [List.size_toArray];rw [hlen]⟩,q⟩
  ·subst e'
   obtain ⟨its,r',pl,hz⟩:=I.tuple hx
   have hlen:=r'.length
   exact len_tuple pl (by simp only [List.size_toArray];lia) ⟨.int xs.length,H,I.tok _,⟨_,by simp only [List.size_toArray];rw [hlen]⟩,q⟩
 | _=>exact (show False from e).elim
end
end L2
namespace L2
open PySem PySem.Spec PyProof.Rows
structure ObjM (h:Heap) (x dx C:Addr) (mA:Str→Option Value):Prop where
 obj:h.get? x=some (PySem.W.instObj C dx)
 ns:h.Ns1 dx mA
 ne:dx≠x
theorem Yg {h:Heap} {dx:Addr} {mA:Str→Option Value} (n:h.Ns1 dx mA):∃ od,h.get? dx=some od∧∀ name,PySem.W.lookIn name od=some (mA name):=by
 obtain ⟨o,es,ep,ho,hd,hk,_,hm⟩:=n
 refine ⟨o,ho,fun name=>?_⟩
 have e:=hm name
 unfold nsFind findBy at e
 rw [← Array.find?_toList] at e
 unfold PySem.W.lookIn
 rw [hd]
 dsimp only
 split
 ·rename_i y q
  rw [q] at e
  exact congrArg some e
 ·rename_i q
  rw [q] at e
  have a:es.toList.any (·.refKey)=false:=by
   rw [List.any_eq_false]
   intro y hy
   obtain ⟨z,t,hkey⟩:=hk y (Array.mem_toList_iff.mp hy)
   simp [DictEntry.refKey,hkey]
  have a':¬ es.toList.any (·.refKey)=true:=by rw [a];exact Bool.false_ne_true
  rw [if_neg a']
  exact congrArg some e
theorem ObjM.look {h:Heap} {x dx C:Addr} {mA:Str→Option Value} (I:ObjM h x dx C mA):∃ od,PySem.W.InstAt h x (PySem.W.instObj C dx) C (some od)∧∀ name,PySem.W.lookIn name od=some (mA name) :=
 let ⟨od,ho,hl⟩:=Yg I.ns
 ⟨od,⟨I.obj,rfl,rfl,ho⟩,hl⟩
section
variable {prog:Program} {w:World} {A:Around} {E:Value→Shared→Prop} {s:Shared} {K:PySem.W.Frag} {x dx C f:Addr} {mA:Str→Option Value} {name:Str} {v:Value}
theorem zaZ {expr:Bool} {Q:Value→Shared→Prop} (X:K.In s.heap) (I:ObjM s.heap x dx C mA) (hg:PySem.W.plainGet K C name=true) (hh:PySem.W.hasDictIn K C=true)
  (ha:PySem.W.findIn K (.ref C) name=some none) (hv:mA name=some v) (hv':PySem.W.handedIn v=true) (h:Q v { s with toks:=s.toks + 1 }) :
  wpAny (model prog w) A (getAttr (.ref x) name expr) Q E s:=by
 obtain ⟨od,J,hl⟩:=I.look
 exact PySem.W.get_value X J (PySem.W.plainGet_of hg).1 (PySem.W.findObj_own hh ha rfl (by rw [hl,hv])) hv' h
theorem QD {pl:Sem Bool} {Q:Value × List Value→Shared→Prop} (X:K.In s.heap) (I:ObjM s.heap x dx C mA) (hg:PySem.W.plainGet K C name=true)
  (hf:PySem.W.findIn K (.ref C) name=some (some (.ref f))) (ht:PySem.W.isFn K (.ref f)=true) (hv:mA name=none) (h:Q (.ref f,[.ref x]) s) :
  wpAny (model prog w) A (getMethod (.ref x) name pl) Q E s:=by
 obtain ⟨od,J,hl⟩:=I.look
 exact PySem.W.method_fn X J (PySem.W.plainGet_of hg).1 (PySem.W.plainGet_of hg).2 hf (beq_iff_eq.mp ht) (by show (PySem.W.lookIn name od).map (·.isSome)=some false;rw [hl,hv];rfl) h
theorem za0 {ns:List Str} {Q:Unit→Shared→Prop} (X:K.In s.heap) (I:ObjM s.heap x dx C mA)
  (hs:PySem.W.findIn K (.ref C) "__setattr__"=some (some (.builtin "object.__setattr__"))) (hp:PySem.W.plainOver K C=true) (ht:PySem.W.takerIn K C name=some none) (hh:PySem.W.hasDictIn K C=true)
  (hw:PySem.Within mA ns) (hsz:ns.length≤sizeLine)
  (h:∀ h',ObjM h' x dx C (fun y=>if y=name then some v else mA y)→Heap.SameBut dx s.heap h'→Q () { s with heap:=h',toks:=s.toks + 2 }) :
  wpAny (model prog w) A (setAttr (.ref x) name v) Q E s:=by
 obtain ⟨od,J,hl⟩:=I.look
 refine PySem.W.set_plain X J hs (PySem.W.osa_open (s:={ s with toks:=s.toks + 1 }) (r:=none) X J hp ht fun b=>?_)
 obtain ⟨cd,hc,hd'⟩:=PySem.W.any_some hh
 have hx:s.heap.get? x=some ⟨.ref C,some dx,.plain,#[]⟩:=I.obj
 refine wpAny_bind (wpAny_pure (wpAny_bind (wpAny_bind (wpAny_loadPart hx (wpAny_bind (PySem.W.Looks.here (s:={ s with toks:=s.toks + 1 }) (PySem.W.looks_clsIn X hc) ?_))))))
 rw [hd']
 refine wpAny_pure (a:=some dx) (wpAny_bind (wpAny_pure (wpAny_bind ?_)))
 refine wpAny_nsSet1 (s:={ s with toks:=s.toks + 1 }) I.ns fun h' hn2 hs2=>?_
 obtain ⟨oD,esD,epD,hoD,hdD,hcD⟩:=hn2.count (PySem.Within.cons name v hw)
 refine wpAny_bind (wpAny_lookBehind hoD (by rw [hdD];exact pastItsLine_dict (Nat.le_trans hcD (by rw [List.length_cons];lia))) ?_)
 exact wpAny_pure (h _ ⟨(hs2.2 _ (Ne.symm I.ne)).trans I.obj,hn2,I.ne⟩ hs2)
theorem QE {R:Result→Shared→Prop} {vs:List Value} {kw:List (Str × Value)} (X:K.In s.heap) (hm:PySem.W.makesIn K C=true)
  (hi:PySem.W.findIn K (.ref C) "__init__"=some (some (.ref f))) (hf:PySem.W.typeIn K (.ref f)=some (.type "function"))
  (h:codeAny (model prog w) (A.under (.builtin "type.__call__" ⟨.ref C :: vs,kw⟩)) (.call (.ref f) ⟨.ref (s.heap.objs.size + 1) :: vs,kw⟩) (PySem.W.InitBack (s.heap.objs.size + 1) R)
   { s with heap:=(s.heap.push PySem.W.emptyDict).push (PySem.W.instObj C s.heap.objs.size) }) :
  codeAny (model prog w) A (.call (.ref C) ⟨vs,kw⟩) R s:=by
 obtain ⟨hh,g,d,t,os⟩:=s
 exact PySem.W.make_core (PySem.W.makes_of X hm) (PySem.W.looks_findIn X hi) (fun self=>PySem.W.bind_fn X self hf) (.inl rfl) h
end
def xq (f:Str) (v:V):List (Str × V)→List (Str × V)
 | []=>[(f,v)]
 | (g,x) :: r=>if g=f then (g,v) :: r else (g,x) :: xq f v r
theorem YM (f g:Str) (v:V):∀ fs:List (Str × V),(xq f v fs).lookup g=if g=f then some v else fs.lookup g
 | []=>by
  show List.lookup g [(f,v)]=_
  by_cases h:g=f
  ·have hb:(g == f)=true:=beq_iff_eq.mpr h
   simp only [List.lookup,hb,if_pos h]
  ·have hb:(g == f)=false:=beq_eq_false_iff_ne.mpr h
   simp only [List.lookup,hb,if_neg h]
 | (k,x) :: r=>by
  have ih:=YM f g v r
  rw [show xq f v ((k,x) :: r)=(if k=f then (k,v) :: r else (k,x) :: xq f v r) from rfl]
  by_cases hk:k=f
  ·rw [if_pos hk]
   by_cases h:g=k
   ·have hb:(g == k)=true:=beq_iff_eq.mpr h
    simp only [List.lookup,hb,if_pos (h.trans hk)]
   ·have hb:(g == k)=false:=beq_eq_false_iff_ne.mpr h
    simp only [List.lookup,hb,if_neg (fun e:g=f=>h (e.trans hk.symm))]
  ·rw [if_neg hk]
   by_cases h:g=k
   ·have hb:(g == k)=true:=beq_iff_eq.mpr h
    simp only [List.lookup,hb,if_neg (fun e:g=f=>hk (h.symm.trans e))]
   ·have hb:(g == k)=false:=beq_eq_false_iff_ne.mpr h
    simp only [List.lookup,hb]
    exact ih
theorem Yh (f:Str) (v:V):∀ fs:List (Str × V),f∈(xq f v fs).map (·.1)∧∀ g,g∈fs.map (·.1)→g∈(xq f v fs).map (·.1)
 | []=>⟨by simp [xq],fun g h=>by simp at h⟩
 | (k,x) :: r=>by
  obtain ⟨i1,i2⟩:=Yh f v r
  rw [show xq f v ((k,x) :: r)=(if k=f then (k,v) :: r else (k,x) :: xq f v r) from rfl]
  by_cases hk:k=f
  ·rw [if_pos hk]
   subst hk
   exact ⟨by simp,fun g h=>by simpa using h⟩
  ·rw [if_neg hk]
   refine ⟨?_,fun g h=>?_⟩
   ·rw [List.map_cons]
    exact List.mem_cons_of_mem _ i1
   ·rw [List.map_cons] at h ⊢
    rcases List.mem_cons.mp h with e | e
    ·exact List.mem_cons.mpr (.inl e)
    ·exact List.mem_cons_of_mem _ (i2 g e)
theorem YN (f:Str) (v:V):∀ fs:List (Str × V),(xq f v fs).length≤fs.length + 1
 | []=>by simp [xq]
 | (k,x) :: r=>by
  have ih:=YN f v r
  rw [show xq f v ((k,x) :: r)=(if k=f then (k,v) :: r else (k,x) :: xq f v r) from rfl]
  by_cases hk:k=f
  ·rw [if_pos hk,List.length_cons,List.length_cons];lia
  ·rw [if_neg hk,List.length_cons,List.length_cons];lia
theorem RelO.some_of {v:V} {o:Option Value} (r:RelO (some v) o):∃ u,o=some u∧RelV v u:=by
 cases o with
 | none=>exact (show False from r).elim
 | some u=>exact ⟨u,rfl,r⟩
theorem RelO.none_of {o:Option Value} (r:RelO none o):o=none:=by
 cases o with
 | none=>rfl
 | some u=>exact (show False from r).elim
theorem Yi {v:V} {u:Value} (r:RelV v u):PySem.W.handedIn u=true:=by
 cases v with
 | non=>cases (show u=Value.none from r);rfl
 | bl b=>cases (show u=Value.bool b from r);rfl
 | int i=>obtain ⟨t,e⟩:=(show ∃ t,u=Value.int i t from r);cases e;rfl
 | str x=>obtain ⟨t,e⟩:=(show ∃ t,u=Value.str x t from r);cases e;rfl
 | byt b=>obtain ⟨t,e⟩:=(show ∃ t,u=Value.bytes b t from r);cases e;rfl
 | flt b=>obtain ⟨t,e⟩:=(show ∃ t,u=Value.float b t from r);cases e;rfl
 | ref a=>cases (show u=Value.ref a from r);rfl
 | ty n=>cases (show u=Value.type n from r);rfl
section
variable {P:Program} {w:World} {H H':Hp} {h h':Heap} {a C dx:Addr} {fs fs':List (Str × V)}
theorem Y1 (hok:HOk P w H h) (e:H a=some (.ins C dx fs)):∃ mA,ObjM h a dx C mA∧(∀ f,RelO (fs.lookup f) (mA f))∧PySem.Within mA (fs.map (·.1))∧fs.length≤1000∧H dx=some (.own a):=by
 obtain ⟨d,z,ne,ob,mA,n,r,q⟩:=(show ObjOk P w H h a (.ins C dx fs) from hok a _ e)
 exact ⟨mA,⟨ob,n,ne⟩,r,q,z,d⟩
end
structure Cls (K:PySem.W.Frag) (C:Addr):Prop where
 pg:PySem.W.plainGet K C Str.empty=true
 hd:PySem.W.hasDictIn K C=true
 po:PySem.W.plainOver K C=true
 sa:PySem.W.findIn K (.ref C) "__setattr__"=some (some (.builtin "object.__setattr__"))
theorem Cls.get {K:PySem.W.Frag} {C:Addr} (c:Cls K C) (f:Str):PySem.W.plainGet K C f=true:=c.pg
def NoAttr (K:PySem.W.Frag) (C:Addr) (f:Str):Prop:=PySem.W.findIn K (.ref C) f=some none
theorem NoAttr.taker {K:PySem.W.Frag} {C:Addr} {f:Str} (n:NoAttr K C f):PySem.W.takerIn K C f=some none:=by
 unfold PySem.W.takerIn
 rw [show PySem.W.findIn K (.ref C) f=some none from n]
 rfl
structure Yj (K:PySem.W.Frag) (C:Addr) (m:Str) (f:Addr):Prop where
 at_:PySem.W.findIn K (.ref C) m=some (some (.ref f))
 fn:PySem.W.isFn K (.ref f)=true
 kp:PySem.W.keepIn K (.ref f)=true
section
variable {X:Cx} {pins:List (Addr × Obj)} {σ:St} {H:Hp} {s:Shared} {a C dx:Addr} {fs:List (Str × V)} {f:Str} {v:V} {A:Around} {E:Value→Shared→Prop}
theorem Xe {b:Bool} {Q:Value→Shared→Prop} (I:Inv X pins σ H s) (e:H a=some (.ins C dx fs)) (c:Cls X.K C) (n:NoAttr X.K C f) (l:fs.lookup f=some v)
  (h:∀ u s',Inv X pins σ H s'→RelV v u→Q u s'):wpAny (model X.prog X.w) A (getAttr (.ref a) f b) Q E s:=by
 obtain ⟨mA,O,r,_,_,_⟩:=Y1 I.hok e
 obtain ⟨u,hu,ru⟩:=RelO.some_of (v:=v) (o:=mA f) (by rw [← l];exact r f)
 exact zaZ I.kIn O (c.get f) c.hd n hu (Yi ru) (h u _ (I.tok _) ru)
theorem Xf {m:Str} {g:Addr} {pl:Sem Bool} {Q:Value × List Value→Shared→Prop} (I:Inv X pins σ H s) (e:H a=some (.ins C dx fs)) (c:Cls X.K C) (k:Yj X.K C m g) (l:fs.lookup m=none)
  (h:Q (.ref g,[.ref a]) s):wpAny (model X.prog X.w) A (getMethod (.ref a) m pl) Q E s:=by
 obtain ⟨mA,O,r,_,_,_⟩:=Y1 I.hok e
 have hn:mA m=none:=RelO.none_of (by rw [← l];exact r m)
 exact QD I.kIn O (c.get m) k.at_ k.fn hn h
theorem Xg {y:V} {u:Value} {Q:Unit→Shared→Prop} (I:Inv X pins σ H s) (e:H a=some (.ins C dx fs)) (c:Cls X.K C) (n:NoAttr X.K C f) (hl:fs.length < 1000) (ry:RelV y u)
  (h:∀ s',Inv X pins σ (upd H a (.ins C dx (xq f y fs))) s'→Q () s'):wpAny (model X.prog X.w) A (setAttr (.ref a) f u) Q E s:=by
 obtain ⟨mA,O,r,wi,_,ho⟩:=Y1 I.hok e
 have hz:(fs.map (·.1)).length≤sizeLine:=by rw [List.length_map,sizeLine_eq];lia
 refine za0 I.kIn O c.sa c.po n.taker c.hd wi hz fun h' O' sb=>h _ ?_
 have hd:∃ o,h'.get? dx=some o:=let ⟨o,_,_,e',_⟩:=O'.ns;⟨o,e'⟩
 refine I.write (x:=a) (e:=dx) (by rw [e];exact True.intro) (.inr ho) (fun b q hb z=>(sb.2 b hb).trans z) hd ?_
 refine ⟨by rw [zw O.ne];exact ho,?_,O.ne,O'.obj,_,O'.ns,fun g=>?_,fun g hg=>?_⟩
 ·have:=YN f y fs;lia
 ·show RelO ((xq f y fs).lookup g) (if g=f then some u else mA g)
  rw [YM]
  by_cases q:g=f
  ·rw [if_pos q,if_pos q];exact ry
  ·rw [if_neg q,if_neg q];exact r g
 ·by_cases q:g=f
  ·rw [q];exact (Yh f y fs).1
  ·refine (Yh f y fs).2 g (wi g fun z=>hg ?_)
   show (if g=f then some u else mA g)=none
   rw [if_neg q];exact z
theorem Inv.made (I:Inv X pins σ H s):Inv X pins σ (upd (upd H s.heap.objs.size (.own (s.heap.objs.size + 1))) (s.heap.objs.size + 1) (.ins C s.heap.objs.size []))
  { s with heap:=(s.heap.push PySem.W.emptyDict).push (PySem.W.instObj C s.heap.objs.size) }:=by
 have e1:(s.heap.push PySem.W.emptyDict).get? s.heap.objs.size=some PySem.W.emptyDict:=Heap.get?_push_size s.heap rfl
 have e2:((s.heap.push PySem.W.emptyDict).push (PySem.W.instObj C s.heap.objs.size)).get? (s.heap.objs.size + 1)=some (PySem.W.instObj C s.heap.objs.size):=by
  have:=Heap.get?_push_size (s.heap.push PySem.W.emptyDict) (o:=PySem.W.instObj C s.heap.objs.size) rfl
  rwa [Heap.size_push] at this
 have e3:(s.heap.push PySem.W.emptyDict).Ns s.heap.objs.size (fun _=>none):=⟨PySem.W.emptyDict,#[],_,e1,rfl,(fun e he=>absurd he (by simp)),fun _=>rfl⟩
 have I1:=I.laid (a:=s.heap.objs.size) (o:=.own (s.heap.objs.size + 1)) (h':=s.heap.push PySem.W.emptyDict) (t':=s.toks) (fun b u q=>Heap.get?_push_of_some _ q) (Nat.le_refl _) ⟨_,e1⟩
 refine I1.laid (a:=s.heap.objs.size + 1) (o:=.ins C s.heap.objs.size []) (t':=s.toks) (fun b u q=>Heap.get?_push_of_some _ q) (Nat.le_of_eq (Heap.size_push _ _)) ?_
 have ne:s.heap.objs.size≠s.heap.objs.size + 1:=Nat.ne_of_lt (Nat.lt_succ_self _)
 refine ⟨by rw [zw ne,zd],Nat.zero_le _,ne,e2,fun _=>none,(Heap.Ns1.of_empty e3).at fun o q=>Heap.get?_push_of_some _ q,fun _=>True.intro,fun y hy=>absurd rfl hy⟩
theorem WO {prog:Program} {w:World} {env:Env} {e:Expr} {f:Str} {pos:Pos} {s:Shared} {Q:Value→Shared→Prop} (hb:attributeBase e f env (eval e env)=eval e env)
  (h:wpAny (model prog w) A (eval e env) (fun o s₁=>wpAny (model prog w) A (getAttr o f true) Q E s₁) E s):wpAny (model prog w) A (eval (.Attribute e f pos) env) Q E s :=
 Attribute_any_ h (by rw [arm_eval_Attribute,hb])
end
def y8 (K:PySem.W.Frag) (ta:TE) (f:Str):TE:=fun σ H Q=>ta σ H fun x H1=>∃ a C dx fs v,x=.ref a∧H1 a=some (.ins C dx fs)∧Cls K C∧NoAttr K C f∧fs.lookup f=some v∧Q v H1
def YS (K:PySem.W.Frag) (ta tv:TE) (f:Str):TS:=fun D σ H=>tv σ H fun y H1=>ta σ H1 fun x H2=>∃ a C dx fs,x=.ref a∧H2 a=some (.ins C dx fs)∧Cls K C∧NoAttr K C f∧fs.length < 1000 ∧
 D.nx σ (upd H2 a (.ins C dx (xq f y fs)))
def zcE (X:Cx) (op:Operator) (rd:V→V→Hp→VK→Prop):Prop :=
 ∀ (pins:List (Addr × Obj)) (s:Shared) (σ:St) (H:Hp) (x y:V) (u v:Value) (Q:VK),Inv X pins σ H s→RelV x u→RelV y v→rd x y H Q→wpAny (model X.prog X.w) X.A (inplaceOp op u v) (EP X pins σ Q) X.xe s
def Y2 (K:PySem.W.Frag) (ta tv:TE) (rd:V→V→Hp→VK→Prop) (f:Str):TS:=fun D σ H=>ta σ H fun x H1=>∃ a C dx fs v,x=.ref a∧H1 a=some (.ins C dx fs)∧Cls K C∧NoAttr K C f∧fs.lookup f=some v ∧
 tv σ H1 fun y H2=>rd v y H2 fun z H3=>∃ dx' fs',H3 a=some (.ins C dx' fs')∧fs'.length < 1000∧D.nx σ (upd H3 a (.ins C dx' (xq f z fs')))
section
variable {X:Cx} {o e value:Expr} {f:Str} {pos pos' tpos:Pos} {ta tv:TE}
theorem yo (he:PE X e ta) (hb:attributeBase e f X.env (eval e X.env)=eval e X.env):PE X (.Attribute e f pos) (y8 X.K ta f):=by
 intro pins s σ H Q I h
 refine WO hb (thn (he pins s σ H _ I h) fun u s1 ⟨x,H1,I1,rx,a,C,dx,fs,v,ex,ea,c,n,l,q⟩=>?_)
 subst ex
 obtain rfl:u=Value.ref a:=rx
 exact Xe I1 ea c n l fun u' s2 I2 ru=>⟨v,H1,I2,ru,q⟩
theorem Zm (ha:PE X o ta) (hv:PE X value tv) (hs:swapsWith value (some (.Attribute o f pos')) pos.line X.env=pure false):PS X (.Assign [.Attribute o f pos'] value pos) (YS X.K ta tv f):=by
 intro pins s σ H D I h
 refine plainObj_wpAny_Assign_Attribute (thn (hv pins s σ H _ I h) fun u s1 ⟨y,H1,I1,ry,q⟩=>thn (ha pins s1 σ H1 _ I1 q) fun ov s2 ⟨x,H2,I2,rx,a,C,dx,fs,ex,ea,c,n,l,q2⟩=>?_) hs
 subst ex
 obtain rfl:ov=Value.ref a:=rx
 exact Xg I2 ea c n l ry fun s3 I3=>⟨σ,_,I3,q2⟩
theorem K4 {op:Operator} {rd:V→V→Hp→VK→Prop} (ha:PE X o ta) (hv:PE X value tv) (hop:zcE X op rd):PS X (.AugAssign (.Attribute o f tpos) op value pos) (Y2 X.K ta tv rd f):=by
 intro pins s σ H D I h
 refine wpAny_AugAssign_AttributeAny (thn (ha pins s σ H _ I h) fun ov s1 ⟨x,H1,I1,rx,a,C,dx,fs,v,ex,ea,c,n,l,q⟩=>?_)
 subst ex
 obtain rfl:ov=Value.ref a:=rx
 refine Xe I1 ea c n l fun u s2 I2 ru=>thn (hv pins s2 σ H1 _ I2 q) fun w3 s3 ⟨y,H2,I3,ry,q3⟩=>thn (hop pins s3 σ H2 v y u w3 _ I3 ru ry q3) fun w4 s4 ⟨z,H3,I4,rz,dx',fs',ea',l',q4⟩=>?_
 exact Xg I4 ea' c n l' rz fun s5 I5=>⟨σ,_,I5,q4⟩
def za1:V→V→Hp→VK→Prop:=fun x y H Q=>∃ i j,x=.int i∧y=.int j∧Q (.int (i + j)) H
theorem zbX:zcE X .Add za1:=by
 rintro pins s σ H x y u v Q I rx ry ⟨i,j,rfl,rfl,q⟩
 obtain ⟨t,rfl⟩:=(show ∃ t,u=Value.int i t from rx)
 obtain ⟨t',rfl⟩:=(show ∃ t',v=Value.int j t' from ry)
 exact PyProof.Rows.iadd_int ⟨.int (i + j),H,I.tok _,⟨_,rfl⟩,q⟩
end
section
variable {X:Cx} {pins:List (Addr × Obj)} {σ:St} {H:Hp} {s:Shared} {A:Around} {E:Value→Shared→Prop} {Q:Value→Shared→Prop} {c:Value} {b:Bool}
inductive Zn (K:PySem.W.Frag) (H:Hp):V→Value→Prop where
 | non:Zn K H .non (.type "NoneType")
 | bl (x:Bool):Zn K H (.bl x) (.type "bool")
 | int (i:Int):Zn K H (.int i) (.type "int")
 | str (x:Str):Zn K H (.str x) (.type "str")
 | flt (x:UInt64):Zn K H (.flt x) (.type "float")
 | lst {a:Addr} {xs:List V} (e:H a=some (.lst xs)):Zn K H (.ref a) (.type "list")
 | frz {a:Addr} {o:Obj} {xs:List V} (e:H a=some (.frz o (.lst xs))):Zn K H (.ref a) (.type "list")
 | tup {a:Addr} {xs:List V} (e:H a=some (.tup xs)):Zn K H (.ref a) (.type "tuple")
 | dK {a:Addr} {kvs:List (Key × V)} (e:H a=some (.dK kvs)):Zn K H (.ref a) (.type "dict")
 | dT {a:Addr} {kvs:List (List Key × V)} (e:H a=some (.dT kvs)):Zn K H (.ref a) (.type "dict")
 | ins {a C dx:Addr} {fs:List (Str × V)} (e:H a=some (.ins C dx fs)) (cl:Cls K C) (ha:PySem.W.findIn K (.ref C) "__class__"=some (some (.builtin "object.__class__")))
   (hn:PySem.W.specialIn K (.builtin "object.__class__") "__get__"=some (some (.builtin "getset_descriptor.__get__"))) (htk:PySem.W.takesIn K (.builtin "object.__class__")=some true)
   (hm:PySem.W.mroIn K C (.type "object")=some true):Zn K H (.ref a) (.ref C)
theorem K6 {x:V} {u t:Value} (I:Inv X pins σ H s) (rx:RelV x u) (ty:Zn X.K H x t) (e:PySem.W.kitOne X.K t c=some b) (h:∀ tk,Q (.bool b) { s with toks:=tk }) :
  wpAny (model X.prog X.w) A (call (.builtin "isinstance") [u,c]) Q E s:=by
 cases ty with
 | non=>cases (show u=Value.none from rx);exact PySem.W.kia_one PySem.W.kitx_none I.kIn True.intro e (fun z=>nomatch z) h
 | bl y=>cases (show u=Value.bool y from rx);exact PySem.W.kia_one PySem.W.kitx_bool I.kIn True.intro e (fun z=>nomatch z) h
 | int i=>obtain ⟨t,q⟩:=(show ∃ t,u=Value.int i t from rx);cases q;exact PySem.W.kia_one PySem.W.kitx_int I.kIn True.intro e (fun z=>nomatch z) h
 | str y=>obtain ⟨t,q⟩:=(show ∃ t,u=Value.str y t from rx);cases q;exact PySem.W.kia_one PySem.W.kitx_str I.kIn True.intro e (fun z=>nomatch z) h
 | flt y=>obtain ⟨t,q⟩:=(show ∃ t,u=Value.float y t from rx);cases q;exact PySem.W.kia_one PySem.W.kitx_float I.kIn True.intro e (fun z=>nomatch z) h
 | @lst a xs ea =>
  cases (show u=Value.ref a from rx)
  obtain ⟨_,_,n,_,h1⟩:=(show ObjOk X.prog X.w H s.heap a (.lst xs) from I.hok a _ ea)
  exact PySem.W.kia_one PySem.W.kitx_list I.kIn ⟨_,h1,rfl⟩ e (fun z=>nomatch z) h
 | @frz a ob xs ea =>
  cases (show u=Value.ref a from rx)
  obtain ⟨_,_,_,n,_,h1⟩:=(show ObjOk X.prog X.w H s.heap a (.frz ob (.lst xs)) from I.hok a _ ea)
  exact PySem.W.kia_one PySem.W.kitx_list I.kIn ⟨_,h1,rfl⟩ e (fun z=>nomatch z) h
 | @tup a xs ea =>
  cases (show u=Value.ref a from rx)
  obtain ⟨_,_,_,p⟩:=(show ObjOk X.prog X.w H s.heap a (.tup xs) from I.hok a _ ea)
  obtain ⟨o,h1,h2,_⟩:=p
  exact PySem.W.kia_one PySem.W.kitx_tuple I.kIn ⟨o,h1,h2⟩ e (fun z=>nomatch z) h
 | @dK a kvs ea =>
  cases (show u=Value.ref a from rx)
  obtain ⟨_,_,vs,_,p⟩:=(show ObjOk X.prog X.w H s.heap a (.dK kvs) from I.hok a _ ea)
  obtain ⟨o,es,ep,h1,h2,_⟩:=p
  exact PySem.W.kia_one PySem.W.kitx_dict I.kIn ⟨o,h1,h2.1⟩ e (fun z=>nomatch z) h
 | @dT a kvs ea =>
  cases (show u=Value.ref a from rx)
  obtain ⟨_,_,xs,_,o,es,ep,h1,h2,_⟩:=(show ObjOk X.prog X.w H s.heap a (.dT kvs) from I.hok a _ ea)
  exact PySem.W.kia_one PySem.W.kitx_dict I.kIn ⟨o,h1,h2.1⟩ e (fun z=>nomatch z) h
 | @ins a C dx fs ea cl ha hn htk hm =>
  cases (show u=Value.ref a from rx)
  obtain ⟨mA,O,_⟩:=Y1 I.hok ea
  obtain ⟨od,J,_⟩:=O.look
  exact PySem.W.kia_one (PySem.W.kitx_own (cl.get _) cl.hd ha hn htk hm) I.kIn J e (fun z=>nomatch z) h
end
end L2
namespace L2
open PySem PySem.Spec PyProof.Rows
structure Room (k:Nat) (A:Around):Prop where
 hd:A.handled=none
 dp:A.depth + 3 * k + 5 < recursionLimit
 un:A.units + 16 * k + 200 < cLine
theorem Room.mono {j k:Nat} {A:Around} (r:Room k A) (h:j≤k):Room j A:=⟨r.hd,by have:=r.dp;lia,by have:=r.un;lia⟩
theorem Room.deeper {k:Nat} {A:Around} (r:Room (k + 1) A) (env:Env):Room k (A.deeper env) :=
 ⟨r.hd,by have:=r.dp;show A.depth + 1 + 3 * k + 5 < _;lia,by have:=r.un;show A.units + 3 + 16 * k + 200 < _;lia⟩
theorem Jy {A:Around} {C:Addr} {us:List Value} {kw:List (Str × Value)}:(A.under (.builtin "type.__call__" ⟨.ref C :: us,kw⟩)).depth=A.depth + 1:=by
 first | rfl | simp [Around.under,Code.weight,Code.isCreation,Code.isGuard,Code.isCaller,Code.frames,Code.isFrame,guardIds]
theorem Jz {A:Around} {C:Addr} {us:List Value} {kw:List (Str × Value)}:(A.under (.builtin "type.__call__" ⟨.ref C :: us,kw⟩)).units=A.units + 1:=by
 first | rfl | simp [Around.under,Code.cUnits,Code.frames,Code.isFrame]
theorem Room.make {k:Nat} {A:Around} (r:Room (k + 1) A) (C:Addr) (us:List Value) (kw:List (Str × Value)):Room k (A.under (.builtin "type.__call__" ⟨.ref C :: us,kw⟩)) :=
 ⟨r.hd,by have:=r.dp;rw [Jy];lia,by have:=r.un;rw [Jz];lia⟩
theorem Room.depth {k:Nat} {A:Around} (r:Room k A):A.depth < recursionLimit:=by have:=r.dp;lia
def zk:TA:=fun _ H Q=>Q [] H
def zc (ta:TE) (tr:TA):TA:=fun σ H Q=>ta σ H fun x H1=>tr σ H1 fun xs H2=>Q (x :: xs) H2
section
variable {X:Cx} {e:Expr} {es:List Expr} {te:TE} {t:TA} {pos:Pos}
theorem zg:PA X [] zk:=fun _ _ _ _ H Q I h=>Calls.spliced_nil ⟨[],H,I,.nil,h⟩
theorem zb (ha:PE X e te) (hr:PA X es t) (hs:starEach (e :: es) X.env=(false,eval e X.env) :: starEach es X.env:=by rfl):PA X (e :: es) (zc te t):=by
 intro pos pins s σ H Q I h
 rw [hs]
 show wpAny _ _ (spliced ((false,eval e X.env) :: backTo pos (starEach es X.env))) _ _ s
 refine Calls.spliced_cons (thn (ha pins s σ H _ I h) fun u s1 ⟨x,H1,I1,r1,q1⟩=>?_)
 exact thn (hr pos pins s1 σ H1 _ I1 q1) fun us s2 ⟨xs,H2,I2,r2,q2⟩=>⟨x :: xs,H2,I2,.cons r1 r2,q2⟩
def xm (t:TA):TE:=fun σ H Q=>t σ H fun xs H1=>xs.length≤sizeLine∧∀ p,H1 p=none→Q (.ref p) (upd H1 p (.tup xs))
def zW (t:TA):TE:=fun σ H Q=>t σ H fun xs H1=>xs.length≤sizeLine∧∀ p,H1 p=none→Q (.ref p) (upd H1 p (.lst xs))
theorem yY {x1} (h:PA X es t):PE X (.Tuple es x1 pos) (xm t):=by
 intro pins s σ H Q I hq
 refine wpAny_Tuple_spliced (thn (h pos pins s σ H _ I hq) fun us s1 ⟨xs,H1,I1,r,z,q⟩=>⟨by rw [← r.length];exact z,?_⟩)
 have hf:H1 s1.heap.objs.size=none:=I1.hok.fresh (Nat.le_refl _)
 refine ⟨.ref s1.heap.objs.size,upd H1 s1.heap.objs.size (.tup xs),I1.laid (t':=s1.toks) (fun b u e=>Heap.get?_push_of_some _ e) (Nat.le_refl _) ?_,rfl,q _ hf⟩
 exact ⟨z,us,r,⟨_,Heap.get?_push_size _ rfl,rfl,_,rfl⟩⟩
theorem zX (h:PA X es t):PE X (.List es pos) (zW t):=by
 intro pins s σ H Q I hq
 refine wpAny_List_spliced (thn (h pos pins s σ H _ I hq) fun us s1 ⟨xs,H1,I1,r,z,q⟩=>⟨by rw [← r.length];exact z,?_⟩)
 have hf:H1 s1.heap.objs.size=none:=I1.hok.fresh (Nat.le_refl _)
 refine ⟨.ref s1.heap.objs.size,upd H1 s1.heap.objs.size (.lst xs),I1.laid (t':=s1.toks) (fun b u e=>Heap.get?_push_of_some _ e) (Nat.le_refl _) ?_,rfl,q _ hf⟩
 exact ⟨z,us,0,r,Heap.get?_push_size _ rfl⟩
end
abbrev Sp:=List V→Hp→VK→XK→Prop
abbrev CXT:=List Env→Hp→Shared→XK→Value→Shared→Prop
structure Env0 (P:Program) (w:World) (K:PySem.W.Frag) (mg:Str→Option Value) (base:Heap) (A:Around) (outer:List Env) (s:Shared) (H:Hp):Prop where
 frames:A.frames=some outer
 mod:Mod K mg base
 bs:∀ b o,base.get? b=some o→s.heap.get? b=some o∧H b=none
 bsz:base.objs.size≤s.heap.objs.size
 funs:s.heap.FunFrames base outer
 frf:∀ b∈frs outer,H b=none
 hok:HOk P w H s.heap
 bare:AllBare s.gens
def CE (outer:List Env) (P:Program) (w:World) (H:Hp) (s:Shared) (Q:VK) (u:Value) (s':Shared):Prop :=
 ∃ v H',s'.os=s.os∧AllBare s'.gens∧Un (frs outer) [] H H' s.heap s'.heap∧HOk P w H' s'.heap∧RelV v u∧Q v H'
def CR (CX:CXT) (outer:List Env) (P:Program) (w:World) (H:Hp) (s:Shared) (Q:VK) (E:XK) (r:Result) (s':Shared):Prop :=
 match r with
 | .ok (.ret u)=>CE outer P w H s Q u s'
 | .ok _=>False
 | .error e=>CX outer H s E e s'
structure FnOk (P:Program) (w:World) (K:PySem.W.Frag) (mg:Str→Option Value) (base:Heap) (CX:CXT) (k:Nat) (f:Addr) (fd:FuncData) (ps:List Str) (sp:Sp):Prop where
 len:∀ vs H Q E,sp vs H Q E→vs.length=ps.length
 run:∀ (A:Around) (outer:List Env) (s:Shared) (H:Hp) (args:Args) (us:List Value) (vs:List V) (Q:VK) (E:XK),Room k A→Env0 P w K mg base A outer s H→BindsTo s fd args (ps.zip us)→Vals vs us→sp vs H Q E →
  codeAny (model P w) A (.call (.ref f) args) (CR CX outer P w H s Q E) s
theorem FnOk.mono {P:Program} {w:World} {K:PySem.W.Frag} {mg:Str→Option Value} {base:Heap} {CX:CXT} {j k:Nat} {f:Addr} {fd:FuncData} {ps:List Str} {sp:Sp} (F:FnOk P w K mg base CX j f fd ps sp) (h:j≤k) :
  FnOk P w K mg base CX k f fd ps sp:=⟨F.len,fun A outer s H args us vs Q E hr=>F.run A outer s H args us vs Q E (hr.mono h)⟩
theorem Env0.make {P:Program} {w:World} {K:PySem.W.Frag} {mg:Str→Option Value} {base:Heap} {A:Around} {outer:List Env} {s:Shared} {H:Hp} (e:Env0 P w K mg base A outer s H) (C:Addr) (us:List Value) (kw:List (Str × Value)) :
  Env0 P w K mg base (A.under (.builtin "type.__call__" ⟨.ref C :: us,kw⟩)) outer s H:=⟨by first | exact e.frames | (simpa [Around.under,Code.envs,Code.isFrame,pushEnvs] using e.frames),e.mod,e.bs,e.bsz,e.funs,e.frf,e.hok,e.bare⟩
section
variable {X:Cx} {pins:List (Addr × Obj)} {σ:St} {H:Hp} {s s':Shared}
theorem Inv.env0 (I:Inv X pins σ H s):Env0 X.prog X.w X.K X.mg X.base X.A X.stack s H :=
 ⟨I.ok.frames,I.ok.mod,I.bs,Nat.le_trans I.ok.bsz I.sz,I.stack,I.stkFree,I.hok,I.bare⟩
theorem Inv.after {Q:VK} {u:Value} (I:Inv X pins σ H s) (h:CE X.stack X.prog X.w H s Q u s'):EP X pins σ Q u s':=by
 obtain ⟨v,H',os,bare,un,hok,r,q⟩:=h
 obtain ⟨hh,g,d,t,os'⟩:=s'
 obtain rfl:os'=s.os:=os
 exact ⟨v,H',I.call (h':=hh) (g':=g) (d':=d) (t':=t) (ch:=[]) un hok bare (fun b z=>absurd z (by simp)),r,q⟩
end
def zC (sp:Sp) (dvs:List V) (E:XK) (t:TA):TE:=fun σ H Q=>t σ H fun vs H1=>sp (vs ++ dvs) H1 Q E
def yJ (C:Addr) (m:Str) (sp:Sp) (dvs:List V) (E:XK) (ta:TE) (t:TA):TE:=fun σ H Q=>ta σ H fun x H1=>∃ a dx fs,x=.ref a∧H1 a=some (.ins C dx fs)∧fs.lookup m=none ∧
 t σ H1 fun vs H2=>sp (x :: (vs ++ dvs)) H2 Q E
def Xh (C:Addr) (sp:Sp) (dvs:List V) (E:XK) (t:TA):TE:=fun σ H Q=>t σ H fun vs H1=>∀ x dx,H1 x=none→H1 dx=none→dx≠x →
 sp (.ref x :: (vs ++ dvs)) (upd (upd H1 dx (.own x)) x (.ins C dx [])) (fun v H2=>v=.non∧Q (.ref x) H2) E
def Binds (K:PySem.W.Frag) (fd:FuncData) (ps:List Str) (ds:List Value):Prop :=
 ∀ (s:Shared) (us:List Value),K.In s.heap→(us ++ ds).length=ps.length→BindsTo s fd ⟨us,[]⟩ (ps.zip (us ++ ds))
theorem Binds.all {K:PySem.W.Frag} {fd:FuncData} {ps:List Str} (h:∀ us:List Value,us.length=ps.length→bindArgs fd ⟨us,[]⟩=pure (ps.zip us)):Binds K fd ps []:=fun s us _ hl=>by
 rw [List.append_nil] at hl ⊢
 exact .of_eq (h us hl)
def ku (CX:CXT) (X:Cx) (E:XK):Prop:=∀ (pins:List (Addr × Obj)) (σ:St) (H:Hp) (s:Shared) (e:Value) (s':Shared),Inv X pins σ H s→CX X.stack H s E e s'→X.xe e s'
section
variable {X:Cx} {CX:CXT} {k:Nat} {f C:Addr} {fd:FuncData} {ps:List Str} {sp:Sp} {dvs:List V} {ds:List Value} {E:XK} {x m:Str} {p pos apos:Pos} {e o:Expr} {es:List Expr} {ta:TE} {t:TA}
theorem JA {pins:List (Addr × Obj)} {σ:St} {H:Hp} {s:Shared} {Q:VK} {us:List Value} {vs:List V} (F:FnOk X.prog X.w X.K X.mg X.base CX k f fd ps sp) (hr:Room k X.A) (hb:Binds X.K fd ps ds) (hd:Vals dvs ds) (hx:ku CX X E)
  (I:Inv X pins σ H s) (r:Vals vs us) (h:sp (vs ++ dvs) H Q E):wpAny (model X.prog X.w) X.A (call (.ref f) us) (EP X pins σ Q) X.xe s:=by
 have r2:Vals (vs ++ dvs) (us ++ ds):=r.append hd
 have hl:(us ++ ds).length=ps.length:=by rw [← r2.length];exact F.len _ _ _ _ h
 refine wpAny_call (codeAny_mono (F.run X.A X.stack s H ⟨us,[]⟩ (us ++ ds) (vs ++ dvs) Q E hr I.env0 (hb s us I.kIn hl) r2 h) fun r s' hq=>?_)
 cases r with
 | error e=>exact hx pins σ H s e s' I hq
 | ok fl =>
  cases fl with
  | ret u=>exact I.after hq
  | next=>exact False.elim hq
  | brk=>exact False.elim hq
  | cont=>exact False.elim hq
theorem zH (F:FnOk X.prog X.w X.K X.mg X.base CX k f fd ps sp) (hr:Room k X.A) (hg:Gl X x) (hm:X.mg x=some (.ref f)) (hk:PySem.W.keepIn X.K (.ref f)=true) (hb:Binds X.K fd ps ds) (hd:Vals dvs ds) (hx:ku CX X E)
  (ha:PA X (e :: es) t) (hdb:(x == ("__debug__":Str))=false:=by decide) (he:starEach (e :: es) X.env=(false,eval e X.env) :: starEach es X.env:=by rfl) (hpl:(backTo pos (starEach es X.env)).any (·.1)=false:=by rfl) :
  PE X (.Call (.Name x p) (e :: es) [] pos) (zC sp dvs E t):=by
 intro pins s σ H Q I h
 refine wpAny_Call_Name_kw (x9 I hg hm ?_ hdb)
 refine PySem.W.callWith_K (h₀:=X.base) I.ok.mod.kin hk (thn (ha pos pins s σ H _ I h) fun us s1 ⟨vs,H1,I1,r,q⟩=>⟨I1.kIn,?_⟩) he hpl
 exact JA F hr hb hd hx I1 r q
theorem Y3 {pl:Sem Bool} (he:PE X o ta) (c:Cls X.K C) (hm:Yj X.K C m f) (F:FnOk X.prog X.w X.K X.mg X.base CX k f fd ps sp) (hr:Room k X.A) (hb:Binds X.K fd ps ds) (hd:Vals dvs ds) (hx:ku CX X E) (ha:PA X (e :: es) t)
  (hst:starEach (e :: es) X.env=(false,eval e X.env) :: starEach es X.env:=by rfl) (hpl:(backTo pos (starEach es X.env)).any (·.1)=false:=by rfl)
  (ht:eval (.Call (.Attribute o m apos) (e :: es) [] pos) X.env=(do
   let ov ← eval o X.env
   standAt apos.atName
   let (f,first) ← holding [ov] (getMethod ov m pl)
   callWith pos f first (backTo pos (starEach (e :: es) X.env)) (backToKw pos (keywordEach [] X.env))):=by rfl) :
  PE X (.Call (.Attribute o m apos) (e :: es) [] pos) (yJ C m sp dvs E ta t):=by
 intro pins s σ H Q I h
 refine PySem.W.methodCall_KW (pl:=pl) (thn (he pins s σ H _ I h) fun u s1 ⟨x,H1,I1,rx,a,dx,fs,ex,ea,l,q⟩=>?_) ht
 subst ex
 obtain rfl:u=Value.ref a:=rx
 refine Xf I1 ea c hm l ?_
 refine PySem.W.callWith_K (first:=[.ref a]) (h₀:=X.base) I.ok.mod.kin hm.kp (thn (ha pos pins s1 σ H1 _ I1 q) fun us s2 ⟨vs,H2,I2,r,q2⟩=>⟨I2.kIn,?_⟩) hst hpl
 exact JA (us:=.ref a :: us) (vs:=.ref a :: vs) F hr hb hd hx I2 (.cons rfl r) q2
theorem yH {pl:Sem Bool} (he:PE X o ta) (c:Cls X.K C) (hm:Yj X.K C m f) (F:FnOk X.prog X.w X.K X.mg X.base CX k f fd ps sp) (hr:Room k X.A) (hb:Binds X.K fd ps ds) (hd:Vals dvs ds) (hx:ku CX X E)
  (ht:eval (.Call (.Attribute o m apos) [] [] pos) X.env=(do
   let ov ← eval o X.env
   standAt apos.atName
   let (f,first) ← holding [ov] (getMethod ov m pl)
   callWith pos f first (backTo pos (starEach [] X.env)) (backToKw pos (keywordEach [] X.env))):=by rfl) :
  PE X (.Call (.Attribute o m apos) [] [] pos) (yJ C m sp dvs E ta zk):=by
 intro pins s σ H Q I h
 refine PySem.W.methodCall_KW (pl:=pl) (thn (he pins s σ H _ I h) fun u s1 ⟨x,H1,I1,rx,a,dx,fs,ex,ea,l,q⟩=>?_) ht
 subst ex
 obtain rfl:u=Value.ref a:=rx
 refine Xf I1 ea c hm l ?_
 exact PySem.W.callWith_K0 (first:=[.ref a]) I1.kIn hm.kp (JA (us:=[.ref a]) (vs:=[.ref a]) F hr hb hd hx I1 (.cons rfl .nil) q)
structure Mk (K:PySem.W.Frag) (C f:Addr):Prop where
 makes:PySem.W.makesIn K C=true
 init:PySem.W.findIn K (.ref C) "__init__"=some (some (.ref f))
 fn:PySem.W.isFn K (.ref f)=true
 kp:PySem.W.keepIn K (.ref C)=true
theorem VF {pins:List (Addr × Obj)} {σ:St} {H:Hp} {s:Shared} {Q:VK} {us:List Value} {vs:List V} (M:Mk X.K C f) (F:FnOk X.prog X.w X.K X.mg X.base CX k f fd ps sp) (hr:Room (k + 1) X.A) (hb:Binds X.K fd ps ds) (hd:Vals dvs ds)
  (hx:ku CX X E) (I:Inv X pins σ H s) (r:Vals vs us)
  (h:∀ x dx,H x=none→H dx=none→dx≠x→sp (.ref x :: (vs ++ dvs)) (upd (upd H dx (.own x)) x (.ins C dx [])) (fun v H2=>v=.non∧Q (.ref x) H2) E) :
  wpAny (model X.prog X.w) X.A (call (.ref C) us) (EP X pins σ Q) X.xe s:=by
 have hq:=h (s.heap.objs.size + 1) s.heap.objs.size (I.hok.fresh (Nat.le_succ _)) (I.hok.fresh (Nat.le_refl _)) (Nat.ne_of_lt (Nat.lt_succ_self _))
 have I2:=Inv.made (C:=C) I
 have r2:Vals (V.ref (s.heap.objs.size + 1) :: (vs ++ dvs)) (Value.ref (s.heap.objs.size + 1) :: (us ++ ds)):=.cons rfl (r.append hd)
 have hl:(Value.ref (s.heap.objs.size + 1) :: us ++ ds).length=ps.length:=by
  have e:=r2.length
  rw [F.len _ _ _ _ hq] at e
  exact e.symm
 refine wpAny_call (QE (f:=f) I.kIn M.makes M.init (beq_iff_eq.mp M.fn) (codeAny_mono (F.run _ X.stack _ _ ⟨Value.ref (s.heap.objs.size + 1) :: us,[]⟩ (Value.ref (s.heap.objs.size + 1) :: (us ++ ds)) _ _ E (hr.make C us [])
  (I2.env0.make C us []) (hb _ (Value.ref (s.heap.objs.size + 1) :: us) I2.kIn hl) r2 hq) fun r s' hq'=>?_))
 cases r with
 | error e=>exact hx pins σ _ _ e s' I2 hq'
 | ok fl =>
  cases fl with
  | ret u =>
   obtain ⟨v,H',I3,rv,ev,q3⟩:=I2.after hq'
   subst ev
   exact ⟨rv,⟨V.ref (s.heap.objs.size + 1),H',I3,rfl,q3⟩⟩
  | next=>exact False.elim hq'
  | brk=>exact False.elim hq'
  | cont=>exact False.elim hq'
theorem za2 (M:Mk X.K C f) (F:FnOk X.prog X.w X.K X.mg X.base CX k f fd ps sp) (hr:Room (k + 1) X.A) (hg:Gl X x) (hm:X.mg x=some (.ref C)) (hb:Binds X.K fd ps ds) (hd:Vals dvs ds) (hx:ku CX X E)
  (ha:PA X (e :: es) t) (hdb:(x == ("__debug__":Str))=false:=by decide) (he:starEach (e :: es) X.env=(false,eval e X.env) :: starEach es X.env:=by rfl) (hpl:(backTo pos (starEach es X.env)).any (·.1)=false:=by rfl) :
  PE X (.Call (.Name x p) (e :: es) [] pos) (Xh C sp dvs E t):=by
 intro pins s σ H Q I h
 refine wpAny_Call_Name_kw (x9 I hg hm ?_ hdb)
 refine PySem.W.callWith_K (h₀:=X.base) I.ok.mod.kin M.kp (thn (ha pos pins s σ H _ I h) fun us s1 ⟨vs,H1,I1,r,q⟩=>⟨I1.kIn,?_⟩) he hpl
 exact VF M F hr hb hd hx I1 r q
theorem QF (M:Mk X.K C f) (F:FnOk X.prog X.w X.K X.mg X.base CX k f fd ps sp) (hr:Room (k + 1) X.A) (hg:Gl X x) (hm:X.mg x=some (.ref C)) (hb:Binds X.K fd ps ds) (hd:Vals dvs ds) (hx:ku CX X E)
  (hdb:(x == ("__debug__":Str))=false:=by decide):PE X (.Call (.Name x p) [] [] pos) (Xh C sp dvs E zk):=by
 intro pins s σ H Q I h
 refine wpAny_Call_Name_kw (x9 I hg hm ?_ hdb)
 exact PySem.W.callWith_K0 I.kIn M.kp (VF (us:=[]) M F hr hb hd hx I .nil h)
end
section
variable {X:Cx} {CX:CXT} {k:Nat} {f C:Addr} {fd:FuncData} {ps ks:List Str} {sp:Sp} {E:XK} {x m:Str} {p pos apos kpos:Pos} {e o:Expr} {es:List Expr} {kws:List Keyword} {te ta:TE} {t tk:TA} {nm:Option Str}
variable {g:List Value→List Value→List Value} {gV:List V→List V→List V}
end
structure zL (N P:List Str) (sc:Scope):Prop where
 kind:sc.kind=.function
 co:sc.isCoroutine=false
 gen:sc.isGenerator=false
 nd:N.Nodup
 pre:N.take P.length=P
 par:∀ x∈P,sc.names.lookup x=some .local∨sc.names.lookup x=some .cell
 nofree:∀ y∈sc.names,y.2≠.free
theorem Wm {kindOf:Str→Option NameKind} {x:Str}:∀ {binds:List (Str × Value)} {m:Str→Option Value},(∀ v,(x,v) ∉ binds)→bindL kindOf binds m x=m x
 | [],_,_=>rfl
 | (n,v) :: r,m,h=>by
  unfold bindL
  rw [Wm fun w hw=>h w (List.mem_cons_of_mem _ hw)]
  split
  ·have:x≠n:=by rintro rfl;exact h v List.mem_cons_self
   simp [this]
  ·rfl
theorem Wn {kindOf:Str→Option NameKind} {x:Str}:∀ {binds:List (Str × Value)} {m:Str→Option Value},(∀ v,(x,v) ∉ binds)→bindC kindOf binds m x=m x
 | [],_,_=>rfl
 | (n,v) :: r,m,h=>by
  unfold bindC
  rw [Wn fun w hw=>h w (List.mem_cons_of_mem _ hw)]
  split
  ·rfl
  ·have:x≠n:=by rintro rfl;exact h v List.mem_cons_self
   simp [this]
theorem Wo {kindOf:Str→Option NameKind} {x:Str} {v:Value}:∀ {P:List Str} {vs:List Value} {i:Nat} {m:Str→Option Value},P.Nodup→P[i]?=some x→vs[i]?=some v→kindOf x=some .local →
  bindL kindOf (P.zip vs) m x=some v
 | [],_,_,_,_,h,_,_=>by simp at h
 | _ :: _,[],_,_,_,_,h,_=>by simp at h
 | p :: P,w :: vs,0,m,nd,h1,h2,hk=>by
  simp at h1 h2;subst h1;subst h2
  show bindL kindOf ((p,w) :: P.zip vs) m p=_
  unfold bindL
  rw [Wm fun v hv=>(List.nodup_cons.mp nd).1 (List.of_mem_zip hv).1,if_pos hk]
  simp
 | p :: P,w :: vs,i + 1,m,nd,h1,h2,hk=>by
  show bindL kindOf ((p,w) :: P.zip vs) m x=_
  unfold bindL
  exact Wo (i:=i) (List.nodup_cons.mp nd).2 (by simpa using h1) (by simpa using h2) hk
theorem Wp {kindOf:Str→Option NameKind} {x:Str} {v:Value}:∀ {P:List Str} {vs:List Value} {i:Nat} {m:Str→Option Value},P.Nodup→P[i]?=some x→vs[i]?=some v→kindOf x≠some .local →
  bindC kindOf (P.zip vs) m x=some v
 | [],_,_,_,_,h,_,_=>by simp at h
 | _ :: _,[],_,_,_,_,h,_=>by simp at h
 | p :: P,w :: vs,0,m,nd,h1,h2,hk=>by
  simp at h1 h2;subst h1;subst h2
  show bindC kindOf ((p,w) :: P.zip vs) m p=_
  unfold bindC
  rw [Wn fun v hv=>(List.nodup_cons.mp nd).1 (List.of_mem_zip hv).1,if_neg hk]
  simp
 | p :: P,w :: vs,i + 1,m,nd,h1,h2,hk=>by
  show bindC kindOf ((p,w) :: P.zip vs) m x=_
  unfold bindC
  exact Wp (i:=i) (List.nodup_cons.mp nd).2 (by simpa using h1) (by simpa using h2) hk
def start (N:List Str) (vs:List V):St:=vs.map some ++ List.replicate (N.length - vs.length) none
def v6 (CX:CXT) (P:Program) (w:World) (K:PySem.W.Frag) (mg:Str→Option Value) (base:Heap) (N:List Str) (qual:Str) (scope:Scope) (f:Addr) (cd:Value) (A:Around) (outer:List Env) (s:Shared) (H:Hp) (E:XK):Cx where
 prog:=P
 w:=w
 K:=K
 mg:=mg
 base:=base
 A:=A.deeper (envOfC qual scope s.heap.objs.size f cd)
 N:=N
 s₀:=s
 H₀:=H
 env:=envOfC qual scope s.heap.objs.size f cd
 outer:=outer
 stack:=envOfC qual scope s.heap.objs.size f cd :: outer
 ex:=[]
 calm:=true
 fn:=fun _=>true
 pn:=[]
 xe:=fun e s'=>wpAny (model P w) (A.deeper (envOfC qual scope s.heap.objs.size f cd)) (leaving (envOfC qual scope s.heap.objs.size f cd) e) (fun _ s''=>CX outer H s E e s'') (fun e' s''=>CX outer H s E e' s'') s'
theorem VG {sc:Scope} {n:Nat} {x:Str} (h:sc.names.lookup x=some .cell):∃ c,(cellsFrom n sc.names []).lookup x=some c:=by
 have q:=PySem.W.cellsFrom_some sc.names n [] (.inl h)
 exact Option.isSome_iff_exists.mp q
theorem Wq {CX:CXT} {P:Program} {w:World} {K:PySem.W.Frag} {mg:Str→Option Value} {base:Heap} {N ps:List Str} {qual:Str} {scope:Scope} {f:Addr} {cd:Value} {A:Around} {outer:List Env} {s s1:Shared} {H:Hp} {E:XK} {us:List Value} {vs:List V}
  (S:zL N ps scope) (hd:A.handled=none) (e0:Env0 P w K mg base A outer s H) (hl:vs.length=ps.length) (r:Vals vs us)
  (x:InCallC s s.heap.objs.size (bindL (envOfC qual scope s.heap.objs.size f cd).kindOf (ps.zip us) fun _=>none) (cellsFrom (s.heap.objs.size + 1) scope.names []) (bindC (envOfC qual scope s.heap.objs.size f cd).kindOf (ps.zip us) fun _=>none) s1) :
  Inv (v6 CX P w K mg base N qual scope f cd A outer s H E) [] (start N vs) H s1:=by
 have hpl:ps.length≤N.length:=by have:=congrArg List.length S.pre;rw [List.length_take] at this;lia
 obtain ⟨h1,tk,rfl,hk⟩:=x.done
 have noA:∀ b:Addr,b ∉ (v6 CX P w K mg base N qual scope f cd A outer s H E).ex:=fun b z=>absurd (show b∈([]:List Addr) from z) (by simp)
 refine ⟨⟨e0.mod,S.kind,rfl,rfl,Nat.le_refl _,fun y z c h1 h2=>?_,fun y hy=>?_,fun y c _ h=>?_,fun _=>hd,Around.frames_deeper e0.frames,.inr ⟨rfl,rfl⟩,fun b z=>absurd z (noA b),e0.bs,e0.bsz,fun b _ _=>noA b,fun b z=>absurd z (noA b),e0.funs,e0.frf⟩,
  rfl,e0.bare,Un.kept hk,⟨_,x.toInCall.ns,fun i y v h1 h2 h3=>?_⟩,fun y c h=>⟨_,x.cell y c h⟩,e0.hok.fresh (Nat.le_refl _),fun y c h=>?_,fun p hp=>absurd (show p∈([]:List (Addr × Obj)) from hp) (by simp),e0.hok.kept hk,?_⟩
 ·exact name_of_addr x.apart (PySem.mem_of_lookup h1) (PySem.mem_of_lookup h2)
 ·have hy:scope.names.lookup y=some .cell∨scope.names.lookup y=some .free:=hy
  rcases hy with hy | hy
  ·exact VG hy
  ·exact absurd rfl (S.nofree _ (PySem.mem_of_lookup hy))
 ·exact Nat.le_of_lt (x.above y c (PySem.mem_of_lookup h))
 ·have hi:i < vs.length:=by
   unfold start at h2
   by_cases hi:i < vs.length
   ·exact hi
   ·rw [List.getElem?_append_right (by simpa using hi)] at h2
    rw [List.getElem?_replicate] at h2
    split at h2 <;> cases h2
  have ha:vs[i]?=some v:=by
   unfold start at h2
   rw [List.getElem?_append_left (by simpa using hi),List.getElem?_map] at h2
   cases e:vs[i]? with
   | none=>rw [e] at h2;cases h2
   | some a=>rw [e] at h2;cases h2;rfl
  obtain ⟨u,hu,rv⟩:=r.get ha
  have hp:ps[i]?=some y:=by
   rw [← S.pre,List.getElem?_take_of_lt (by lia)];exact h1
  have ndP:ps.Nodup:=by rw [← S.pre];exact S.nd.sublist (List.take_sublist _ _)
  refine ⟨u,rv,?_⟩
  rcases S.par y (List.mem_of_getElem? hp) with k | k
  ·exact .inl ⟨k,Wo ndP hp hu k⟩
  ·obtain ⟨c,e⟩:=VG (n:=s.heap.objs.size + 1) k
   refine .inr ⟨.inl k,c,e,?_⟩
   have q:=x.cell y c e
   rw [Wp ndP hp hu (by show scope.names.lookup y≠_;rw [k];decide)] at q
   exact q
 ·exact e0.hok.fresh (Nat.le_of_lt (x.above y c (PySem.mem_of_lookup h)))
 ·unfold start
  show _=N.length
  rw [List.length_append,List.length_map,List.length_replicate]
  lia
theorem zcF {CX:CXT} {P:Program} {w:World} {K:PySem.W.Frag} {mg:Str→Option Value} {base:Heap} {k:Nat} {f:Addr} {name qual:Str} {params:Arguments} {body:List Stmt} {scope:Scope} {dV kV doc pm cdv ct oc:Value} {an od:Option Addr}
  {osl:Array (Option Value)} {N ps:List Str} {sp:Sp} (lk:K.lookup f=some ⟨oc,od,.func (PySem.W.fnOf name qual params body scope dV kV doc pm an cdv ct),osl⟩) (hcd:PySem.W.codeIn K cdv qual=true) (S:zL N ps scope)
  (len:∀ vs H Q E,sp vs H Q E→vs.length=ps.length)
  (hbody:∀ (A:Around) (outer:List Env) (s:Shared) (H:Hp) (vs:List V) (Q:VK) (E:XK),Room k (A.deeper (envOfC qual scope s.heap.objs.size f cdv))→sp vs H Q E →
   ∃ t,PSs (v6 CX P w K mg base N qual scope f cdv A outer s H E) body t∧t { nx:=fun _ H'=>Q .non H',rt:=Q } (start N vs) H) :
  FnOk P w K mg base CX (k + 1) f (PySem.W.fnOf name qual params body scope dV kV doc pm an cdv ct) ps sp:=by
 refine ⟨len,fun A outer s H args us vs Q E hr e0 hb r hsp=>?_⟩
 have hl:=len _ _ _ _ hsp
 have KX:K.In s.heap:=e0.mod.kin.keeps fun b o e=>(e0.bs b o e).1
 have lim:s.heap.NoLimit:=e0.mod.nolimit.keeps fun b o e=>(e0.bs b o e).1
 have hkind:∀ y∈ps.zip us,scope.names.lookup y.1=some .local∨(scope.names.lookup y.1=some .cell∧((cellsFrom (s.heap.objs.size + 1) scope.names []).lookup y.1).isSome=true):=fun ⟨n,v⟩ hy=>by
  rcases S.par n (List.of_mem_zip hy).1 with q | q
  ·exact .inl q
  ·exact .inr ⟨q,PySem.W.cellsFrom_some _ _ _ (.inl q)⟩
 refine codeAny_call_function hr.depth (KX _ _ lk) rfl S.co S.gen rfl (PySem.W.codeRec_of KX hcd) (hb _ _ _ _ ?_)
 refine wpAny_newFunctionEnv_cells S.kind hkind fun env he s1 x=>?_
 subst he
 refine ⟨lim.keeps x.toInCall.keep,codeAny_func ?_⟩
 obtain ⟨t,ht,hq⟩:=hbody A outer s H vs Q E (hr.deeper _) hsp
 have I:Inv (v6 CX P w K mg base N qual scope f cdv A outer s H E) [] (start N vs) H s1:=Wq S hr.hd e0 hl r x
 refine wpAny_mono (ht [] s1 (start N vs) H _ I hq) (fun fl s' hs=>?_) fun e s' hs=>hs
 have fin:∀ {σ':St} {H':Hp} {v:V} {u:Value},Inv (v6 CX P w K mg base N qual scope f cdv A outer s H E) [] σ' H' s'→RelV v u→Q v H'→CE outer P w H s Q u s' :=
  fun {σ' H' v u} J rv q=>⟨v,H',J.os,J.bare,J.base,J.hok,rv,q⟩
 cases fl with
 | ret u =>
  obtain ⟨v,σ',H',J,rv,q⟩:=hs
  exact fin J rv q
 | next =>
  obtain ⟨σ',H',J,q⟩:=hs
  exact fin (v:=V.non) (u:=Value.none) J rfl q
 | brk =>
  obtain ⟨_,_,_,q⟩:=hs
  exact False.elim q
 | cont =>
  obtain ⟨_,_,_,q⟩:=hs
  exact False.elim q
end L2
namespace L2
open PySem PySem.Spec PyProof.Rows
section
variable {X:Cx} {x:Str} {p pos:Pos} {e:Expr} {es:List Expr} {t:TA} {id T:String} {r:List V→Hp→VK→Prop}
def tCB (r:List V→Hp→VK→Prop) (t:TA):TE:=fun σ H Q=>t σ H fun vs H1=>r vs H1 Q
theorem zK (hc:Zb X (.builtin id) r) (hg:Gl X x) (hm:X.mg x=none) (hv:bootBuiltins x=some (.builtin id)) (ha:PA X (e :: es) t) (hn:x≠"__name__":=by decide) (hdb:(x == ("__debug__":Str))=false:=by decide)
  (he:starEach (e :: es) X.env=(false,eval e X.env) :: starEach es X.env:=by rfl) (hpl:(backTo pos (starEach es X.env)).any (·.1)=false:=by rfl):PE X (.Call (.Name x p) (e :: es) [] pos) (tCB r t):=by
 intro pins s σ H Q I h
 refine wpAny_Call_Name_kw (Zh I hg hm hv ?_ hn hdb)
 exact PyProof.Rows.callWith_builtin1 (thn (ha pos pins s σ H _ I h) fun us s1 ⟨vs,H1,I1,r1,q1⟩=>hc pins s1 σ H1 vs us Q I1 r1 q1) he hpl
theorem jb (hc:Zb X (.type T) r) (hg:Gl X x) (hm:X.mg x=none) (hv:bootBuiltins x=some (.type T)) (ha:PA X (e :: es) t) (hn:x≠"__name__":=by decide) (hdb:(x == ("__debug__":Str))=false:=by decide)
  (he:starEach (e :: es) X.env=(false,eval e X.env) :: starEach es X.env:=by rfl) (hpl:(backTo pos (starEach es X.env)).any (·.1)=false:=by rfl):PE X (.Call (.Name x p) (e :: es) [] pos) (tCB r t):=by
 intro pins s σ H Q I h
 refine wpAny_Call_Name_kw (Zh I hg hm hv ?_ hn hdb)
 exact PyProof.Rows.callWith_type1 (thn (ha pos pins s σ H _ I h) fun us s1 ⟨vs,H1,I1,r1,q1⟩=>hc pins s1 σ H1 vs us Q I1 r1 q1) he hpl
end
end L2
namespace HT
open PySem PyProof.Rows
def zcG:List Int→List Int→Bool
 | [],[]=>false
 | [],_ :: _=>true
 | _ :: _,[]=>false
 | x :: xs,y :: ys=>if x=y then zcG xs ys else decide (x < y)
section
open PySem.SeqAt
open PySem.AutoSeq1 (wpAny_loadPart')
open PySem.MeetsSeq PySem.MeetsSeq2 PySem.MeetsSeq3
end
section
variable {prog:Program} {w:World} {A:Around} {E:Value→Shared→Prop} {s:Shared}
theorem cat_tup {t b:Addr} {vs ws:List Value} {Q:Value→Shared→Prop} (ht:IsTup s.heap t vs.toArray) (hb:IsTup s.heap b ws.toArray) (hv:vs≠[])
  (h1:ws=[]→Q (.ref t) s) (h2:ws≠[]→Q (.ref s.heap.objs.size) { s with heap:=s.heap.push { cls:=.type "tuple",data:=.seq (vs ++ ws).toArray } })
  (hsz:vs.length + ws.length≤sizeLine):wpAny (model prog w) A (binaryOp .Add (.ref t) (.ref b)) Q E s:=by
 obtain ⟨⟨cls,dd,data,sl⟩,ho,hc,n,hd⟩:=id ht
 obtain ⟨⟨cls2,dd2,data2,sl2⟩,ho2,hc2,n2,hd2⟩:=id hb
 simp only at hc hd hc2 hd2
 subst hc hd hc2 hd2
 have e:vs.toArray ++ ws.toArray=(vs ++ ws).toArray:=by simp
 by_cases hw:ws=[]
 ·exact concat_meets ⟨_,ho,rfl⟩ ⟨_,ho2,rfl⟩ noFill_tuple_add seq_tuple_add PySem.F.slot_tuple_add PySem.F.entry_tuple_add (PySem.F.args_tuple_add_2 _ _)
   (tuple_addW1 t b vs.toArray ws.toArray n n2 dd dd2 sl sl2 (by simpa using hv) (by simp [hw])) ⟨ho,ho2,h1 hw⟩
 ·refine concat_meets ⟨_,ho,rfl⟩ ⟨_,ho2,rfl⟩ noFill_tuple_add seq_tuple_add PySem.F.slot_tuple_add PySem.F.entry_tuple_add (PySem.F.args_tuple_add_2 _ _)
   (tuple_addW2 t b vs.toArray ws.toArray n n2 dd dd2 sl sl2 (by simpa using hv) (by simpa using hw) (by rw [List.size_toArray,List.size_toArray];exact hsz)) ⟨ho,ho2,?_⟩
  rw [e]
  exact h2 hw
def sIx (n d:Nat):Option Int→Nat
 | none=>d
 | some v=>if v < 0 then (v + (n:Int)).toNat else min v.toNat n
theorem sIx_none (n d:Nat):sIx n d none=d:=rfl
theorem sIx_nat (n d k:Nat):sIx n d (some (k:Int))=min k n:=by
 show (if (k:Int) < 0 then ((k:Int) + (n:Int)).toNat else min (k:Int).toNat n)=min k n
 rw [if_neg (by lia),Int.toNat_natCast]
theorem sIx_le (n d:Nat) (hd:d≤n) (o:Option Int):sIx n d o≤n:=by
 cases o with
 | none=>exact hd
 | some v =>
  show (if v < 0 then (v + (n:Int)).toNat else min v.toNat n)≤n
  by_cases hv:v < 0
  ·rw [if_pos hv];lia
  ·rw [if_neg hv];exact Nat.min_le_right _ _
end
end HT
namespace L2
open PySem PySem.Spec PyProof.Rows
abbrev TO:=St→Hp→(Option Int→Hp→Prop)→Prop
def PO (X:Cx) (e:Option Expr) (t:TO):Prop :=
 ∀ (pins:List (Addr × Obj)) (s:Shared) (σ:St) (H:Hp) (Q:Option Int→Hp→Prop),Inv X pins σ H s→t σ H Q →
  wpAny (model X.prog X.w) X.A (evalPart e X.env) (fun u s'=>∃ o H',Inv X pins σ H' s'∧IsPart u o∧Q o H') X.xe s
def zP:TO:=fun _ H Q=>Q none H
def z8 (t:TE):TO:=fun σ H Q=>t σ H fun x H1=>∃ i,x=.int i∧Q (some i) H1
section
variable {X:Cx} {e:Expr} {te:TE} {lo hi:Option Expr} {tl th:TO} {pos p2:Pos}
theorem yS:PO X none zP:=by
 intro pins s σ H Q I h
 rw [evalPart_none]
 exact wpAny_pure ⟨none,H,I,.none,h⟩
theorem yt (h:PE X e te):PO X (some e) (z8 te):=by
 intro pins s σ H Q I hw
 rw [evalPart_some]
 refine thn (h pins s σ H _ I hw) fun u s1 ⟨x,H1,I1,r1,q1⟩=>?_
 obtain ⟨i,rfl,q⟩:=q1
 obtain ⟨t,rfl⟩:=r1
 exact ⟨some i,H1,I1,.int i t,q⟩
def SlR (X:Cx) (r:V→Option Int→Option Int→Hp→VK→Prop):Prop :=
 ∀ (pins:List (Addr × Obj)) (s:Shared) (σ:St) (H:Hp) (x:V) (v vl vu:Value) (lo hi:Option Int) (sl:Addr) (Q:VK),Inv X pins σ H s→RelV x v→s.heap.IsSliceOf sl vl vu .none→IsPart vl lo→IsPart vu hi→r x lo hi H Q →
  ∃ T id,typeLookup (.type T) "__getitem__"=pure (some (.builtin id))∧s.TypeIs v T∧wpAny (model X.prog X.w) X.A (getItem v (.ref sl)) (EP X pins σ Q) X.xe s
def tSl (r:V→Option Int→Option Int→Hp→VK→Prop) (te:TE) (tl th:TO):TE:=fun σ H Q=>te σ H fun x H1=>tl σ H1 fun l H2=>th σ H2 fun u H3=>r x l u H3 Q
theorem yf {r:V→Option Int→Option Int→Hp→VK→Prop} (hr:SlR X r) (he:PE X e te) (hl:PO X lo tl) (hu:PO X hi th):PE X (.Subscript e (.Slice lo hi none p2) pos) (tSl r te tl th):=by
 intro pins s σ H Q I h
 refine Subscript_ (thn (he pins s σ H _ I h) fun v s1 ⟨x,H1,I1,r1,q1⟩=>?_)
 refine wpAny_Slice (thn (hl pins s1 σ H1 _ I1 q1) fun vl s2 ⟨l,H2,I2,pl,q2⟩=>thn (hu pins s2 σ H2 _ I2 q2) fun vu s3 ⟨u,H3,I3,pu,q3⟩=>?_)
 rw [evalPart_none]
 refine wpAny_pure ?_
 have I4:Inv X pins σ H3 { s3 with heap:=s3.heap.push { cls:=.type "slice",data:=.fields #[vl,vu,.none] } }:=I3.kept (t':=s3.toks) fun b ob q=>Heap.get?_push_of_some _ q
 obtain ⟨T,id,hT,ht,hg⟩:=hr pins { s3 with heap:=s3.heap.push { cls:=.type "slice",data:=.fields #[vl,vu,.none] } } σ H3 x v vl vu l u s3.heap.objs.size Q I4 r1 (Heap.IsSliceOf.new ..) pl pu q3
 show wpAny (model X.prog X.w) X.A (subscriptTail e (.Slice lo hi none p2) v (.ref s3.heap.objs.size)) (EP X pins σ Q) X.xe { s3 with heap:=s3.heap.push { cls:=.type "slice",data:=.fields #[vl,vu,.none] } }
 exact tail_any (ops:=[.ref s3.heap.objs.size,v]) ht hT hg (by with_unfolding_all rfl)
def qY (xs:List V) (lo hi:Option Int):List V:=(xs.drop (HT.sIx xs.length 0 lo)).take (HT.sIx xs.length xs.length hi - HT.sIx xs.length 0 lo)
theorem VH (xs:List V) (lo hi:Option Int):(qY xs lo hi).length≤xs.length:=by
 unfold qY
 rw [List.length_take,List.length_drop]
 lia
def Xi (K:PySem.W.Frag):R2:=fun x y H Q=>∃ a b xs ys,x=.ref a∧y=.ref b∧SqT K H a xs∧SqT K H b ys∧xs≠[]∧xs.length + ys.length≤sizeLine ∧
 (ys=[]→Q (.ref a) H)∧(ys≠[]→∀ p,H p=none→Q (.ref p) (upd H p (.tup (xs ++ ys))))
theorem Vals.nil_iff {xs:List V} {us:List Value} (r:Vals xs us):us=[]↔xs=[]:=by
 cases r with
 | nil=>simp
 | cons _ _=>simp
theorem Kq:OpR X (binaryOp .Add) (Xi X.K):=by
 intro pins s σ H x y v u Q I rx ry h
 obtain ⟨a,b,xs,ys,rfl,rfl,ha,hb,hx,hz,q1,q2⟩:=h
 cases rx
 cases ry
 obtain ⟨its,r1,p1,_⟩:=I.tuple ha
 obtain ⟨its2,r2,p2,_⟩:=I.tuple hb
 refine HT.cat_tup p1 p2 (fun z=>hx (r1.nil_iff.mp z)) (fun z=>⟨.ref a,H,I,rfl,q1 (r2.nil_iff.mp z)⟩) (fun z=>?_) (by rw [← r1.length,← r2.length];exact hz)
 refine ⟨.ref s.heap.objs.size,_,I.laid (t':=s.toks) (o:=.tup (xs ++ ys)) (fun b ob q=>Heap.get?_push_of_some _ q) (Nat.le_refl _) ?_,rfl,q2 (fun w=>z (r2.nil_iff.mpr w)) _ (I.hok.fresh (Nat.le_refl _))⟩
 exact ⟨by rw [List.length_append];exact hz,_,r1.append r2,IsTup.new _ _⟩
end
end L2
namespace L2
open PySem PySem.Spec PyProof.Rows
def ixN (n:Nat) (i:Int):Option Nat:=if 0≤i then (if i < n then some i.toNat else none) else if -(n:Int)≤i then some (i + n).toNat else none
def atI {α:Type} (xs:List α) (i:Int):Option α:=(ixN xs.length i).bind fun j=>xs[j]?
theorem za3 {n:Nat} {i:Int} {j:Nat} (h:ixN n i=some j):seqIndex? i n=some j∧j < n∧-(n:Int)≤i∧i < n:=by
 unfold ixN at h
 by_cases h0:0≤i
 ·rw [if_pos h0] at h
  by_cases h1:i < n
  ·rw [if_pos h1] at h
   have e:i.toNat=j:=Option.some.inj h
   exact ⟨by rw [seqIndex_of h0 h1,e],by lia,by lia,h1⟩
  ·rw [if_neg h1] at h;cases h
 ·rw [if_neg h0] at h
  by_cases h1:-(n:Int)≤i
  ·rw [if_pos h1] at h
   have e:(i + n).toNat=j:=Option.some.inj h
   exact ⟨by rw [seqIndex_neg (by lia) h1,e],by lia,h1,by lia⟩
  ·rw [if_neg h1] at h;cases h
theorem WP {α:Type} {xs:List α} {i:Int} {v:α} (h:atI xs i=some v):∃ j,seqIndex? i xs.length=some j∧xs[j]?=some v∧j < xs.length∧-(xs.length:Int)≤i∧i < xs.length:=by
 unfold atI at h
 cases e:ixN xs.length i with
 | none=>rw [e] at h;cases h
 | some j =>
  rw [e] at h
  obtain ⟨h1,h2,h3,h4⟩:=za3 e
  exact ⟨j,h1,h,h2,h3,h4⟩
theorem za4 {α:Type} {xs:List α} {j:Nat} {v:α} (h:xs[j]?=some v):atI xs (j:Int)=some v:=by
 have hj:j < xs.length:=(List.getElem?_eq_some_iff.mp h).1
 have e:ixN xs.length (j:Int)=some j:=by
  unfold ixN
  rw [if_pos (by lia),if_pos (by lia)];simp
 unfold atI;rw [e];exact h
def za5 (b:Expr):Prop:=∀ o i,subscripted b false o i=operate [o,i] (getItem o i)
def IxR (X:Cx) (r:R2):Prop :=
 ∀ (value slice:Expr) (pins:List (Addr × Obj)) (s:Shared) (σ:St) (H:Hp) (x y:V) (v u:Value) (Q:VK),Inv X pins σ H s→RelV x v→RelV y u→r x y H Q →
  subscripted slice false v u=operate [v,u] (getItem v u)→wpAny (model X.prog X.w) X.A (subscriptTail value slice v u) (EP X pins σ Q) X.xe s
def MtR (X:Cx) (id:String) (r:V→List V→Hp→VK→Prop):Prop :=
 ∀ (pins:List (Addr × Obj)) (s:Shared) (σ:St) (H:Hp) (x:V) (xs:List V) (v:Value) (us:List Value) (Q:VK),Inv X pins σ H s→RelV x v→Vals xs us→r x xs H Q →
  wpAny (model X.prog X.w) X.A (call (.builtin id) (v :: us)) (EP X pins σ Q) X.xe s
section
variable {X:Cx} {a b:Expr} {ta tb:TE} {pos:Pos}
theorem yE {r:R2} (hr:IxR X r) (ha:PE X a ta) (hb:PE X b tb) (hs:za5 b):PE X (.Subscript a b pos) (tOp r ta tb):=by
 intro pins s σ H Q I h
 exact Subscript_ (zbW ha hb I h fun v u s2 x y H2 I2 rx ry q=>hr a b pins s2 σ H2 x y v u Q I2 rx ry q (hs _ _))
def yC (K:PySem.W.Frag):R2:=fun x y H Q=>∃ p xs i v,x=.ref p∧y=.int i∧SqL K H p xs∧atI xs i=some v∧Q v H
def ZN (K:PySem.W.Frag):R2:=fun x y H Q=>∃ p xs i v,x=.ref p∧y=.int i∧SqT K H p xs∧atI xs i=some v∧Q v H
def Xj:R2:=fun x y H Q=>∃ z i c,x=.str z∧y=.int i∧z.length≤sizeLine∧atI z.cps.toList i=some c∧Q (.str ⟨#[c]⟩) H
theorem yi:IxR X (yC X.K):=by
 intro value slice pins s σ H x y v u Q I rx ry h hs
 obtain ⟨p,xs,i,z,rfl,rfl,hq,he,q⟩:=h
 cases rx
 obtain ⟨t,rfl⟩:=ry
 obtain ⟨its,r,pl,hz⟩:=I.list hq
 obtain ⟨j,h1,h2,h3,h4,h5⟩:=WP he
 obtain ⟨w,ew,rw'⟩:=r.get h2
 have hl:=r.length
 have hn:=WN
 have fin:EP X pins σ Q w s:=⟨z,H,I,rw',q⟩
 by_cases h0:0≤i
 ·have hj:i.toNat=j:=by
   rw [seqIndex_of h0 h5] at h1
   exact Option.some.inj h1
  exact item_listR pl.isList h0 (by lia) (by rw [hj];simpa using ew) fin hs
 ·have hj:(i + (its.toArray.size:Int)).toNat=j:=by
   rw [seqIndex_neg (by lia) h4] at h1
   rw [List.size_toArray,← hl]
   exact Option.some.inj h1
  exact subscriptTail_builtinR (x:=w) pl.isList.typeIs slot_list_getitem.lookup
   (wpAny_getItem_list_neg (Q:=fun r s'=>r=w∧EP X pins σ Q r s') pl.isList (by lia) (by rw [List.size_toArray] <;> lia) (by lia) (by rw [hj];simpa using ew) ⟨rfl,fin⟩) hs
theorem Zo:IxR X (ZN X.K):=by
 intro value slice pins s σ H x y v u Q I rx ry h hs
 obtain ⟨p,xs,i,z,rfl,rfl,hq,he,q⟩:=h
 cases rx
 obtain ⟨t,rfl⟩:=ry
 obtain ⟨its,r,pl,hz⟩:=I.tuple hq
 obtain ⟨j,h1,h2,h3,h4,h5⟩:=WP he
 obtain ⟨w,ew,rw'⟩:=r.get h2
 have hl:=r.length
 have hn:=WN
 have fin:EP X pins σ Q w s:=⟨z,H,I,rw',q⟩
 exact subscriptTail_builtinR (x:=w) pl.typeIs slot_tuple_getitem.lookup
  (getItem_tuple (j:=j) (Q:=fun r s'=>r=w∧EP X pins σ Q r s') pl (by lia) (by lia) (by rw [List.size_toArray,← hl];exact h1) (by simpa using ew) ⟨rfl,fin⟩) hs
theorem WQ:IxR X Xj:=by
 intro value slice pins s σ H x y v u Q I rx ry h hs
 obtain ⟨z,i,c,rfl,rfl,hz,he,q⟩:=h
 obtain ⟨t,rfl⟩:=rx
 obtain ⟨t',rfl⟩:=ry
 obtain ⟨j,h1,h2,h3,h4,h5⟩:=WP he
 have hl:z.cps.toList.length=z.length:=by simp [Str.length]
 rw [hl] at h1 h4 h5
 have hn:=WN
 exact tail_any (typeIs_str s z t) slot_str_getitem.lookup (getItem_str (c:=c) (by
  have e1:decide (i < -(2 ^ 63:Int))=false:=decide_eq_false (by lia)
  have e2:decide (i ≥ 2 ^ 63)=false:=decide_eq_false (by lia)
  rw [e1,e2,Bool.or_false]) (by rw [h1];simpa using h2) ⟨.str ⟨#[c]⟩,H,I.tok _,⟨_,rfl⟩,q⟩) hs
theorem WR (lo hi:Option Int) (n:Nat):(sliceBounds lo hi none n).1=((HT.sIx n 0 lo:Nat):Int)∧(sliceBounds lo hi none n).2.1=((HT.sIx n n hi:Nat):Int)∧(sliceBounds lo hi none n).2.2=1:=by
 refine ⟨?_,?_,rfl⟩
 ·cases lo with
  | none=>simp [sliceBounds,HT.sIx]
  | some i =>
   simp only [sliceBounds,HT.sIx,Option.getD_none,show (1:Int) > 0 by decide,if_true]
   by_cases h:i < 0
   ·simp only [h,if_true] <;> lia
   ·simp only [h,if_false] <;> lia
 ·cases hi with
  | none=>simp [sliceBounds,HT.sIx]
  | some i =>
   simp only [sliceBounds,HT.sIx,Option.getD_none,show (1:Int) > 0 by decide,if_true]
   by_cases h:i < 0
   ·simp only [h,if_true] <;> lia
   ·simp only [h,if_false] <;> lia
theorem X2 (its:List Value) (lo hi:Option Int):slicePick its.toArray lo hi none=((its.drop (HT.sIx its.length 0 lo)).take (HT.sIx its.length its.length hi - HT.sIx its.length 0 lo)).toArray:=by
 obtain ⟨h1,h2,h3⟩:=WR lo hi its.toArray.size
 unfold slicePick
 rw [h1,h2,h3]
 simp only [sliceRange_one,pick_run,List.size_toArray] <;> rfl
def wd (K:PySem.W.Frag):V→Option Int→Option Int→Hp→VK→Prop:=fun x lo hi H Q=>∃ a xs,x=.ref a∧SqL K H a xs∧∀ p,H p=none→Q (.ref p) (upd H p (.lst (qY xs lo hi)))
theorem wC:SlR X (wd X.K):=by
 intro pins s σ H x v vl vu lo hi sl Q I rx hs pl pu h
 obtain ⟨a,xs,rfl,hx,q⟩:=h
 cases rx
 obtain ⟨its,r,ht,hz⟩:=I.list hx
 have hlen:=r.length
 refine ⟨"list",_,slot_list_getitem.lookup,ht.isList.typeIs,?_⟩
 refine wpAny_getItem_list_slice ht.isList hs pl pu .none (by simp) ?_ (by rw [List.size_toArray] <;> lia)
 rw [X2,← hlen]
 refine ⟨.ref s.heap.objs.size,_,I.laid (t':=s.toks) (o:=.lst (qY xs lo hi)) (fun b ob q=>Heap.get?_push_of_some _ q) (Nat.le_refl _) ?_,rfl,q _ (I.hok.fresh (Nat.le_refl _))⟩
 exact ⟨Nat.le_trans (VH xs lo hi) hz,_,0,(r.drop (HT.sIx xs.length 0 lo)).take (HT.sIx xs.length xs.length hi - HT.sIx xs.length 0 lo),Heap.get?_push_size _ rfl⟩
def YO:V→Bool
 | .non=>true
 | .bl _=>true
 | .int _=>true
 | .str _=>true
 | _=>false
def eqV:V→V→Bool
 | .non,.non=>true
 | .bl a,.bl b=>a == b
 | .bl a,.int b=>(if a then 1 else 0) == b
 | .int a,.bl b=>a == (if b then 1 else 0)
 | .int a,.int b=>a == b
 | .str a,.str b=>a == b
 | _,_=>false
theorem zbY {A:Around} {s:Shared} {y x:V} {u v:Value} (ry:RelV y u) (rx:RelV x v) (fy:YO y=true) (fx:YO x=true):SeqAt.EqAt A s u v (eqV y x):=by
 cases y with
 | non =>
  cases ry
  cases x with
  | non=>cases rx;exact SeqAt.EqAt.same _
  | bl b=>cases rx;exact SeqAt.EqAt.none_bool b
  | int b=>obtain ⟨t,rfl⟩:=rx;exact SeqAt.EqAt.none_int b t
  | str b=>obtain ⟨t,rfl⟩:=rx;exact SeqAt.EqAt.none_str b t
  | _=>exact absurd (show false=true from fx) Bool.false_ne_true
 | bl a =>
  cases ry
  cases x with
  | non=>cases rx;exact SeqAt.EqAt.bool_none a
  | bl b=>cases rx;exact SeqAt.EqAt.bool_bool a b
  | int b=>obtain ⟨t,rfl⟩:=rx;exact SeqAt.EqAt.bool_int a b t
  | str b=>obtain ⟨t,rfl⟩:=rx;exact SeqAt.EqAt.bool_str a b t
  | _=>exact absurd (show false=true from fx) Bool.false_ne_true
 | int a =>
  obtain ⟨t',rfl⟩:=ry
  cases x with
  | non=>cases rx;exact SeqAt.EqAt.int_none a t'
  | bl b=>cases rx;exact SeqAt.EqAt.int_bool a t' b
  | int b=>obtain ⟨t,rfl⟩:=rx;exact SeqAt.EqAt.int_int a t' b t
  | str b=>obtain ⟨t,rfl⟩:=rx;exact SeqAt.EqAt.int_str a t' b t
  | _=>exact absurd (show false=true from fx) Bool.false_ne_true
 | str a =>
  obtain ⟨t',rfl⟩:=ry
  cases x with
  | non=>cases rx;exact SeqAt.EqAt.str_none a t'
  | bl b=>cases rx;exact SeqAt.EqAt.str_bool a t' b
  | int b=>obtain ⟨t,rfl⟩:=rx;exact SeqAt.EqAt.str_int a t' b t
  | str b=>obtain ⟨t,rfl⟩:=rx;exact SeqAt.EqAt.str_str a t' b t
  | _=>exact absurd (show false=true from fx) Bool.false_ne_true
 | _=>exact absurd (show false=true from fy) Bool.false_ne_true
def eqU (x:V) (u:Value):Bool:=match u with
 | .none=>eqV .non x
 | .bool b=>eqV (.bl b) x
 | .int i _=>eqV (.int i) x
 | .str z _=>eqV (.str z) x
 | _=>false
theorem QG {x y:V} {u:Value} (r:RelV y u) (f:YO y=true):eqU x u=eqV y x:=by
 cases y with
 | non=>cases r;rfl
 | bl b=>cases r;rfl
 | int i=>obtain ⟨t,rfl⟩:=r;rfl
 | str z=>obtain ⟨t,rfl⟩:=r;rfl
 | _=>exact absurd (show false=true from f) Bool.false_ne_true
theorem ZO {x:V}:∀ {xs:List V} {us:List Value},Vals xs us→xs.all YO=true→us.any (eqU x)=xs.any fun y=>eqV y x
 | _,_,.nil,_=>rfl
 | y :: xs,u :: us,.cons r t,f=>by
  rw [List.all_cons,Bool.and_eq_true] at f
  rw [List.any_cons,List.any_cons,QG r f.1,ZO t f.2]
theorem qe {A:Around} {s:Shared} {x:V} {v:Value} (rx:RelV x v) (fx:YO x=true):∀ {xs:List V} {us:List Value},Vals xs us→xs.all YO=true→∀ u∈us,SeqAt.EqAt A s u v (eqU x u)
 | _,_,.nil,_=>fun u hu=>by cases hu
 | y :: xs,u :: us,.cons r t,f=>fun u' hu=>by
  rw [List.all_cons,Bool.and_eq_true] at f
  rcases List.mem_cons.mp hu with rfl | hu
  ·rw [QG r f.1];exact zbY r rx f.1 fx
  ·exact qe rx fx t f.2 u' hu
def inV (x:V) (xs:List V):Bool:=xs.any fun y=>eqV y x
def rIn (K:PySem.W.Frag) (neg:Bool):R2:=fun x y H Q=>∃ p xs,y=.ref p∧(SqL K H p xs∨SqT K H p xs)∧YO x=true∧xs.all YO=true∧Q (.bl (if neg then !inV x xs else inV x xs)) H
theorem xB:OpR X (compareOp .In) (rIn X.K false):=by
 intro pins s σ H x y v u Q I rx ry h
 obtain ⟨p,xs,rfl,hq,fx,fs,q⟩:=h
 cases ry
 rcases hq with hq | hq
 ·obtain ⟨its,r,pl,hz⟩:=I.list hq
  refine SeqAt.in_listAt (eqU x) pl.isList (fun w hw=>qe rx fx r fs w (by simpa using hw)) ⟨.bl _,H,I,rfl,?_⟩
  rw [show its.toArray.any (eqU x)=its.any (eqU x) by simp,ZO r fs]
  exact q
 ·obtain ⟨its,r,pl,hz⟩:=I.tuple hq
  refine SeqAt.in_tupleAt (eqU x) pl (fun w hw=>qe rx fx r fs w (by simpa using hw)) ⟨.bl _,H,I,rfl,?_⟩
  rw [show its.toArray.any (eqU x)=its.any (eqU x) by simp,ZO r fs]
  exact q
theorem WS:OpR X (compareOp .NotIn) (rIn X.K true):=by
 intro pins s σ H x y v u Q I rx ry h
 obtain ⟨p,xs,rfl,hq,fx,fs,q⟩:=h
 cases ry
 rcases hq with hq | hq
 ·obtain ⟨its,r,pl,hz⟩:=I.list hq
  refine SeqAt.notIn_listAt (eqU x) pl.isList (fun w hw=>qe rx fx r fs w (by simpa using hw)) ⟨.bl _,H,I,rfl,?_⟩
  rw [show its.toArray.any (eqU x)=its.any (eqU x) by simp,ZO r fs]
  exact q
 ·obtain ⟨its,r,pl,hz⟩:=I.tuple hq
  refine SeqAt.notIn_tupleAt (eqU x) pl (fun w hw=>qe rx fx r fs w (by simpa using hw)) ⟨.bl _,H,I,rfl,?_⟩
  rw [show its.toArray.any (eqU x)=its.any (eqU x) by simp,ZO r fs]
  exact q
def tyV (K:PySem.W.Frag) (T:String) (x:V) (H:Hp):Prop:=match x with
 | .str _=>T="str"
 | .int _=>T="int"
 | .ref p=>(T="list"∧∃ xs,SqL K H p xs)∨(T="tuple"∧∃ o,K.lookup p=some o∧o.cls=.type "tuple"∧o.dict=none) ∨
   (T="dict"∧((∃ kvs,H p=some (.dK kvs))∨∃ kvs,H p=some (.dT kvs)))∨(T="set"∧∃ S n,H p=some (.set S n))
 | _=>False
theorem QH {pins:List (Addr × Obj)} {σ:St} {H:Hp} {s:Shared} {T:String} {x:V} {v:Value} (I:Inv X pins σ H s) (r:RelV x v) (ty:tyV X.K T x H) :
  s.TypeIs v T∧∀ a,v=.ref a→∃ ob,s.heap.get? a=some ob∧ob.dict=none:=by
 cases x with
 | str z =>
  obtain ⟨t,rfl⟩:=r
  cases (show T="str" from ty)
  exact ⟨typeIs_str s z t,fun _ e=>nomatch e⟩
 | int i =>
  obtain ⟨t,rfl⟩:=r
  cases (show T="int" from ty)
  exact ⟨typeIs_int s i t,fun _ e=>nomatch e⟩
 | ref p =>
  cases r
  rcases ty with ⟨rfl,xs,hq⟩ | ⟨rfl,o,hk,hc,hd⟩ | ⟨rfl,hk⟩ | ⟨rfl,S,n,hk⟩
  ·obtain ⟨its,_,pl,_⟩:=I.list hq
   refine ⟨pl.isList.typeIs,fun a e=>?_⟩
   cases e
   obtain ⟨o,n,e,c,hd,_⟩:=pl
   exact ⟨o,e,hd⟩
  ·refine ⟨⟨o,I.kIn p o hk,hc⟩,fun a e=>?_⟩
   cases e
   exact ⟨o,I.kIn _ o hk,hd⟩
  ·have z:∃ o,s.heap.get? p=some o∧o.ExactDict:=by
    rcases hk with ⟨kvs,hk⟩ | ⟨kvs,hk⟩
    ·obtain ⟨_,_,_,_,o,_,_,e,ex,_⟩:=I.hok p _ hk
     exact ⟨o,e,ex⟩
    ·obtain ⟨_,_,_,_,o,_,_,e,ex,_⟩:=I.hok p _ hk
     exact ⟨o,e,ex⟩
   obtain ⟨o,e,ex⟩:=z
   refine ⟨⟨o,e,ex.1⟩,fun a e2=>?_⟩
   cases e2
   exact ⟨o,e,ex.2.1⟩
  ·obtain ⟨o,_,_,_,e,ex,_⟩:=I.hok p _ hk
   refine ⟨⟨o,e,ex.1⟩,fun a e2=>?_⟩
   cases e2
   exact ⟨o,e,ex.2.1⟩
 | _=>exact False.elim ty
def Xk (K:PySem.W.Frag) (T:String) (r:V→List V→Hp→VK→Prop) (to:TE):TE:=fun σ H Q=>to σ H fun x H1=>tyV K T x H1∧r x [] H1 Q
def tBM (K:PySem.W.Frag) (T:String) (r:V→List V→Hp→VK→Prop) (to:TE) (t:TA):TE:=fun σ H Q=>to σ H fun x H1=>tyV K T x H1∧t σ H1 fun xs H2=>r x xs H2 Q
variable {o e:Expr} {es:List Expr} {to:TE} {t:TA} {name:Str} {apos cpos:Pos} {T id:String} {r:V→List V→Hp→VK→Prop}
theorem Xl (pa:PlainAttrs T) (slot:Slot T name id) (hty:typeOf (.builtin id)=pure (.type "method_descriptor")) (hm:MtR X id r) (ho:PE X o to)
  (hbase:attributeBase o name X.env (eval o X.env)=eval o X.env:=by rfl) (hline:(apos.endLine == cpos.line)=true:=by rfl):PE X (.Call (.Attribute o name apos) [] [] cpos) (Xk X.K T r to):=by
 intro pins s σ H Q I h
 refine wpAny_Call_method0_late hbase hline (thn (ho pins s σ H _ I h) fun v s1 ⟨x,H1,I1,r1,ty,q1⟩=>?_)
 obtain ⟨h1,h2⟩:=QH I1 r1 ty
 exact ⟨T,id,pa,slot,hty,h1,h2,Calls.callWith_builtin rfl (PySem.evalArgs_none (hm pins s1 σ H1 x [] v [] Q I1 r1 .nil q1))⟩
theorem wI (pa:PlainAttrs T) (slot:Slot T name id) (hty:typeOf (.builtin id)=pure (.type "method_descriptor")) (hm:MtR X id r) (ho:PE X o to) (ha:PA X (e :: es) t)
  (hbase:attributeBase o name X.env (eval o X.env)=eval o X.env:=by rfl)
  (hfew:((backTo cpos (starEach (e :: es) X.env)).all (fun x=>!x.1) && (backToKw cpos (keywordEach [] X.env)).all (fun x=>x.1.isSome)
   && decide ((e :: es).length + ([]:List Keyword).length + (if ([]:List Keyword).isEmpty then 0 else 1) < 30))=true:=by rfl)
  (hline:(apos.endLine == cpos.line)=true:=by rfl) (hs:starEach (e :: es) X.env=(false,eval e X.env) :: starEach es X.env:=by rfl) (hplain:(backTo cpos (starEach es X.env)).any (·.1)=false:=by rfl) :
  PE X (.Call (.Attribute o name apos) (e :: es) [] cpos) (tBM X.K T r to t):=by
 intro pins s σ H Q I h
 refine wpAny_Call_method_late hbase hfew hline rfl (thn (ho pins s σ H _ I h) fun v s1 ⟨x,H1,I1,r1,ty,q1⟩=>?_)
 obtain ⟨h1,h2⟩:=QH I1 r1 ty
 refine ⟨T,id,pa,slot,hty,h1,h2,?_⟩
 have hA:=ha cpos pins s1 σ H1 _ I1 q1
 rw [hs] at hA ⊢
 refine Calls.callWith_builtin (by show (false || (backTo cpos (starEach es X.env)).any (·.1))=false;rw [hplain] <;> rfl) (Calls.evalArgs_plain ?_)
 exact thn hA fun us s2 ⟨vs,H2,I2,r2,q2⟩=>hm pins s2 σ H2 x vs v us Q I2 r1 r2 q2
end
end L2
namespace L2
open PySem PySem.Spec PyProof.Rows
def MtM (X:Cx) (id:String) (r:V→List V→Hp→VK→Prop):Prop :=
 ∀ (pins:List (Addr × Obj)) (s:Shared) (σ:St) (H:Hp) (x:V) (xs:List V) (v:Value) (us:List Value) (Q:VK),Inv X pins σ H s→RelV x v→Vals xs us→r x xs H Q →
  wpAny (model X.prog X.w) X.A (call (.builtin id) (v :: us)) (EP X pins σ Q) X.xe s
theorem Vals.one:∀ {x:V} {us:List Value},Vals [x] us→∃ u,us=[u]∧RelV x u
 | _,_,.cons r .nil=>⟨_,rfl,r⟩
theorem Vals.zero:∀ {us:List Value},Vals [] us→us=[]
 | _,.nil=>rfl
theorem Vals.dropLast {xs:List V} {us:List Value} (h:Vals xs us):Vals xs.dropLast us.dropLast:=by
 induction h with
 | nil=>exact .nil
 | cons r t ih =>
  cases t with
  | nil=>exact .nil
  | cons q t'=>exact .cons r ih
theorem Vals.rep {xs:List V} {us:List Value} (h:Vals xs us):∀ k:Nat,Vals (List.replicate k xs).flatten (List.replicate k us).flatten
 | 0=>.nil
 | k + 1=>by
  rw [List.replicate_succ,List.replicate_succ,List.flatten_cons,List.flatten_cons]
  exact Vals.append h (Vals.rep h k)
theorem JB {α:Type} (l:List α):l.eraseIdx (l.length - 1)=l.dropLast:=by
 induction l with
 | nil=>rfl
 | cons a r ih =>
  cases r with
  | nil=>rfl
  | cons b r =>
   have e:(a :: b :: r).length - 1=((b :: r).length - 1) + 1:=by
    have h1:(a :: b :: r).length=r.length + 2:=rfl
    have h2:(b :: r).length=r.length + 1:=rfl
    lia
   rw [e,List.eraseIdx_cons_succ,ih]
   all_goals rfl
theorem Wr (its:List Value):∀ (k:Nat) (acc:List Value),
  List.foldl (fun x1 x2=>x1 ++ x2) acc.toArray (List.replicate k its.toArray)=(acc ++ (List.replicate k its).flatten).toArray
 | 0,acc=>by simp
 | k + 1,acc=>by
  have e:acc.toArray ++ its.toArray=(acc ++ its).toArray:=by simp
  have e2:(acc ++ its) ++ (List.replicate k its).flatten=acc ++ (List.replicate (k + 1) its).flatten:=by
   rw [List.replicate_succ,List.flatten_cons,List.append_assoc]
  rw [← e2,← Wr its k (acc ++ its),← e,List.replicate_succ,List.foldl_cons]
section
variable {X:Cx} {pins:List (Addr × Obj)} {σ:St} {H:Hp} {s:Shared} {l b:Addr} {xs ys zs:List V}
theorem Inv.lset {its its':List Value} {n:Nat} {f:Array Value→Array Value} {t':Nat} (I:Inv X pins σ H s) (hH:H l=some (.lst xs))
  (e:s.heap.get? l=some { cls:=.type "list",data:=.seq its.toArray n }) (hf:f its.toArray=its'.toArray) (hv:Vals ys its') (hz:ys.length≤sizeLine) :
  Inv X pins σ (upd H l (.lst ys)) { s with heap:=s.heap.update l (Obj.mapSeq f),toks:=t' }:=by
 have q:=PySem.IsL.update e f
 rw [hf] at q
 refine I.write (x:=l) (e:=l) (by rw [hH];exact trivial) (.inl rfl) (fun b' u hb hu=>(Heap.get?_update_other s.heap (Obj.mapSeq f) (Ne.symm hb)).trans hu) ⟨_,q⟩ ?_
 exact ⟨hz,its',_,hv,q⟩
theorem Inv.lnew {its:List Value} {t':Nat} (I:Inv X pins σ H s) (hv:Vals ys its) (hz:ys.length≤sizeLine) :
  Inv X pins σ (upd H s.heap.objs.size (.lst ys)) { s with heap:=s.heap.push { cls:=.type "list",data:=.seq its.toArray },toks:=t' } :=
 I.laid (fun _ _ q=>Heap.get?_push_of_some _ q) (Nat.le_refl _) ⟨hz,its,0,hv,Heap.get?_push_size _ rfl⟩
theorem Inv.fresh (I:Inv X pins σ H s):H s.heap.objs.size=none:=I.hok.fresh (Nat.le_refl _)
theorem Inv.lstM (I:Inv X pins σ H s) (hH:H l=some (.lst xs)):xs.length≤sizeLine∧∃ (its:List Value) (n:Nat),Vals xs its∧xs.length=its.length∧s.heap.get? l=some { cls:=.type "list",data:=.seq its.toArray n }:=by
 obtain ⟨z,its,n,r,e⟩:=I.hok l _ hH
 exact ⟨z,its,n,r,r.length,e⟩
theorem QI {n:Nat} (h:n≤sizeLine):Builtin.List.listTooLong n=false:=by
 unfold Builtin.List.listTooLong
 exact decide_eq_false (by lia)
end
section
variable {X:Cx}
def xx:V→List V→Hp→VK→Prop:=fun x vs H Q=>∃ l xs y,x=.ref l∧vs=[y]∧H l=some (.lst xs)∧xs.length < sizeLine∧Q .non (upd H l (.lst (xs ++ [y])))
theorem xc:MtM X "list.append" xx:=by
 intro pins s σ H x vs v us Q I rx rv h
 obtain ⟨l,xs,y,rfl,rfl,hH,hz,q⟩:=h
 cases rx
 obtain ⟨u,rfl,ru⟩:=rv.one
 obtain ⟨z,its,n,r,hl,e⟩:=I.lstM hH
 refine call_meets F.slot_list_append ⟨_,e,rfl⟩ F.entry_list_append (F.args_list_append_2 _ _) (PySem.list_append l its.toArray n u (by rw [List.size_toArray];lia)) ⟨e,?_⟩
 refine ⟨.non,_,I.lset (its':=its ++ [u]) hH e (by simp) (r.append (.cons ru .nil)) ?_,rfl,q⟩
 rw [List.length_append,List.length_singleton]
 lia
def za6:V→List V→Hp→VK→Prop:=fun x vs H Q=>∃ l b xs zs,x=.ref l∧vs=[.ref b]∧H l=some (.lst xs)∧H b=some (.lst zs)∧xs.length + zs.length≤sizeLine∧Q .non (upd H l (.lst (xs ++ zs)))
def JC:V→List V→Hp→VK→Prop:=fun x vs H Q=>∃ l xs y,x=.ref l∧vs=[]∧H l=some (.lst xs)∧xs[xs.length - 1]?=some y∧Q y (upd H l (.lst xs.dropLast))
theorem Xm:MtM X "list.pop" JC:=by
 intro pins s σ H x vs v us Q I rx rv h
 obtain ⟨l,xs,y,rfl,rfl,hH,hy,q⟩:=h
 cases rx
 have hus:=rv.zero
 subst hus
 obtain ⟨z,its,n,r,hl,e⟩:=I.lstM hH
 obtain ⟨u,hu,ru⟩:=r.get hy
 have hy':its.toArray[its.toArray.size - 1]?=some u:=by
  show its.toArray[its.length - 1]?=some u
  rw [← Array.getElem?_toList,← hl]
  exact hu
 refine call_meets F.slot_list_pop ⟨_,e,rfl⟩ F.entry_list_pop (F.args_list_pop_1 _) (MeetsSeq.list_pop_last l its.toArray n u hy' (by rw [List.size_toArray];lia)) ⟨e,?_⟩
 refine ⟨y,_,I.lset (its':=its.dropLast) hH e ?_ r.dropLast ?_,ru,q⟩
 ·show its.toArray.eraseIdxIfInBounds (its.toArray.size - 1)=its.dropLast.toArray
  rw [List.size_toArray,List.eraseIdxIfInBounds_toArray,JB]
 ·rw [List.length_dropLast]
  lia
def zbZ:V→List V→Hp→VK→Prop:=fun x vs H Q=>∃ l xs,x=.ref l∧vs=[]∧H l=some (.lst xs)∧Q .non (upd H l (.lst []))
def yg:R2:=fun x y H Q=>∃ l b xs zs,x=.ref l∧y=.ref b∧H l=some (.lst xs)∧H b=some (.lst zs)∧xs.length + zs.length≤sizeLine∧∀ p,H p=none→Q (.ref p) (upd H p (.lst (xs ++ zs)))
theorem xI:OpR X (binaryOp .Add) yg:=by
 intro pins s σ H x y v u Q I rx ry h
 obtain ⟨l,b,xs,zs,rfl,rfl,hH,hB,hz,q⟩:=h
 cases rx
 cases ry
 obtain ⟨z,its,n,r,hl,e⟩:=I.lstM hH
 obtain ⟨z2,its2,n2,r2,hl2,e2⟩:=I.lstM hB
 refine PySem.P.add_list e e2 ?_ (by rw [List.size_toArray,List.size_toArray];lia)
 have ea:its.toArray ++ its2.toArray=(its ++ its2).toArray:=by simp
 rw [ea]
 exact ⟨.ref _,_,I.lnew (t':=s.toks) (r.append r2) (by rw [List.length_append];lia),rfl,q _ I.fresh⟩
def Zp:R2:=fun x y H Q=>∃ l k xs,x=.ref l∧y=.int k∧H l=some (.lst xs)∧-(2 ^ 63)≤k∧k < 2 ^ 63∧xs.length * k.toNat≤sizeLine ∧
 ∀ p,H p=none→Q (.ref p) (upd H p (.lst (List.replicate k.toNat xs).flatten))
theorem za7 {α:Type} (xs:List α) (k:Nat):(List.replicate k xs).flatten.length=k * xs.length:=by
 induction k with
 | zero=>simp
 | succ k ih=>rw [List.replicate_succ,List.flatten_cons,List.length_append,ih,Nat.succ_mul,Nat.add_comm]
theorem WT:OpR X (binaryOp .Mult) Zp:=by
 intro pins s σ H x y v u Q I rx ry h
 obtain ⟨l,k,xs,rfl,rfl,hH,h1,h2,hz,q⟩:=h
 cases rx
 obtain ⟨t,rfl⟩:=ry
 obtain ⟨z,its,n,r,hl,e⟩:=I.lstM hH
 have hlen:its.toArray.size * k.toNat≤sizeLine:=by rw [List.size_toArray,← hl];exact hz
 have hcap:¬ its.toArray.size * k.toNat > (2 ^ 63 - 1) / 8:=by
  have:(sizeLine:Nat)≤(2 ^ 63 - 1) / 8:=by decide
  lia
 have hfit:¬ (!Builtin.List.listFitsIndex k)=true:=by
  rw [fitsIndex_both h1 h2]
  exact Bool.false_ne_true
 have hlong:¬ Builtin.List.listTooLong (its.toArray.size * k.toNat)=true:=by
  rw [QI hlen]
  exact Bool.false_ne_true
 have hnew:List.foldl (fun x1 x2=>x1 ++ x2) #[] (List.replicate (if its.toArray.isEmpty=true then 0 else k.toNat) its.toArray)=(List.replicate k.toNat its).flatten.toArray:=by
  have f0:∀ m:Nat,List.foldl (fun x1 x2=>x1 ++ x2) #[] (List.replicate m its.toArray)=(List.replicate m its).flatten.toArray:=fun m=>by
   have:=Wr its m []
   rw [List.nil_append] at this
   exact this
  rw [f0]
  cases its with
  | nil=>simp
  | cons a r'=>rw [if_neg (by simp)]
 refine wpAny_binaryOp_repeat_ref (T:="list") (U:="int") (by decide) ⟨_,e,rfl⟩ (fun s'=>typeIs_int s' k t) noFill_list_mul F.fills_int_mul F.slot_int_rmul repeat_list F.slot_int_index.lookup
  (call_meets F.slot_int_rmul (typeIs_int s k t) F.entry_int_rmul (F.args_int_rmul_2 _ _) (int___rmul___int_list k t l its.toArray n)
    ⟨e,rfl,⟨_,e,rfl⟩,call_meets F.slot_list_mul ⟨_,e,rfl⟩ F.entry_list_mul (F.args_list_mul_2 _ _) (AutoListH.list___mul___list_int_3 l its.toArray n k t hfit hcap hlong) ⟨e,?_⟩⟩)
 rw [hnew]
 exact ⟨.ref _,_,I.lnew (t':=s.toks) (r.rep k.toNat) (by rw [za7,Nat.mul_comm];exact hz),rfl,q _ I.fresh⟩
end
section
variable {prog:Program} {w:World} {A:Around} {E:Value→Shared→Prop} {s:Shared}
set_option maxRecDepth 100000 in
end
section
variable {X:Cx}
end
end L2
namespace L2
open PySem PySem.Spec PyProof.Rows
section
variable {κ:Type} [DecidableEq κ]
def vF (kvs:List (κ × V)) (k:κ):Option V:=(kvs.find? fun kv=>decide (kv.1=k)).map (·.2)
def YT (kvs:List (κ × V)) (k:κ) (v:V):List (κ × V) :=
 if (kvs.any fun kv=>decide (kv.1=k))=true then kvs.map (fun kv=>if kv.1=k then (kv.1,v) else kv) else kvs ++ [(k,v)]
def Ws (kvs:List (κ × V)) (k:κ):List (κ × V):=kvs.filter fun kv=>decide (kv.1≠k)
theorem wT {p:κ × V} {r:List (κ × V)} {k:κ} (e:p.1=k):vF (p :: r) k=some p.2:=by simp [vF,List.find?_cons,e]
theorem wU {p:κ × V} {r:List (κ × V)} {k:κ} (e:¬ p.1=k):vF (p :: r) k=vF r k:=by simp [vF,List.find?_cons,e]
theorem ZP (k:κ):∀ kvs:List (κ × V),(kvs.any fun kv=>decide (kv.1=k))=(vF kvs k).isSome
 | []=>rfl
 | p :: r=>by
  rw [List.any_cons]
  by_cases e:p.1=k
  ·simp only [wT e,decide_eq_true e,Bool.true_or,Option.isSome_some]
  ·rw [wU e,decide_eq_false e,Bool.false_or];exact ZP k r
theorem QJ (k j:κ) (y:V):∀ kvs:List (κ × V),vF (kvs.map fun kv=>if kv.1=k then (kv.1,y) else kv) j=(vF kvs j).map fun x=>if j=k then y else x
 | []=>rfl
 | p :: r=>by
  have ih:=QJ k j y r
  rw [List.map_cons]
  by_cases h:p.1=k
  ·rw [if_pos h]
   by_cases e:p.1=j
   ·rw [wT (p:=(p.1,y)) e,wT e,Option.map_some,if_pos (e.symm.trans h)]
   ·rw [wU (p:=(p.1,y)) e,wU e,ih]
  ·rw [if_neg h]
   by_cases e:p.1=j
   ·rw [wT (p:=p) e,wT e,Option.map_some,if_neg (fun z=>h (e.trans z))]
   ·rw [wU (p:=p) e,wU e,ih]
theorem K7 (k j:κ) (y:V):∀ kvs:List (κ × V),vF kvs k=none→vF (kvs ++ [(k,y)]) j=if j=k then some y else vF kvs j
 | [],_=>by
  by_cases e:k=j
  ·rw [if_pos e.symm];exact wT (p:=(k,y)) e
  ·rw [if_neg (fun z=>e z.symm)];exact wU (p:=(k,y)) e
 | p :: r,hn=>by
  rw [List.cons_append]
  have hk:¬ p.1=k:=fun z=>by rw [wT z] at hn;cases hn
  rw [wU hk] at hn
  have ih:=K7 k j y r hn
  by_cases e:p.1=j
  ·rw [wT e,wT e,if_neg (fun z=>hk (e.trans z))]
  ·rw [wU e,wU e,ih]
theorem VI {kvs:List (κ × V)} {k:κ} (v:V) (h:vF kvs k=none):YT kvs k v=kvs ++ [(k,v)]:=by
 unfold YT
 rw [ZP,h]
 exact if_neg (by decide)
end
section
variable {P:Program} {w:World} {H:Hp} {h:Heap} {a:Addr}
end
def zb0 (H:Hp) (a:Addr) (y:V) (r:Option V):Prop :=
 (∃ kvs k,Rd H a (.dK kvs)∧y=kV k∧r=vF kvs k)∨∃ kvs k b,Rd H a (.dT kvs)∧y=.ref b∧H b=some (.tup (k.map kV))∧r=vF kvs k
def zc2 (H:Hp) (a:Addr) (y v:V) (H':Hp):Prop :=
 (∃ kvs k,H a=some (.dK kvs)∧y=kV k∧kvs.length < sizeLine∧H'=upd H a (.dK (YT kvs k v))) ∨
 ∃ kvs k b,H a=some (.dT kvs)∧y=.ref b∧H b=some (.tup (k.map kV))∧kvs.length < sizeLine∧H'=upd H a (.dT (YT kvs k v))
section
variable {X:Cx} {pins:List (Addr × Obj)} {σ:St} {H:Hp} {s:Shared} {a:Addr} {y v:V} {u r:Value} {o:Option V} {A:Around} {E:Value→Shared→Prop}
end
section
variable {X:Cx} {pins:List (Addr × Obj)} {σ:St} {H:Hp} {s:Shared} {a:Addr} {kvs:List (Key × V)} {k:Key} {u:Value} {A:Around} {E:Value→Shared→Prop}
end
def zdu (td ty:TE):TE:=fun σ H Q=>td σ H fun x H1=>ty σ H1 fun y H2=>∃ a v,x=.ref a∧zb0 H2 a y (some v)∧Q v H2
def zdv (td ty tv:TE):TS:=fun D σ H=>tv σ H fun v H1=>td σ H1 fun x H2=>ty σ H2 fun y H3=>∃ a H4,x=.ref a∧zc2 H3 a y v H4∧D.nx σ H4
section
variable {X:Cx} {o i e value:Expr} {pos pos' tpos:Pos} {td ty tv:TE}
end
def zc3:TE:=fun _ H Q=>∀ p,H p=none→Q (.ref p) (upd H p (.dK []))
def zc4:TE:=fun _ H Q=>∀ p,H p=none→Q (.ref p) (upd H p (.dT []))
section
variable {X:Cx} {pos:Pos}
end
def QK:List (TE × TE)→St→Hp→(List (V × V)→Hp→Prop)→Prop
 | [],_,H,Q=>Q [] H
 | (tk,tv) :: r,σ,H,Q=>tk σ H fun x H1=>tv σ H1 fun y H2=>QK r σ H2 fun ps H3=>Q ((x,y) :: ps) H3
def zb1 (kvs more:List (Key × V)):List (Key × V):=more.foldl (fun acc kv=>YT acc kv.1 kv.2) kvs
def zdw (trs:List (TE × TE)):TE:=fun σ H Q=>∀ p,H p=none→QK trs σ (upd H p (.dK [])) fun ps H2=>H2 p=some (.dK [])∧∃ kvs:List (Key × V),ps=kvs.map (fun kv=>(kV kv.1,kv.2))∧kvs.length≤15∧Q (.ref p) (upd H2 p (.dK (zb1 [] kvs)))
def IsD (H:Hp) (a:Addr):Prop:=(∃ kvs,Rd H a (.dK kvs))∨∃ kvs,Rd H a (.dT kvs)
section
variable {X:Cx} {pins:List (Addr × Obj)} {σ:St} {H:Hp} {s:Shared} {a:Addr} {y d:V} {u r:Value} {o:Option V} {A:Around} {E:Value→Shared→Prop}
end
def zc5 (td ty tx:TE):TE:=fun σ H Q=>td σ H fun x H1=>∃ a,x=.ref a∧IsD H1 a∧ty σ H1 fun y H2=>tx σ H2 fun z H3=>∃ o,zb0 H3 a y o∧Q (o.getD z) H3
def zc6 (td ty tx:TE):TE:=fun σ H Q=>td σ H fun x H1=>∃ a,x=.ref a∧IsD H1 a∧ty σ H1 fun y H2=>tx σ H2 fun z H3=>∃ kvs k,H3 a=some (.dK kvs)∧y=kV k ∧
 (∀ v,vF kvs k=some v→Q v (upd H3 a (.dK (Ws kvs k))))∧(vF kvs k=none→Q z H3)
section
variable {X:Cx} {o e f:Expr} {apos cpos:Pos} {td ty tx:TE}
end
section
variable {X:Cx} {pins:List (Addr × Obj)} {σ:St} {H:Hp} {s:Shared} {a:Addr} {kvs:List (Key × V)} {A:Around} {E:Value→Shared→Prop}
end
section
variable {X:Cx} {pins:List (Addr × Obj)} {σ:St} {H:Hp} {s:Shared} {a:Addr} {y:V} {u:Value} {A:Around} {E:Value→Shared→Prop}
end
end L2
namespace Att
open PySem PySem.W PySem.Calls PyProof.Rows
theorem YU {P:Params} {h:Heap}:∀ (ns:List Int) (vs:List Value),WellAll P h vs (ns.map WData.int)→IntsAre vs ns:=by
 intro ns
 induction ns with
 | nil =>
  intro vs w
  rw [List.map_nil] at w
  cases w
  exact .nil
 | cons n ns ih =>
  intro vs w
  rw [List.map_cons] at w
  cases w with
  | cons a b =>
   cases a
   exact .cons _ _ (ih _ b)
theorem Wt {l:OpenLaw} {n:Nat} (hn:l.most=some n) {P:Params} {h:Heap} {args:List WData} {vals:List Value}
  (hpre:l.row.toRowW.claim.pre args=true) (hwl:WellAll P h vals args) :
  ∃ a vs ns,vals=[Value.ref a]∧args=[WData.list (ns.map WData.int)]∧h.get? a=some { cls:=.type "list",data:=.seq vs.toArray }∧IntsAre vs ns∧ns.length≤n:=by
 have hsh:WShape.hasAll [] args [.list .int]=true:=(pre_splitW hpre).1
 have hc:l.pre.holds [] { args:=args }=true:=(pre_splitW hpre).2
 obtain ⟨d,r,rfl,h1,h2⟩:=hasAllW_cons hsh
 obtain rfl:=hasAllW_nil h2
 obtain ⟨xs,rfl,h3⟩:=hasW_list h1
 obtain ⟨ns,rfl⟩:=items_int h3
 have hlen:ns.length≤n:=by
  unfold OpenLaw.pre at hc
  have h4:(WTm.not (.lt (.lit (.int (n:Int))) (.len (.arg 0)))).holds [] { args:=[.list (ns.map .int)] }=true:=by
   have h4:=(holds_andW hc).1
   rw [hn] at h4
   exact h4
  have h5:=condW_of h4 (w_not (w_lt w_lit (w_len_list (w_arg rfl))))
  rw [List.length_map] at h5
  refine Nat.le_of_not_lt fun q=>?_
  have q':(n:Int) < ((ns.length:Nat):Int):=by lia
  first
   | (rw [decide_eq_true q'] at h5;exact absurd h5 (by decide))
   | (simp at h5;lia)
 cases hwl with
 | cons w1 w2 =>
  cases w2
  cases w1 with
  | list ho hall=>exact ⟨_,_,ns,rfl,rfl,ho,YU ns _ hall,hlen⟩
theorem Wu (l:OpenLaw) (args:List WData):l.row.toRowW.claim.post args (.bool true) args=true :=
 postW_of (r:=l.row.toRowW) (X:=(true == true))
  (show WShape.has [] (.bool true) .bool=true by first | rfl | decide | simp [WShape.has,WShape.arms,WShape.armsAll])
  (show (WTm.eq .res (.lit (.bool true))).value [] { args:=args,res:=some (.bool true),after:=args }=some (.bool (true == true)) from w_eq_bool (w_res rfl) w_lit) rfl
theorem attach_call {l:OpenLaw} {n:Nat} {q:Program} {loose:List Str} {XP:(Str→Option Value)→Heap→Prop} {YP:World→Heap→Prop} {d:DefRec}
  (hn:l.most=some n) (hdf:d.params.defaults=[])
  (call:∀ (w:World) (s₀ s₁:Shared) (mg mb:Str→Option Value) (fa:Addr) (o:Obj) (pm cd doc:Value) (a:Addr) (vs:List Value) (ns:List Int),
   Ground q loose [] XP w s₀ mg mb s₁.heap→YP w s₁.heap →
   s₁.heap.get? fa=some o→o.data=.func (docDef d.name d.params d.body d.scope pm cd doc)→s₁.heap.CodeRec cd d.name→mg d.name=some (.ref fa) →
   s₁.heap.get? a=some { cls:=.type "list",data:=.seq vs.toArray }→IntsAre vs ns→ns.length≤n→s₁.gens=#[] →
   codeAny (model l.prog w) callerA (.call (.ref fa) ⟨[.ref a],[]⟩) (fun r s'=>r=.ok (.ret (.bool true))∧OldK s₁.heap s'.heap∧s'.os=s₁.os∧AllBare s'.gens) s₁) :
  WalkO q loose XP YP l.row.toRowW d [] (fun f vs=>PySem.call f vs):=by
 intro w s₀ s₁ mg mb G Y fa o pm cd doc dV kV ho hd hcd hD hmg hg args vals as hpre hlay hrd hwl hlo
 obtain rfl:dV=.none:=Dflts.none hD hdf
 obtain rfl:kV=.none:=Dflts.noKw hD
 obtain ⟨a,vs,ns,rfl,rfl,hobj,hints,hlen⟩:=Wt hn hpre hwl
 refine enter_call (codeAny_mono (call w s₀ s₁ mg mb fa o pm cd doc a vs ns G Y ho (fd_plain hd) hcd hmg hobj hints hlen hg) fun r s' hq=>?_)
 obtain ⟨rfl,h2,h3,h4⟩:=hq
 exact ⟨.inl ⟨.bool true,.bool true,[],rfl,fun _=>rfl,.bool true,Wu l _,fun _=>⟨List.Pairwise.nil,fun _ hm=>(nomatch hm)⟩⟩,h2,h3,h4⟩
section
variable {prog:Program} {w:World} {A:Around} {E:Value→Shared→Prop} {s:Shared} {K:Frag}
def zc7 (h:Heap) (L d:Addr):List (Addr × Obj):=(List.range h.objs.size).filterMap fun a=>if a=L∨a=d then none else (h.get? a).map fun o=>(a,o)
end
end Att
namespace L2
open PySem PySem.Spec PyProof.Rows
theorem Wv:∀ {vs:List Value} {ns:List Int},IntsAre vs ns→Vals (ns.map V.int) vs
 | _,_,.nil=>.nil
 | _,_,.cons n t h=>.cons ⟨t,rfl⟩ (Wv h)
def JD (H:Hp):Prop:=∀ b,H b=none∨∃ o xs,H b=some (.frz o (.lst xs))
theorem VJ {P:Program} {w:World} {K:PySem.W.Frag} {mg mb:Str→Option Value} {CX:CXT} {k:Nat} {fa a:Addr} {fd:FuncData} {x:Str} {sp:Sp} {s₁:Shared} {vs:List Value} {ns:List Int}
  (KX:K.In s₁.heap) (hns:s₁.heap.Ns mainGlobals mg) (hb:s₁.heap.Ns builtinsNs mb) (hbb:∀ x:Str,x≠"__name__"→mb x=bootBuiltins x) (hlim:s₁.heap.NoLimit) (hg:s₁.gens=#[])
  (ha:s₁.heap.get? a=some { cls:=.type "list",data:=.seq vs.toArray }) (hi:IntsAre vs ns) (hl:ns.length≤sizeLine) (hr:Room k callerA)
  (F:∀ base:Heap,K.In base→base.Ns mainGlobals mg→FnOk P w K mg base CX k fa fd [x] sp) (hbind:∀ (s:Shared) (u:Value),BindsTo s fd ⟨[u],[]⟩ [(x,u)])
  (hsp:∀ H:Hp,JD H→SqL K H a (ns.map V.int)→sp [.ref a] H (fun v _=>v=.bl true) fun _ _ _=>False)
  (hCX:∀ H e s',CX [] H s₁ (fun _ _ _=>False) e s'→False) :
  codeAny (model P w) callerA (.call (.ref fa) ⟨[.ref a],[]⟩) (fun r s'=>r=.ok (.ret (.bool true))∧OldK s₁.heap s'.heap∧s'.os=s₁.os∧AllBare s'.gens) s₁:=by
 have rv:=Wv hi
 have lenV:=hi.length
 -- from an abstract heap in which nothing but the script may be tracked
 have core:∀ H:Hp,JD H→SqL K H a (ns.map V.int)→HOk P w H s₁.heap→(∀ b,H b≠none→b=a)→(H a≠none→K.lookup a=none) →
   codeAny (model P w) callerA (.call (.ref fa) ⟨[.ref a],[]⟩) (fun r s'=>r=.ok (.ret (.bool true))∧OldK s₁.heap s'.heap∧s'.os=s₁.os∧AllBare s'.gens) s₁:=by
  intro H hO hS hok hA hK
  have base_of:∀ {b:Addr} {o:Obj},s₁.heap.get? b=some o→H b=none→(WJ s₁.heap H).get? b=some o:=fun e n=>Qx e n
  have noA:∀ {b:Addr} {o:Obj} {es:Array DictEntry} {ep:Nat},s₁.heap.get? b=some o→o.data=.dict es ep→H b=none:=fun {b o es ep} e d=>by
   cases q:H b with
   | none=>rfl
   | some u =>
    have e':b=a:=hA b (by rw [q];simp)
    subst e'
    rw [ha] at e;cases e
    have d':Data.seq vs.toArray _=Data.dict es ep:=d
    cases d'
  have nsK:∀ {b:Addr} {m:Str→Option Value},s₁.heap.Ns b m→(WJ s₁.heap H).Ns b m:=fun {b m} ⟨o,es,ep,e,d,r⟩=>⟨o,es,ep,base_of e (noA e d),d,r⟩
  have hKb:K.In (WJ s₁.heap H):=fun b o e=>base_of (KX b o e) (by
   cases q:H b with
   | none=>rfl
   | some u =>
    have e':b=a:=hA b (by rw [q];simp)
    subst e'
    rw [hK (by rw [q];simp)] at e;cases e)
  have hM:Mod K mg (WJ s₁.heap H):=⟨hKb,nsK hns,⟨mb,nsK hb,hbb⟩,let ⟨mc,h1,h2⟩:=hlim;⟨mc,nsK h1,h2⟩⟩
  have e0:Env0 P w K mg (WJ s₁.heap H) callerA [] s₁ H:=⟨rfl,hM,fun b o e=>zaV e,Nat.le_of_eq (KY _ _),trivial,fun b hb=>absurd (show b∈([]:List Addr) from hb) (by simp),hok,.of_eq hg⟩
  refine codeAny_mono ((F _ hKb (nsK hns)).run callerA [] s₁ H ⟨[.ref a],[]⟩ [.ref a] [.ref a] _ _ hr e0 (hbind s₁ (.ref a)) (.cons rfl .nil) (hsp H hO hS)) fun r s' h=>?_
  cases r with
  | error e=>exact (hCX H e s' h).elim
  | ok fl =>
   cases fl with
   | next=>exact False.elim h
   | brk=>exact False.elim h
   | cont=>exact False.elim h
   | ret u =>
    obtain ⟨v,H',os,bare,un,hok',r',q⟩:=h
    have q':v=.bl true:=q
    subst q'
    obtain rfl:u=Value.bool true:=r'
    refine ⟨rfl,OldK.of_keep fun b o e=>?_,os,bare⟩
    cases q:H b with
    | none=>exact un.keep b o e q (by intro z;exact absurd (show b∈([]:List Addr) from z) (by simp)) (by simp)
    | some u =>
     rcases hO b with z | ⟨ob,xs,z⟩
     ·rw [q] at z;cases z
     ·have z2:=un.frzs b ob _ z
      obtain ⟨e1,_⟩:=hok b _ z
      obtain ⟨e2,_⟩:=hok' b _ z2
      rw [e] at e1;cases e1
      exact e2
 cases hk:K.lookup a with
 | some o =>
  -- the script is one of the module's own objects
  have e:=KX a o hk
  rw [ha] at e
  cases e
  refine core (fun _=>none) (fun _=>.inl rfl) (.inr ⟨_,vs.toArray,_,hk,rfl,rfl,rfl,by rw [List.size_toArray,lenV];exact hl,by simpa using rv⟩) (fun b u z=>by have z':(none:Option HO)=some u:=z;cases z') (fun b z=>absurd rfl z) fun z=>absurd rfl z
 | none =>
  refine core (fun b=>if b=a then some (.frz { cls:=.type "list",data:=.seq vs.toArray } (.lst (ns.map V.int))) else none) (fun b=>?_) (.inl (.inr ⟨{ cls:=.type "list",data:=.seq vs.toArray },if_pos rfl⟩)) (fun b u z=>?_) (fun b z=>?_) fun _=>hk
  ·by_cases hb:b=a
   ·exact .inr ⟨_,_,if_pos hb⟩
   ·exact .inl (if_neg hb)
  ·by_cases hb:b=a
   ·have z':=(if_pos hb).symm.trans z
    cases z'
    subst hb
    exact ⟨ha,by rw [List.length_map];exact hl,vs,_,rv,ha⟩
   ·have z':=(if_neg hb).symm.trans z
    cases z'
  ·by_cases hb:b=a
   ·exact hb
   ·exact absurd (if_neg hb) z
end L2
namespace L2
open PySem PySem.Spec PyProof.Rows
abbrev KOf {K:PySem.W.Frag} {h:Heap} (_:K.In h):PySem.W.Frag:=K
theorem Kr {l:PySem.W.OpenLaw} {n k:Nat} {q:Program} {loose:List Str} {XP:(Str→Option Value)→Heap→Prop} {YP:World→Heap→Prop} {d:DefRec} {K:Params→PySem.W.Frag} {CX:World→CXT} {sp:World→Sp} {x:Str}
  (hn:l.most=some n) (hn2:n≤sizeLine) (hdf:d.params.defaults=[]) (hr:Room k callerA)
  (hY:∀ (w:World) (h:Heap),YP w h→(K w.params).In h)
  (F:∀ (w:World) (mg:Str→Option Value) (fa:Addr) (h:Heap),(K w.params).In h→h.Ns mainGlobals mg→mg d.name=some (.ref fa) →
   ∃ fd:FuncData,(∀ (s:Shared) (u:Value),BindsTo s fd ⟨[u],[]⟩ [(x,u)]) ∧
    ∀ base:Heap,(K w.params).In base→base.Ns mainGlobals mg→FnOk l.prog w (K w.params) mg base (CX w) k fa fd [x] (sp w))
  (hsp:∀ (w:World) (H:Hp) (a:Addr) (ns:List Int),ns.length≤n→JD H→SqL (K w.params) H a (ns.map V.int)→sp w [.ref a] H (fun v _=>v=.bl true) fun _ _ _=>False)
  (hCX:∀ (w:World) (H:Hp) (s:Shared) (e:Value) (s':Shared),CX w [] H s (fun _ _ _=>False) e s'→False) :
  PySem.W.WalkO q loose XP YP l.row.toRowW d [] (fun f vs=>PySem.call f vs):=by
 refine Att.attach_call hn hdf fun w s₀ s₁ mg mb fa o pm cd doc a vs ns G Y ho hd hcd hmg hobj hints hlen hg=>?_
 have KX:=hY w _ Y
 obtain ⟨fd,hb,hF⟩:=F w mg fa _ KX G.T.g hmg
 exact VJ KX G.T.g G.T.b G.T.builtins G.T.nolimit hg hobj hints (Nat.le_trans hlen hn2) hr hF hb (fun H hO hS=>hsp w H a ns hlen hO hS) fun H e s'=>hCX w H s₁ e s'
theorem zcH {l:PySem.W.OpenLaw} {n k:Nat} {q:Program} {loose:List Str} {XP:(Str→Option Value)→Heap→Prop} {YP:World→Heap→Prop} {d:DefRec} {K:Params→PySem.W.Frag} {CX:CXT} {sp:PySem.W.Frag→Sp} {x:Str}
  (hn:l.most=some n) (hn2:n≤sizeLine) (hdf:d.params.defaults=[]) (hr:Room k callerA)
  (hY:∀ (w:World) (h:Heap),YP w h→(K w.params).In h)
  (F:∀ (w:World) (mg:Str→Option Value) (fa:Addr) (h:Heap),(K w.params).In h→h.Ns mainGlobals mg→mg d.name=some (.ref fa) →
   ∃ fd:FuncData,(∀ (s:Shared) (u:Value),BindsTo s fd ⟨[u],[]⟩ [(x,u)]) ∧
    ∀ base:Heap,(K w.params).In base→base.Ns mainGlobals mg→FnOk l.prog w (K w.params) mg base CX k fa fd [x] (sp (K w.params)))
  (hsp:∀ (K:PySem.W.Frag) (H:Hp) (a:Addr) (ns:List Int),ns.length≤n→JD H→SqL K H a (ns.map V.int)→sp K [.ref a] H (fun v _=>v=.bl true) fun _ _ _=>False)
  (hCX:∀ (H:Hp) (s:Shared) (e:Value) (s':Shared),CX [] H s (fun _ _ _=>False) e s'→False) :
  PySem.W.WalkO q loose XP YP l.row.toRowW d [] (fun f vs=>PySem.call f vs) :=
 Kr (K:=K) (CX:=fun _=>CX) (sp:=fun w=>sp (K w.params)) hn hn2 hdf hr hY F (fun w H a ns h1 h2 h3=>hsp (K w.params) H a ns h1 h2 h3) fun _ H s e s'=>hCX H s e s'
end L2
namespace L2
open PySem PySem.Spec PyProof.Rows
def we (s:Stmt) (j:Nat):Stmt:=match s with
 | .ClassDef _ _ _ body _ _ _ _ _ _ _=>body.getD j (.Pass ⟨0,0,0,0⟩)
 | _=>.Pass ⟨0,0,0,0⟩
def zM (s:Stmt):Arguments:=match s with
 | .FunctionDef _ a _ _ _ _ _ _ _ _=>a
 | _=>{ posonlyargs:=[],args:=[],vararg:=none,kwonlyargs:=[],kw_defaults:=[],kwarg:=none,defaults:=[] }
def zJ (s:Stmt):List Stmt:=match s with
 | .FunctionDef _ _ b _ _ _ _ _ _ _=>b
 | _=>[]
def zm (s:Stmt):Scope:=match s with
 | .FunctionDef _ _ _ _ _ _ sc _ _ _=>sc
 | _=>{ kind:=.function,names:=[],isGenerator:=false,isCoroutine:=false }
abbrev CX0:CXT:=fun _ _ _ _ _ _=>False
abbrev E0:XK:=fun _ _ _=>False
structure Fun (K:PySem.W.Frag) (x qual:Str) (st:Stmt) (f:Addr) (fd:FuncData):Prop where
 ex:∃ (oc:Value) (od:Option Addr) (kV doc pm:Value) (an:Option Addr) (cdv ct:Value) (osl:Array (Option Value)),
  fd=PySem.W.fnOf x qual (zM st) (zJ st) (zm st) .none kV doc pm an cdv ct∧K.lookup f=some ⟨oc,od,.func fd,osl⟩∧PySem.W.codeIn K cdv qual=true
 kp:PySem.W.keepIn K (.ref f)=true
section
variable {P:Program} {w:World} {K:PySem.W.Frag} {mg:Str→Option Value} {base:Heap}
theorem Fun.binds {x qual:Str} {st:Stmt} {f:Addr} {fd:FuncData} {ps:List Str} (F:Fun K x qual st f fd)
  (h:∀ (kV doc pm:Value) (an:Option Addr) (cdv ct:Value) (us:List Value),us.length=ps.length→bindArgs (PySem.W.fnOf x qual (zM st) (zJ st) (zm st) .none kV doc pm an cdv ct) ⟨us,[]⟩=pure (ps.zip us)):Binds K fd ps []:=by
 obtain ⟨oc,od,kV,doc,pm,an,cdv,ct,osl,rfl,lk,hcd⟩:=F.ex
 exact .all (h kV doc pm an cdv ct)
theorem zY {x qual:Str} {st:Stmt} {f:Addr} {oc:Value} {od an:Option Addr} {osl:Array (Option Value)} {kV doc pm cdv ct:Value} (l:K.lookup f=some ⟨oc,od,.func (PySem.W.fnOf x qual (zM st) (zJ st) (zm st) .none kV doc pm an cdv ct),osl⟩)
  (c:PySem.W.codeIn K cdv qual=true) (k:PySem.W.keepIn K (.ref f)=true):Fun K x qual st f (PySem.W.fnOf x qual (zM st) (zJ st) (zm st) .none kV doc pm an cdv ct):=⟨⟨oc,od,kV,doc,pm,an,cdv,ct,osl,rfl,l,c⟩,k⟩
end
section
variable {X:Cx}
theorem pv (i:Nat) {x:Str} {pos:Pos} (hN:X.N[i]?=some x:=by rfl) (hv:Vis X.env.scope x:=by first | exact Or.inl rfl | exact Or.inr (Or.inl rfl) | exact Or.inr (Or.inr rfl)) (hd:(x == ("__debug__":Str))=false:=by decide)
  (hcd:(x == ("__classdict__":Str))=false:=by decide):PE X (.Name x pos) (ze i):=zbR hN hv hd hcd
end
theorem yu {c A B:Prop} [Decidable c] (h1:c→A) (h2:¬ c→B):if c then A else B:=by
 by_cases h:c
 ·rw [if_pos h]
  exact h1 h
 ·rw [if_neg h]
  exact h2 h
def Same (H H':Hp):Prop:=∀ b o,H b=some o→H' b=some o
theorem Same.refl (H:Hp):Same H H:=fun _ _ h=>h
theorem Same.trans {H H1 H2:Hp} (a:Same H H1) (b:Same H1 H2):Same H H2:=fun c o h=>b c o (a c o h)
theorem Same.free {H H':Hp} (e:Same H H') {l:Addr} (h:H' l=Option.none):H l=Option.none:=by
 cases q:H l with
 | none=>rfl
 | some o =>
  rw [e l o q] at h
  cases h
end L2
namespace L2
open PySem PySem.Spec PyProof.Rows
section
variable {X:Cx}
end
section
variable {κ:Type} [DecidableEq κ]
theorem QL {kvs:List (κ × V)} {k:κ} (h:vF kvs k=none):¬ k∈kvs.map (·.1):=by
 intro m
 obtain ⟨p,hp,e⟩:=List.mem_map.mp m
 have q:(kvs.any fun kv=>decide (kv.1=k))=true:=List.any_eq_true.mpr ⟨p,hp,decide_eq_true e⟩
 rw [ZP,h] at q
 exact absurd q (by simp)
theorem Ks:∀ {l:List κ} {k:κ},l.Nodup→¬ k∈l→(l ++ [k]).Nodup
 | [],k,_,_=>by simp
 | a :: r,k,h,hk=>by
  obtain ⟨h1,h2⟩:=List.nodup_cons.mp h
  show (a :: (r ++ [k])).Nodup
  refine List.nodup_cons.mpr ⟨fun m=>?_,Ks h2 fun m=>hk (List.mem_cons.mpr (Or.inr m))⟩
  rcases List.mem_append.mp m with q | q
  ·exact h1 q
  ·exact hk (List.mem_cons.mpr (Or.inl (List.mem_singleton.mp q).symm))
theorem za8 {kvs:List (κ × V)} {k:κ} (v:V) (hn:(kvs.map (·.1)).Nodup) (h:vF kvs k=none):((YT kvs k v).map (·.1)).Nodup:=by
 rw [VI v h,List.map_append]
 exact Ks hn (QL h)
theorem K8 {p:κ × V} {r:List (κ × V)} {k:κ} (e:¬ p.1=k):Ws (p :: r) k=p :: Ws r k:=by
 unfold Ws
 rw [List.filter_cons,if_pos (by simp [e])]
theorem QM:∀ {kvs:List (κ × V)} {k:κ},¬ k∈kvs.map (·.1)→Ws kvs k=kvs
 | [],_,_=>rfl
 | p :: r,k,h=>by
  have h':¬ k∈r.map (·.1):=fun m=>by
   obtain ⟨q,hq,e⟩:=List.mem_map.mp m
   exact h (List.mem_map.mpr ⟨q,List.mem_cons.mpr (Or.inr hq),e⟩)
  rw [K8 fun e=>h (List.mem_map.mpr ⟨p,List.mem_cons.mpr (Or.inl rfl),e⟩),QM h']
end
end L2
set_option Elab.async false
set_option linter.all false
set_option maxRecDepth 100000
set_option maxHeartbeats 4000000
namespace L2
open PySem PySem.Spec PyProof.Rows
def Cx.comp (X:Cx) (scope:Scope) (cl:List (Str × Addr)) (C:Addr) (N:List Str) (fp:List Addr) (s:Shared) (H:Hp):Cx :=
 { X with env:=compEnvC scope cl C X.env,N:=N,s₀:=s,H₀:=H,outer:=X.stack,ex:=fp,fn:=fun _=>false,pn:=[],xe:=fun _ _=>False }
structure qR (X:Cx) (scope:Scope) (cl:List (Str × Addr)) (ix:List Nat):Prop where
 clos:closureFor scope X.env=pure cl
 nocell:∀ y∈scope.names,y.2≠.cell
 kind:scope.kind=.function
 names:∀ y∈scope.names,y.2=.local→scope.names.lookup y.1=some .local
 sub:∀ y c,cl.lookup y=some c→X.env.cells.lookup y=some c
 has:∀ y,((relabel scope X.env).names.lookup y=some .cell∨(relabel scope X.env).names.lookup y=some .free)→∃ c,cl.lookup y=some c
 cap:∀ i∈ix,∃ y,X.N[i]?=some y∧(X.env.kindOf y=some .cell∨X.env.kindOf y=some .free)∧((relabel scope X.env).names.lookup y=some .cell∨(relabel scope X.env).names.lookup y=some .free)
def Xn (scope:Scope) (env:Env):List (Str × Addr):=scope.names.foldl (fun cs y=>if y.2 == .free then (y.1,(env.cells.lookup y.1).getD 0) :: cs else cs) []
def QN (osc:Scope) (N:List Str) (sc:Scope) (ix:List Nat):Bool :=
 sc.kind == .function && sc.names.all (fun y=>y.2 != .cell && (y.2 != .local || sc.names.lookup y.1 == some .local) && (y.2 != .free || osc.names.lookup y.1 == some .cell || osc.names.lookup y.1 == some .free)) &&
  ix.all fun i=>match N[i]? with
   | some y=>sc.names.lookup y == some .free
   | none=>false
theorem vG {l:List (Str × NameKind)} {y:Str} {k:NameKind} (h:l.lookup y=some k):(y,k)∈l:=PySem.mem_of_lookup h
theorem kx {env:Env}:∀ {names:List (Str × NameKind)} {x:Str} {k:NameKind},(names.map fun (n,k)=>if (k == NameKind.free && env.scope.kind == .function && env.kindOf n == some .cell) then (n,NameKind.cell) else (n,k)).lookup x=some k →
  ∃ k',names.lookup x=some k'∧(k'=.free∨k'=k)
 | [],_,_,h=>by simp at h
 | (n,k') :: r,x,k,h=>by
  have ih:=@kx env r x k
  rw [List.map_cons] at h
  cases hx:x == n with
  | true =>
   by_cases hc:(k' == NameKind.free && env.scope.kind == .function && env.kindOf n == some .cell)=true
   ·have e:k'=.free:=by
     have:=(Bool.and_eq_true _ _ ▸ (Bool.and_eq_true _ _ ▸ hc).1).1
     simpa using this
    exact ⟨k',by simp [List.lookup_cons,hx],.inl e⟩
   ·simp only [if_neg hc,List.lookup_cons,hx] at h
    exact ⟨k',by simp [List.lookup_cons,hx],.inr (Option.some.inj h)⟩
  | false =>
   have h':(r.map fun (n,k)=>if (k == NameKind.free && env.scope.kind == .function && env.kindOf n == some .cell) then (n,NameKind.cell) else (n,k)).lookup x=some k:=by
    by_cases hc:(k' == NameKind.free && env.scope.kind == .function && env.kindOf n == some .cell)=true
    ·simp only [if_pos hc,List.lookup_cons,hx] at h;exact h
    ·simp only [if_neg hc,List.lookup_cons,hx] at h;exact h
   obtain ⟨q,e,r'⟩:=ih h'
   exact ⟨q,by simp only [List.lookup_cons,hx];exact e,r'⟩
theorem ZQ {env:Env}:∀ {names:List (Str × NameKind)} {x:Str},names.lookup x=some .free →
  ((names.map fun (n,k)=>if (k == NameKind.free && env.scope.kind == .function && env.kindOf n == some .cell) then (n,NameKind.cell) else (n,k)).lookup x=some .cell ∨
   (names.map fun (n,k)=>if (k == NameKind.free && env.scope.kind == .function && env.kindOf n == some .cell) then (n,NameKind.cell) else (n,k)).lookup x=some .free)
 | [],_,h=>by simp at h
 | (n,k') :: r,x,h=>by
  have ih:=@ZQ env r x
  rw [List.map_cons]
  cases hx:x == n with
  | true =>
   simp only [List.lookup_cons,hx] at h
   cases h
   by_cases hc:(NameKind.free == NameKind.free && env.scope.kind == .function && env.kindOf n == some .cell)=true
   ·left;simp only [if_pos hc,List.lookup_cons,hx]
   ·right;simp only [if_neg hc,List.lookup_cons,hx]
  | false =>
   simp only [List.lookup_cons,hx] at h
   by_cases hc:(k' == NameKind.free && env.scope.kind == .function && env.kindOf n == some .cell)=true
   ·simp only [if_pos hc,List.lookup_cons,hx];exact ih h
   ·simp only [if_neg hc,List.lookup_cons,hx];exact ih h
theorem Ww {env:Env}:∀ (l:List (Str × NameKind)) (cs:List (Str × Addr)),(∀ y∈l,y.2=.free→∃ c,env.cells.lookup y.1=some c) →
  (∀ y c,cs.lookup y=some c→env.cells.lookup y=some c)→∀ y c,(l.foldl (fun cs y=>if y.2 == .free then (y.1,(env.cells.lookup y.1).getD 0) :: cs else cs) cs).lookup y=some c→env.cells.lookup y=some c
 | [],_,_,h,y,c,e=>h y c e
 | z :: r,cs,hl,h,y,c,e=>by
  rw [List.foldl_cons] at e
  refine Ww r _ (fun y hy=>hl y (List.mem_cons_of_mem _ hy)) (fun y' c' e'=>?_) y c e
  by_cases hz:z.2=.free
  ·obtain ⟨c0,h0⟩:=hl z List.mem_cons_self hz
   have hb:(z.2 == NameKind.free)=true:=by simpa using hz
   rw [if_pos hb,h0,List.lookup_cons] at e'
   cases hq:y' == z.1 with
   | true =>
    rw [hq] at e'
    have e2:y'=z.1:=by simpa using hq
    cases e'
    rw [e2];exact h0
   | false=>rw [hq] at e';exact h _ _ e'
  ·have hb:(z.2 == NameKind.free)=false:=by simpa using hz
   rw [hb] at e'
   exact h _ _ e'
theorem VL {env:Env}:∀ (l:List (Str × NameKind)) (cs:List (Str × Addr)) (y:Str),((∃ c,cs.lookup y=some c)∨(y,NameKind.free)∈l) →
  ∃ c,(l.foldl (fun cs y=>if y.2 == .free then (y.1,(env.cells.lookup y.1).getD 0) :: cs else cs) cs).lookup y=some c
 | [],_,_,h=>h.elim id fun z=>nomatch z
 | z :: r,cs,y,h=>by
  rw [List.foldl_cons]
  refine VL r _ y ?_
  rcases h with ⟨c,h⟩ | h
  ·left
   by_cases hz:(z.2 == NameKind.free)=true
   ·rw [if_pos hz,List.lookup_cons]
    cases y == z.1 with
    | true=>exact ⟨_,rfl⟩
    | false=>exact ⟨c,h⟩
   ·rw [if_neg hz];exact ⟨c,h⟩
  ·rcases List.mem_cons.mp h with h | h
   ·left
    subst h
    rw [if_pos (by rfl),List.lookup_cons]
    simp
   ·exact .inr h
theorem WU {env:Env}:∀ (l:List (Str × NameKind)) (cs:List (Str × Addr)),(∀ y∈l,y.2=.free→∃ c,env.cells.lookup y.1=some c) →
  forIn (m:=Sem) l cs (fun x r=>match x with | (name,kind)=>if (kind == NameKind.free)=true then do let c ← cellOf env name;pure (ForInStep.yield ((name,c) :: r)) else pure (ForInStep.yield r)) =
   pure (l.foldl (fun cs y=>if y.2 == .free then (y.1,(env.cells.lookup y.1).getD 0) :: cs else cs) cs)
 | [],_,_=>rfl
 | (n,k) :: r,cs,h=>by
  rw [List.forIn_cons,List.foldl_cons]
  by_cases hz:(k == NameKind.free)=true
  ·obtain ⟨c,hc⟩:=h (n,k) List.mem_cons_self (by simpa using hz)
   have e:cellOf env n=pure c:=by unfold cellOf;rw [hc]
   simp only [hz,if_true,e,pure_bind]
   rw [WU r _ fun y hy=>h y (List.mem_cons_of_mem _ hy)]
   simp only [hc,Option.getD_some]
  ·simp only [hz,if_false,pure_bind]
   exact WU r _ fun y hy=>h y (List.mem_cons_of_mem _ hy)
theorem WV {X:Cx} {osc scope:Scope} {N:List Str} {ix:List Nat} (ok:X.Ok) (h:QN osc N scope ix=true) (hs:X.env.scope=osc) (hN:X.N=N):qR X scope (Xn scope X.env) ix:=by
 subst hs hN
 unfold QN at h
 rw [Bool.and_eq_true,Bool.and_eq_true,List.all_eq_true,List.all_eq_true] at h
 obtain ⟨⟨h1,h2⟩,h3⟩:=h
 have p:∀ y∈scope.names,y.2≠.cell∧(y.2=.local→scope.names.lookup y.1=some .local)∧(y.2=.free→X.env.kindOf y.1=some .cell∨X.env.kindOf y.1=some .free):=fun y hy=>by
  have q:=h2 y hy
  rw [Bool.and_eq_true,Bool.and_eq_true] at q
  obtain ⟨⟨q1,q2⟩,q3⟩:=q
  refine ⟨by simpa using q1,fun e=>?_,fun e=>?_⟩
  ·rw [e] at q2;simpa using q2
  ·rw [e] at q3
   have q3':X.env.scope.names.lookup y.1=some .cell∨X.env.scope.names.lookup y.1=some .free:=by simpa using q3
   exact q3'
 have f:∀ y∈scope.names,y.2=.free→∃ c,X.env.cells.lookup y.1=some c:=fun y hy e=>ok.has y.1 ((p y hy).2.2 e)
 refine ⟨?_,fun y hy=>(p y hy).1,by simpa using h1,fun y hy=>(p y hy).2.1,fun y c e=>Ww scope.names [] f (fun _ _ z=>by simp at z) y c e,fun y hy=>?_,fun i hi=>?_⟩
 ·have e:=WU scope.names [] f
  unfold closureFor Xn
  refine Eq.trans (congrArg (fun m=>m >>= fun s=>(pure s:Sem (List (Str × Addr)))) e) ?_
  rw [pure_bind]
 ·refine VL scope.names [] y (.inr ?_)
  rcases hy with hy | hy
  ·obtain ⟨k',e,z | z⟩:=kx hy
   ·subst z;exact vG e
   ·subst z;exact absurd rfl (p _ (vG e)).1
  ·obtain ⟨k',e,z | z⟩:=kx hy
   ·subst z;exact vG e
   ·subst z;exact vG e
 ·have q:=h3 i hi
  cases hy:X.N[i]? with
  | none=>rw [hy] at q;cases q
  | some y =>
   rw [hy] at q
   have q':scope.names.lookup y=some .free:=by simpa using q
   exact ⟨y,rfl,(p _ (vG q')).2.2 rfl,ZQ q'⟩
def JE (ix:List Nat) (σ:St):St:=ix.map fun i=>(σ[i]?).getD none
def qf (ix:List Nat) (N:List Str):List Str:=ix.map fun i=>(N[i]?).getD ""
section
variable {X:Cx} {pins:List (Addr × Obj)} {σ:St} {H:Hp} {s:Shared} {scope:Scope} {cl:List (Str × Addr)} {ix:List Nat} {fp:List Addr} {C:Addr} {xs:List Str}
theorem Inv.compOk (I:Inv X pins σ H s) (S:qR X scope cl ix) (hC:C=s.heap.objs.size) (hf:∀ b∈fp,Zj X pins H b) (hl:∀ b∈fp,b < s.heap.objs.size) (N':List Str) :
  (X.comp scope cl C N' fp s H).Ok where
 mod:=I.ok.mod
 kind:=S.kind
 glob:=I.ok.glob
 blt:=I.ok.blt
 above:=Nat.le_of_eq hC.symm
 inj:=fun x y c h1 h2=>I.ok.inj x y c (S.sub x c h1) (S.sub y c h2)
 has:=fun x hx=>S.has x hx
 cab:=fun x c h1 _=>nomatch h1
 hd:=I.ok.hd
 frames:=I.ok.frames
 stk:=.inl rfl
 exf:=fun b hb=>⟨fun z=>absurd (hl b hb) (by rw [z];show ¬ C < _;rw [hC];exact Nat.lt_irrefl _),fun x c h=>(hf b hb).2.2.2.2.1 x c (S.sub x c h)⟩
 bs:=I.bs
 bsz:=Nat.le_trans I.ok.bsz I.sz
 noex:=fun b o e hb=>by
  rcases (hf b hb).2.2.2.1 with z | z
  ·exact I.ok.noex b o e z
  ·exact absurd (Nat.lt_of_lt_of_le (Heap.lt_size e) (Nat.le_trans I.ok.bsz z)) (Nat.lt_irrefl _)
 exfs:=fun b hb z=>by
  rcases List.mem_cons.mp (I.stkSub b z) with e | e
  ·exact (hf b hb).2.1 e
  ·exact (hf b hb).2.2.1 e
 funs:=I.stack
 frf:=I.stkFree
theorem Inv.comp {h₁:Heap} {m₁:Str→Option Value} {t':Nat} (I:Inv X pins σ H s) (S:qR X scope cl ix) (hC:C=s.heap.objs.size) (hf:∀ b∈fp,Zj X pins H b) (hl:∀ b∈fp,b < s.heap.objs.size)
  (hn:h₁.Ns C m₁) (hk:∀ b o,s.heap.get? b=some o→h₁.get? b=some o) :
  Inv (X.comp scope cl C (xs ++ qf ix X.N) fp s H) [] (List.replicate xs.length none ++ JE ix σ) H { s with heap:=h₁,toks:=t' } where
 ok:=I.compOk S hC hf hl _
 os:=rfl
 bare:=I.bare
 base:=Un.kept hk
 loc:=by
  refine ⟨m₁,hn,fun i y v e1 e2 e3=>?_⟩
  by_cases hi:i < xs.length
  ·rw [List.getElem?_append_left (by simpa using hi),List.getElem?_replicate,if_pos hi] at e2
   cases e2
  ·have e1':(xs ++ qf ix X.N)[i]?=some y:=e1
   rw [List.getElem?_append_right (by lia)] at e1'
   rw [List.getElem?_append_right (by rw [List.length_replicate];lia),List.length_replicate] at e2
   generalize i - xs.length=j at e1' e2
   unfold qf at e1'
   unfold JE at e2
   rw [List.getElem?_map] at e1' e2
   cases hj:ix[j]? with
   | none=>rw [hj] at e1';cases e1'
   | some k =>
    rw [hj] at e1' e2
    obtain ⟨y',c1,c2,c3⟩:=S.cap k (List.mem_of_getElem? hj)
    have ey:y'=y:=by
     have q:(X.N[k]?).getD ""=y:=Option.some.inj e1'
     rw [c1] at q
     exact q
    subst ey
    have ev:σ[k]?=some (some v):=by
     have q:(σ[k]?).getD none=some v:=Option.some.inj e2
     cases hs:σ[k]? with
     | none=>rw [hs] at q;cases q
     | some o=>rw [hs] at q;exact congrArg some q
    obtain ⟨m,hm,hv⟩:=I.loc
    obtain ⟨u,r,l⟩:=hv k y' v c1 ev (c2.elim (fun z=>.inr (.inl z)) fun z=>.inr (.inr z))
    refine ⟨u,r,.inr ⟨c3,?_⟩⟩
    rcases l with ⟨l1,_⟩ | ⟨_,c,lc,⟨o,ho,hd⟩⟩
    ·rcases c2 with z | z <;> (rw [l1] at z;cases z)
    ·obtain ⟨c',hc'⟩:=S.has y' c3
     have e:=S.sub _ _ hc'
     rw [lc] at e
     cases e
     exact ⟨c,hc',o,hk _ _ ho,hd⟩
 cell:=fun x c e=>by
  obtain ⟨v,o,ho,hd⟩:=I.cell x c (S.sub x c e)
  exact ⟨v,o,hk _ _ ho,hd⟩
 free:=I.hok.fresh (Nat.le_of_eq hC.symm)
 freeC:=fun x c e=>I.freeC x c (S.sub x c e)
 pin:=fun p hp=>absurd (show p∈([]:List (Addr × Obj)) from hp) (by simp)
 hok:=I.hok.kept hk
 len:=by
  show (List.replicate xs.length none ++ JE ix σ).length=(xs ++ qf ix X.N).length
  rw [List.length_append,List.length_append,List.length_replicate,JE,qf,List.length_map,List.length_map]
theorem Inv.uncomp {s':Shared} {σ':St} {H':Hp} {N':List Str} {h':Heap} (I:Inv X pins σ H s) (hC:C=s.heap.objs.size) (hf:∀ b∈fp,Zj X pins H b)
  (J:Inv (X.comp scope cl C N' fp s H) [] σ' H' s') (hb:Heap.SameBut C s'.heap h'):Inv X pins σ H' { s' with heap:=h' }:=by
 have lt:∀ b o,s.heap.get? b=some o→b≠C:=fun b o e=>by
  rw [hC];exact Nat.ne_of_lt (Heap.lt_size e)
 have B:Un (frs X.stack) fp H H' s.heap s'.heap:=J.base
 refine I.call' (s':={ s' with heap:=h' }) (ch:=fp) J.os ?_ ?_ J.bare ?_
 ·exact ⟨fun b o e n h1 h2=>(hb.2 b (lt b o e)).trans (B.keep b o e n h1 h2),fun b o e n h1 h2=>by
   obtain ⟨sl,q⟩:=B.slot b o e n h1 h2
   exact ⟨sl,(hb.2 b (lt b o e)).trans q⟩,B.free,fun b o e h1=>by
   obtain ⟨o',q⟩:=B.there b o e h1
   exact ⟨o',(hb.2 b (lt b o e)).trans q⟩,B.tups,B.frzs,B.tbls⟩
 ·intro b o e
  refine (J.hok b o e).stay (fun c u hc q=>(hb.2 c ?_).trans q) (fun _ q=>q) fun _ _ q=>q
  have hC0:H' C=none:=J.free
  rintro rfl
  rcases hc with rfl | hc
  ·rw [hC0] at e;cases e
  ·rw [hC0] at hc;cases hc
 ·intro b hb'
  obtain ⟨f0,f1,f2,f3,f4,f5⟩:=hf b hb'
  exact ⟨f3,f1,f4,f5⟩
end
def PTs (X:Cx) (ifs:List Expr) (t:TT):Prop :=
 ∀ (pins:List (Addr × Obj)) (s:Shared) (σ:St) (H:Hp) (Q:Bool→Hp→Prop),Inv X pins σ H s→t σ H Q →
  wpAny (model X.prog X.w) X.A (forIn ifs true fun c r=>if r=true then do let ok ← isTrue c X.env (eval c X.env);pure (ForInStep.yield ok) else pure (ForInStep.yield r)) (TP X pins σ Q) X.xe s
def QO:TT:=fun _ H Q=>Q true H
theorem Kt {X:Cx}:PTs X [] QO:=fun _ _ _ H _ I h=>wpAny_tests_nil ⟨H,I,h⟩
section
variable {prog:Program} {w:World} {A:Around} {R:Result→Shared→Prop} {s:Shared}
theorem WW {elt target iter:Expr} {ifs:List Expr} {scope:Scope} {pos:Pos} {it acc:Value} {env:Env} (W:Nat→Shared→Prop) {EE:Value→Shared→Prop}
  (hE:∀ e s',EE e s'→notedBy (model prog w) A env (fun e s'=>R (.error e) s') e s')
  (turn:∀ n s,W n s→wpAny (model prog w) A (pyNext it) (fun r s₁=>match r with
   | none=>R (.ok .next) s₁
   | some v=>wpAny (model prog w) A (letOwnedTupleGo target it v) (fun _ t₁=>wpAny (model prog w) A (assign target env v) (fun _ s₂ =>
     wpAny (model prog w) A (forIn ifs true fun c r=>if r=true then do let ok ← isTrue c env (eval c env);pure (ForInStep.yield ok) else pure (ForInStep.yield r)) (fun ok s₃ =>
      if ok=true then wpAny (model prog w) A (eval elt env) (fun x s₄=>wpAny (model prog w) A (call (.builtin "list.append") [acc,x]) (fun _ s₅=>∃ m,m < n∧W m s₅) EE s₄) EE s₃
      else ∃ m,m < n∧W m s₃) EE s₂) EE t₁) EE s₁) EE s)
  (n:Nat) (h:W n s):codeAny (model prog w) A (.compLoop (.ListComp elt [⟨target,iter,ifs,0⟩] scope pos) 0 it acc env) R s:=by
 refine codeAny_loop rfl W (fun n s hW=>?_) n h
 show wpAny _ A ((compTurn (.ListComp elt [⟨target,iter,ifs,0⟩] scope pos) 0 it acc env).onRaise (fun x=>do noteFrame x env;theTreesLotGoes x)) _ _ s
 refine wpAny_noted (wpAny_mono ?_ (fun _ _ q=>q) hE)
 rw [compTurn_list]
 refine wpAny_bind (wpAny_standAt (wpAny_bind (thn (turn n s hW) fun r s₁ h₁=>?_)))
 cases r with
 | none=>exact wpAny_pure h₁
 | some v =>
  refine wpAny_bind (thn h₁ fun _ t₁ k₁=>?_)
  refine wpAny_bind (thn k₁ fun _ s₂ h₂=>wpAny_bind (thn h₂ fun ok s₃ h₃=>?_))
  cases ok with
  | false=>exact wpAny_pure ⟨rfl,h₃⟩
  | true=>exact wpAny_bind (wpAny_bind (thn h₃ fun x s₄ h₄=>wpAny_bind (thn h₄ fun _ s₅ h₅=>wpAny_pure (wpAny_pure ⟨rfl,h₅⟩))))
end
def Wx (wi:TI) (g:TG) (tt:TT) (te:TE) (k:Nat) (ix:List Nat):TE:=fun σ H Q=>wi σ H fun J H1=>∀ D,H1 D=none →
 ∃ W:Nat→Nat→List V→St→Hp→Prop,(∃ m,W 0 m [] (List.replicate k none ++ JE ix σ) (upd H1 D (.lst [])))∧∀ i m ys τ H,W i m ys τ H→H D=some (.lst ys) ∧
  ((J.stop i H∧Q (.ref D) H)∨(J.go i H∧ys.length < sizeLine∧∃ N:V→St→Hp→Prop,
   (∀ v τ' H',N v τ' H'→H' D=some (.lst ys)∧∃ m',m' < m∧W (i + 1) m' (ys ++ [v]) τ' (upd H' D (.lst (ys ++ [v]))))∧∃ Nf:St→Hp→Prop,(∀ τ' H',Nf τ' H'→∃ m',m' < m∧W (i + 1) m' ys τ' H') ∧
   ∀ x H',J.yld i H x H'→g x τ H' fun τ2 H2=>tt τ2 H2 fun b H3=>if b=true then te τ2 H3 fun v H4=>N v τ2 H4 else Nf τ2 H3))
section
variable {X:Cx} {elt iter tg:Expr} {ifs:List Expr} {scope:Scope} {pos:Pos} {cl:List (Str × Addr)} {ix:List Nat} {xs:List Str} {wi:TI} {g:TG} {tt:TT} {te:TE}
theorem JF (S:qR X scope cl ix) (hc:X.calm=true) (hi:PI X tg iter wi)
  (hg:∀ C fp s H,PG (X.comp scope cl C (xs ++ qf ix X.N) fp s H) tg g) (ht:∀ C fp s H,PTs (X.comp scope cl C (xs ++ qf ix X.N) fp s H) ifs tt)
  (he:∀ C fp s H,PE (X.comp scope cl C (xs ++ qf ix X.N) fp s H) elt te)
  {pins:List (Addr × Obj)} {s:Shared} {σ:St} {H:Hp} {Q:VK} (I:Inv X pins σ H s) (h:Wx wi g tt te xs.length ix σ H Q) {RR:Value→Addr→Result→Shared→Prop}
  (hR:∀ v u s' C,RelV v u→(∃ H',Q v H'∧(∃ m,s'.heap.Ns C m)∧(∀ h',Heap.SameBut C s'.heap h'→Inv X pins σ H' { s' with heap:=h' })∧Zj X pins H' C)→RR u C (.ok .next) s') :
  wpAny (model X.prog X.w) X.A (eval iter X.env) (fun x s₁=>wpAny (model X.prog X.w) X.A (pyIter x) (fun it s₂=>wpAny (model X.prog X.w) X.A (newList []) (fun acc s₃ =>
   wpAny (model X.prog X.w) X.A (newFunctionEnv scope X.env.globals cl [] X.env.qual none .none (some X.env)) (fun cenv s₄ =>
    codeAny (model X.prog X.w) X.A (.compStart (.ListComp elt [⟨tg,iter,ifs,0⟩] scope pos) 0 it acc { cenv with scope:=relabel scope X.env }) (RR acc cenv.locals) s₄) X.xe s₃) X.xe s₂) X.xe s₁) X.xe s:=by
 refine thn (hi pins s σ H _ I h) fun v s1 h1=>thn h1 fun itv s2 h2=>?_
 obtain ⟨it,fp,tn,J,H2,e,I2,T,st2,f2,hW⟩:=h2
 subst e
 refine wpAny_newObj_type (wpAny_newFunctionEnv S.nocell (fun y hy=>nomatch hy) (fun h₁ hns₁ hsb₁=>?_) S.kind)
 dsimp only at hns₁ hsb₁ ⊢
 obtain ⟨W,⟨m0,w0⟩,turn⟩:=hW s2.heap.objs.size I2.fresh
 have I3:=I2.lnew (t':=s2.toks) (ys:=[]) (its:=[]) .nil (Nat.zero_le _)
 have hl3:∀ b∈fp,b < s2.heap.objs.size:=fun b hb=>by
  obtain ⟨o,e,_⟩:=T.obj _ _ st2 b hb
  exact Heap.lt_size e
 generalize hs3:({ s2 with heap:=s2.heap.push { cls:=.type "list",data:=.seq ([]:List Value).toArray },toks:=s2.toks }:Shared)=s3 at I3
 have hs3h:s3.heap=s2.heap.push { cls:=.type "list",data:=.seq ([]:List Value).toArray }:=by rw [← hs3]
 have hsz:s3.heap.objs.size=s2.heap.objs.size + 1:=by rw [hs3h,Heap.size_push]
 have f3:∀ b∈fp,Zj X pins (upd H2 s2.heap.objs.size (.lst [])) b:=fun b hb=>by
  obtain ⟨q0,q⟩:=f2 b hb
  exact ⟨by rw [zw (Nat.ne_of_lt (hl3 b hb))];exact q0,q⟩
 have hl3':∀ b∈fp,b < s3.heap.objs.size:=fun b hb=>by rw [hsz];exact Nat.lt_succ_of_lt (hl3 b hb)
 rw [← hs3h] at hns₁ hsb₁ ⊢
 have hk:∀ b o,s3.heap.get? b=some o→h₁.get? b=some o:=fun b o e=>(hsb₁.2 b (Nat.ne_of_lt (Heap.lt_size e))).trans (Heap.get?_push_of_some _ e)
 have hk2:∀ b o,s2.heap.get? b=some o→s3.heap.get? b=some o:=fun b o e=>by rw [hs3h];exact Heap.get?_push_of_some _ e
 have J0:=I3.comp (xs:=xs) (t':=s2.toks) (C:=s3.heap.objs.size) S rfl f3 hl3' hns₁ hk
 have st3:tn 0 h₁:=T.keep _ _ _ st2 fun b _ o e=>hk b o (hk2 b o e)
 have loop:∀ tk,codeAny (model X.prog X.w) X.A (.compLoop (.ListComp elt [⟨tg,iter,ifs,0⟩] scope pos) 0 (.ref it) (.ref s2.heap.objs.size) (compEnvC scope cl s3.heap.objs.size X.env))
   (RR (.ref s2.heap.objs.size) s3.heap.objs.size) { s3 with heap:=h₁,toks:=tk }:=by
  intro tk
  refine WW (EE:=fun _ _=>False) (fun n s'=>∃ i ys τ H',Inv (X.comp scope cl s3.heap.objs.size (xs ++ qf ix X.N) fp s3 (upd H2 s2.heap.objs.size (.lst []))) [] τ H' s'∧tn i s'.heap∧(∀ b∈fp,H' b=none)∧W i n ys τ H')
   (fun _ _ z=>z.elim) ?_ m0 ⟨0,[],_,_,J0.tok tk,st3,fun b hb=>(f3 b hb).1,w0⟩
  rintro n s' ⟨i,ys,τ,H',I',st',fr',w'⟩
  have stat:∀ {H':Hp},(∀ b∈fp,H' b=none)→∀ b∈fp,Zj (X.comp scope cl s3.heap.objs.size (xs ++ qf ix X.N) fp s3 (upd H2 s2.heap.objs.size (.lst []))) [] H' b:=fun hn b hb =>
   ⟨hn b hb,(I'.ok.exf b hb).1,I'.ok.exfs b hb,.inl hb,(I'.ok.exf b hb).2,fun p hp=>absurd (show p∈([]:List (Addr × Obj)) from hp) (by simp)⟩
  obtain ⟨hD,⟨stop,q⟩ | ⟨go,hz,N,hN,Nf,hNf,step⟩⟩:=turn i n ys τ H' w'
  ·refine thn (T.done (X.comp scope cl s3.heap.objs.size (xs ++ qf ix X.N) fp s3 (upd H2 s2.heap.objs.size (.lst []))) rfl rfl rfl hc i [] s' τ H' _ I' (stat fr') st' stop) fun r s4 ⟨hr,I4⟩=>?_
   subst hr
   refine hR (.ref s2.heap.objs.size) _ s4 _ rfl ⟨H',q,?_,fun h' hb=>I3.uncomp rfl f3 I4 hb,I3.fpOk (Nat.le_refl _) I4.free⟩
   obtain ⟨m,hn,_⟩:=I4.loc
   exact ⟨m,hn⟩
  ·refine thn (T.item (X.comp scope cl s3.heap.objs.size (xs ++ qf ix X.N) fp s3 (upd H2 s2.heap.objs.size (.lst []))) rfl rfl rfl hc i [] s' τ H' _ I' (stat fr') st' go) fun r s4 ⟨u,hr,h4⟩=>?_
   subst hr
   refine thn h4 fun _ s5 ⟨x,H5,I5,r5,y5,st5,fr5⟩=>?_
   have I5':=I5.pinned (stat fr5) (T.obj _ _ st5)
   refine thn (hg _ _ _ _ _ s5 τ H5 x u _ I5' r5 (step x H5 y5)) fun _ s6 ⟨τ6,H6,I6,q6⟩=>?_
   refine thn (ht _ _ _ _ _ s6 τ6 H6 _ I6 q6) fun ok s7 ⟨H7,I7,q7⟩=>?_
   have back:∀ {s8:Shared} {H8:Hp} {m:Nat} {zs:List V},Inv (X.comp scope cl s3.heap.objs.size (xs ++ qf ix X.N) fp s3 (upd H2 s2.heap.objs.size (.lst []))) ([] ++ Xc fp s5.heap) τ6 H8 s8→W (i + 1) m zs τ6 H8 →
     ∃ i ys τ H',Inv (X.comp scope cl s3.heap.objs.size (xs ++ qf ix X.N) fp s3 (upd H2 s2.heap.objs.size (.lst []))) [] τ H' s8∧tn i s8.heap∧(∀ b∈fp,H' b=none)∧W i m ys τ H':=fun {s8 H8 m zs} I8 w8=>by
    refine ⟨i + 1,zs,τ6,H8,I8.unpinned,T.keep _ _ _ st5 fun b hb o e=>(I8.pin (b,o) (List.mem_append_right _ (List.mem_append_right _ (kr hb e)))).1,fun b hb=>?_,w8⟩
    obtain ⟨o,e,d⟩:=T.obj _ _ st5 b hb
    exact (I8.pin (b,o) (List.mem_append_right _ (List.mem_append_right _ (kr hb e)))).2.1
   cases ok with
   | false =>
    rw [if_neg Bool.false_ne_true] at q7 ⊢
    obtain ⟨m',hm,w7⟩:=hNf _ _ q7
    exact ⟨m',hm,back I7 w7⟩
   | true =>
    rw [if_pos rfl] at q7 ⊢
    refine thn (he _ _ _ _ _ s7 τ6 H7 _ I7 q7) fun y s8 ⟨v8,H8,I8,r8,n8⟩=>?_
    obtain ⟨hD8,m',hm,w8⟩:=hN _ _ _ n8
    refine thn (xc _ s8 τ6 H8 (.ref s2.heap.objs.size) [v8] (.ref s2.heap.objs.size) [y] (fun _ Hn=>∃ m,m < n∧W (i + 1) m (ys ++ [v8]) τ6 Hn) I8 rfl (.cons r8 .nil) ⟨_,ys,v8,rfl,rfl,hD8,hz,m',hm,w8⟩) fun _ s9 ⟨_,H9,I9,_,m9,hm9,w9⟩=>?_
    exact ⟨m9,hm9,back I9 w9⟩
 have e3:∀ tk,({ s3 with heap:=h₁,toks:=tk }:Shared)={ s2 with heap:=h₁,toks:=tk }:=fun tk=>by rw [← hs3]
 have loop':∀ tk,codeAny (model X.prog X.w) X.A (.compLoop (.ListComp elt [⟨tg,iter,ifs,0⟩] scope pos) 0 (.ref it) (.ref s2.heap.objs.size) (compEnvC scope cl s3.heap.objs.size X.env))
   (RR (.ref s2.heap.objs.size) s3.heap.objs.size) { s2 with heap:=h₁,toks:=tk }:=fun tk=>by rw [← e3];exact loop tk
 exact codeAny_compStart_list (loop' _) (T.self _ 0 _ _ _ st3 (loop' _))
theorem Ku {osc:Scope} {N:List Str} (hc:X.calm=true) (hD:QN osc N scope ix=true) (hi:PI X tg iter wi)
  (hg:∀ C fp s H,PG (X.comp scope (Xn scope X.env) C (xs ++ qf ix X.N) fp s H) tg g) (ht:∀ C fp s H,PTs (X.comp scope (Xn scope X.env) C (xs ++ qf ix X.N) fp s H) ifs tt)
  (he:∀ C fp s H,PE (X.comp scope (Xn scope X.env) C (xs ++ qf ix X.N) fp s H) elt te) (hsc:X.env.scope=osc:=by rfl) (hN:X.N=N:=by rfl) (hs:∀ x,foldedSetIterable iter X.env x=pure x:=by intro _;rfl) :
  PE X (.ListComp elt [⟨tg,iter,ifs,0⟩] scope pos) (Wx wi g tt te xs.length ix):=by
 intro pins s σ H Q I h
 have S:=WV I.ok hD hsc hN
 rw [eval_ListComp]
 refine wpAny_comprehension_free (use:=none) rfl hs S.clos S.kind S.names (JF S hc hi hg ht he I h (RR:=fun acc C=>compPost (model X.prog X.w) X.A X.xe none (EP X pins σ Q) acc C) ?_)
 rintro v u s' C r ⟨H',q,⟨m,hn⟩,hI,_⟩
 exact ⟨m,hn,fun h' hb=>⟨v,H',hI h' hb,r,q⟩⟩
end
end L2
namespace L2
open PySem PySem.Spec PyProof.Rows
abbrev zQ:R2:=fun x y H Q=>∃ i j,x=.str i∧y=.str j∧i.length + j.length≤sizeLine∧Q (.str (i ++ j)) H
abbrev za9:R2:=fun x y H Q=>∃ i j,x=.str i∧y=.str j∧Q (.bl (!(Builtin.Str.occurrences j i 0 j.length 1).isEmpty)) H
abbrev vD:R2:=fun x y H Q=>∃ i j,x=.str i∧y=.str j∧Q (.bl (!(!(Builtin.Str.occurrences j i 0 j.length 1).isEmpty))) H
abbrev zdY:R2:=fun x y H Q=>∃ a b,x=.bl a∧y=.bl b∧Q (.bl (a == b)) H
abbrev zcY:R2:=fun x y H Q=>∃ a b,x=.bl a∧y=.bl b∧Q (.bl (a != b)) H
abbrev zdZ:R2:=fun x y H Q=>y=.non∧Q (.bl (decide (x=.non))) H
abbrev zdx:R2:=fun x y H Q=>y=.non∧Q (.bl (!decide (x=.non))) H
abbrev RC:=List V→Hp→VK→Prop
abbrev z0 (K:PySem.W.Frag):RC:=fun xs H Q=>∃ x n,xs=[x]∧yU K x H n∧Q (.int n) H
abbrev X3 (K:PySem.W.Frag):RC:=fun xs H Q=>∃ x c t b,xs=[x,c]∧Zn K H x t∧(∃ T,c=.ty T∧PySem.W.kitOne K t (.type T)=some b)∧Q (.bl b) H
abbrev QP (K:PySem.W.Frag):RC:=fun xs H Q=>∃ (a:Addr) (bs:List Bool),xs=[.ref a]∧SqL K H a (bs.map V.bl)∧Q (.bl (bs.all id)) H
abbrev zd0:RC:=fun xs H Q=>∃ i,xs=[.int i]∧Q (.int (if i < 0 then -i else i)) H
abbrev K9:RC:=fun xs H Q=>∃ i,xs=[.int i]∧i.natAbs.log2 < 1920∧Q (.str (toString i)) H
abbrev RM:=V→List V→Hp→VK→Prop
abbrev vO:RM:=fun x xs H Q=>∃ a b,x=.str a∧xs=[.str b]∧Q (.bl (0 + b.length≤a.length && Builtin.Str.subAt a b 0)) H
def spP (pre:List V→Hp→Prop) (post:List V→Hp→V→Hp→Prop):Sp:=fun vs H Q _=>pre vs H∧∀ r H',post vs H r H'→Same H H'→Q r H'
abbrev QQ:RC:=fun xs H Q=>∃ (x:Str) (n:Int),xs=[.str x]∧PySem.intText? x=some n∧x.length≤640∧Q (.int n) H
abbrev zb2:RM:=fun x xs H Q=>∃ a:Str,x=.str a∧xs=[]∧(∀ c∈a.cps.toList,c < 128)∧a.length≤sizeLine∧∀ y:Str,y.length=a.length→Q (.str y) H
theorem Y4 {H:Hp} {p:Addr} {o:HO} (h:H p=none):∃ H',H'=upd H p o∧Same H H'∧H' p=some o :=
 ⟨_,rfl,fun b u e=>by rw [zw (zS e h)];exact e,zd⟩
theorem isV (p:Addr) {H:Hp} {o:HO} (h:H p=none):Same H (upd H p o):=fun b u e=>by rw [zw (zS e h)];exact e
theorem zj {n:Nat} (h:n≤100000):n≤sizeLine:=Nat.le_trans h (by decide)
theorem yh:bootBuiltins "len"=some (.builtin "len"):=by decide +kernel
theorem xp:bootBuiltins "isinstance"=some (.builtin "isinstance"):=by decide +kernel
theorem QR:bootBuiltins "all"=some (.builtin "all"):=by decide +kernel
theorem VM:bootBuiltins "reversed"=some (.type "reversed"):=by decide +kernel
theorem WX:bootBuiltins "enumerate"=some (.type "enumerate"):=by decide +kernel
theorem JG:bootBuiltins "str"=some (.type "str"):=by decide +kernel
theorem Xo:bootBuiltins "int"=some (.type "int"):=by decide +kernel
theorem Kv:bootBuiltins "bool"=some (.type "bool"):=by decide +kernel
theorem zba:bootBuiltins "list"=some (.type "list"):=by decide +kernel
theorem X4:bootBuiltins "ValueError"=some (.type "ValueError"):=by decide +kernel
section
variable {X:Cx}
def big:Int:=10 ^ 200
def vH (_ j:Int):Prop:=0 < j∧j < big
def CMulB (i j:Int):Prop:=(-big < i∧i < big)∧(-big < j∧j < big)
theorem VN {j:Int} (h:j.natAbs < 10 ^ 200):j.natAbs.log2 < 700:=by
 by_cases h0:j.natAbs=0
 ·rw [h0];decide
 ·exact (Nat.log2_lt h0).mpr (Nat.lt_of_lt_of_le h (by decide +kernel))
theorem Kw {j:Int} (h:-big < j∧j < big):j.natAbs < 10 ^ 200:=by
 have e:big=((10 ^ 200:Nat):Int):=by decide +kernel
 rw [e] at h
 lia
theorem CMulB.ok {i j:Int} (h:CMulB i j):IntMulOk i j:=by
 have b:∀ k:Int,(-big < k∧k < big)→Builtin.Int.intBits k≤2 ^ 20:=fun k hk=>by
  have q:=VN (Kw hk)
  unfold Builtin.Int.intBits
  split <;> lia
 exact .of_bits (b i h.1) (b j h.2)
theorem ZR:OpR X (binaryOp .Mult) (rI CMulB fun i j=>.int (i * j)):=opI fun _ _ _ _ _ _ _ hc q=>mul_int q hc.ok
theorem yZ:OpR X (binaryOp .FloorDiv) (rI vH fun i j=>.int (i / j)):=opI fun i j _ _ _ _ _ hc q=>by
 have h1:(0:Int) < j:=hc.1
 refine floordiv_int (by lia) ?_ (.inl (PyProof.noPylong_of_log2 (Nat.lt_trans (VN (Kw ⟨by have:=hc.2;lia,hc.2⟩)) (by decide))))
 rw [Int.fdiv_eq_ediv_of_nonneg i (by lia)]
 exact q
theorem qg:Zb X (.builtin "isinstance") (X3 X.K):=by
 intro pins s σ H xs us Q I r h
 obtain ⟨x,c,t,b,rfl,ty,⟨T,rfl,e⟩,q⟩:=h
 obtain ⟨u,w',rfl,r1,r2⟩:=QC r
 cases r2
 exact K6 I r1 ty e fun tk=>⟨.bl b,H,I.tok tk,rfl,q⟩
def Its (x:Str):It:=⟨fun i _=>i < x.cps.size,fun i H v H'=>H'=H∧∃ c,x.cps[i]?=some c∧v=.str ⟨#[c]⟩,fun i _=>x.cps.size≤i⟩
theorem VO {P:Program} {w:World} {K:PySem.W.Frag} {tg:Expr} {it:Addr} {x:Str} {t:Tok} {ty:String} (hty:["enumerate","zip","dict_itemiterator","dict_reverseitemiterator","odict_iterator","itertools.zip_longest","itertools.pairwise"].contains ty=false)
  (W:∀ A:Around,A.handled=none→Walks P w A it [it] [it] x.cps.size (SignAt x) (fun i h=>h.IsStrIter it ty x t i))
  (self:∀ (A:Around) (i:Nat) (s:Shared) (Q:Value→Shared→Prop) (E:Value→Shared→Prop),s.heap.IsStrIter it ty x t i→Q (.ref it) s→wpAny (model P w) A (pyIter (.ref it)) Q E s) :
  K0 P w K tg (Its x) [it] it (fun i h=>i≤x.cps.size∧h.IsStrIter it ty x t i) where
 mem:=by simp
 obj:=fun i h st b hb=>by
  have e:b=it:=by simpa using hb
  subst e
  obtain ⟨_,o,e,c,d⟩:=st
  exact ⟨o,e,fun v z=>by rw [d] at z;cases z⟩
 keep:=fun i h h' st k=>by
  obtain ⟨hi,o,e,r⟩:=st
  exact ⟨hi,o,k it (by simp) o e,r⟩
 item:=by
  intro X hP hw hK hc i pins s σ H E I hf st hg
  subst hP hw hK
  obtain ⟨f0,f1,f2,f3,f4,f5⟩:=hf it (by simp)
  refine (W X.A (I.ok.hd hc)).item i s _ _ hg st.2 fun v h' tk hv st' kk=>?_
  obtain ⟨c,u,hc',rfl⟩:=hv
  have I1:Inv X pins σ H { s with heap:=h',toks:=tk }:=I.turned (fun b o hb e=>kk b o (by simpa using hb) e) f0 f1 f3 f4 f5
  obtain ⟨o,e,c1,d1⟩:=id st'
  exact ⟨_,rfl,Kj (s:={ s with heap:=h',toks:=tk }) e c1 d1 hty ⟨.str ⟨#[c]⟩,H,I1,⟨u,rfl⟩,⟨rfl,c,hc',rfl⟩,⟨hg,st'⟩,fun b hb=>(hf b hb).1⟩⟩
 done:=by
  intro X hP hw hK hc i pins s σ H E I hf st hg
  subst hP hw hK
  obtain ⟨f0,f1,f2,f3,f4,f5⟩:=hf it (by simp)
  have e:i=x.cps.size:=Nat.le_antisymm st.1 hg
  subst e
  exact (W X.A (I.ok.hd hc)).done s _ _ st.2 fun h' tk kk=>⟨rfl,I.turned (fun b o hb e=>kk b o (by simpa using hb) e) f0 f1 f3 f4 f5⟩
 self:=fun A i s Q E st h=>self A i s Q E st.2 h
def Zq (tl:TE):TI:=fun σ H R=>tl σ H fun x H1=>∃ z,x=.str z∧R (Its z) H1
theorem WY {l tg:Expr} {tl:TE} (hl:PE X l tl):PI X tg l (Zq tl):=by
 intro pins s σ H R I h
 refine thn (hl pins s σ H _ I h) fun v s1 ⟨x,H1,I1,r1,q1⟩=>?_
 obtain ⟨z,rfl,q⟩:=q1
 obtain ⟨t,rfl⟩:=r1
 have new:∀ b∈[s1.heap.objs.size],Zj X pins H1 b:=fun b hb=>by
  have e:b=s1.heap.objs.size:=by simpa using hb
  subst e
  exact I1.fpOk (Nat.le_refl _) (I1.hok.fresh (Nat.le_refl _))
 cases ha:z.cps.all (· < 128)
 ·refine wpAny_pyIter_wide ha ?_
  exact ⟨s1.heap.objs.size,[s1.heap.objs.size],_,_,H1,rfl,I1.kept (t':=s1.toks) fun b o e=>Heap.get?_push_of_some _ e,
   VO (t:=t) (by decide) (fun A hA=>Walks.strWide hA _ z t) fun A i s Q E st h=>wpAny_pyIter_striter_wide st h,⟨Nat.zero_le _,_,Heap.get?_push_size _ rfl,rfl,rfl⟩,new,q⟩
 ·refine wpAny_pyIter_ascii ha ?_
  exact ⟨s1.heap.objs.size,[s1.heap.objs.size],_,_,H1,rfl,I1.kept (t':=s1.toks) fun b o e=>Heap.get?_push_of_some _ e,
   VO (t:=t) (by decide) (fun A hA=>Walks.strAscii hA _ z t) fun A i s Q E st h=>wpAny_pyIter_striter_ascii st h,⟨Nat.zero_le _,_,Heap.get?_push_size _ rfl,rfl,rfl⟩,new,q⟩
theorem Wy (hc:X.calm=true):Zb X (.builtin "all") (QP X.K):=by
 intro pins s σ H xs us Q I r h
 obtain ⟨a,bs,rfl,hq,q⟩:=h
 obtain ⟨u,rfl,r1⟩:=ZM r
 cases r1
 obtain ⟨its,rv,p,hz⟩:=I.list hq
 have hl:=rv.length
 rw [List.length_map] at hl
 have hne:a≠s.heap.objs.size:=by
  obtain ⟨o,n,e,_⟩:=p
  exact Nat.ne_of_lt (Heap.lt_size e)
 refine call_all_walk (wpAny_pyIter_list p.isList ?_)
 refine ⟨s.heap.objs.size,_,_,its.toArray.size,fun i v=>its.toArray[i]?=some v,_,fun i=>bs.getD i false,rfl,Walks.list (A:=X.A.in1) (I.ok.hd hc) _ a hne its.toArray,?_,?_,fun h' tk k=>?_⟩
 ·refine ⟨⟨_,Heap.get?_push_size _ rfl,rfl,rfl⟩,?_⟩
  exact p.isList.at fun o e=>Heap.get?_push_of_some _ e
 ·intro i v s' Q' E' hv hQ
  have hv':its[i]?=some v:=by simpa using hv
  have hi:i < bs.length:=by
   rw [hl]
   exact (List.getElem?_eq_some_iff.mp hv').1
  obtain ⟨u',hu,ru⟩:=rv.get (i:=i) (x:=V.bl bs[i]) (by simp [hi])
  rw [hv'] at hu
  cases hu
  cases ru
  have e:bs.getD i false=bs[i]:=by simp [hi]
  have hQ':Q' (bs.getD i false) s':=hQ
  rw [e] at hQ'
  exact wpAny_truthy_bool hQ'
 ·have e:(List.range its.toArray.size).all (fun i=>bs.getD i false)=bs.all id:=by
   rw [List.size_toArray,← hl]
   have:bs.map id=(List.range bs.length).map fun i=>bs.getD i false:=by
    apply List.ext_getElem?
    intro i
    by_cases hi:i < bs.length <;> simp [hi]
   have h2:bs.all id=(bs.map id).all id:=by simp
   rw [h2,this,List.all_map]
   rfl
  rw [e]
  refine ⟨.bl (bs.all id),H,?_,rfl,q⟩
  exact I.kept fun b o e=>k b o (by
   have:=Nat.ne_of_lt (Heap.lt_size e)
   simpa using this) (Heap.get?_push_of_some _ e)
theorem X5:MtR X "str.startswith" vO:=by
 intro pins s σ H x xs v us Q I rx rs h
 obtain ⟨a,b,rfl,rfl,q⟩:=h
 obtain ⟨t,rfl⟩:=rx
 obtain ⟨u,rfl,t',rfl⟩:=ZM rs
 exact call_meets F.slot_str_startswith (typeIs_str s a t) F.entry_str_startswith (F.args_str_startswith_2 _ _) (gives_str_startswith a b t t').meets (show _ from ⟨.bl _,H,I,rfl,q⟩)
def ZS:V→Option Int→Option Int→Hp→VK→Prop:=fun x lo hi H Q=>∃ z,x=.str z∧z.length≤sizeLine∧Q (.str (Txt.slice z lo hi)) H
theorem ky:SlR X ZS:=by
 intro pins s σ H x v vl vu lo hi sl Q I rx hs pl pu h
 obtain ⟨z,rfl,hz,q⟩:=h
 obtain ⟨t,rfl⟩:=rx
 obtain ⟨o,ho,hc,hd⟩:=hs
 refine ⟨"str",_,F.slot_str_getitem.lookup,typeIs_str _ _ _,?_⟩
 obtain ⟨l,e1,e2⟩:∃ l:Option (Int × Tok),vl=partValue l∧lo=l.map (·.1):=by
  cases pl with
  | none=>exact ⟨none,rfl,rfl⟩
  | int i t=>exact ⟨some (i,t),rfl,rfl⟩
 obtain ⟨u,e3,e4⟩:∃ l:Option (Int × Tok),vu=partValue l∧hi=l.map (·.1):=by
  cases pu with
  | none=>exact ⟨none,rfl,rfl⟩
  | int i t=>exact ⟨some (i,t),rfl,rfl⟩
 subst e1 e2 e3 e4
 exact wpAny_getItem_str_slice (l:=l) (u:=u) (st:=none) ⟨o,ho,hc,hd⟩ rfl
  (post_val_or_str ⟨Nat.le_trans (Txt.slice_le z _ _) hz,fun t' k=>⟨.str (Txt.slice z (l.map (·.1)) (u.map (·.1))),H,I.tok k,⟨t',rfl⟩,q⟩⟩)
theorem ZT:Zb X (.type "int") QQ:=by
 intro pins s σ H xs us Q I r h
 obtain ⟨x,n,rfl,hn,hl,q⟩:=h
 obtain ⟨u,rfl,t,rfl⟩:=ZM r
 exact PySem.W.KIN.call_text hn hl ⟨.int n,H,I.tok _,⟨_,rfl⟩,q⟩
end
end L2
namespace L2
open PySem PySem.Spec PyProof.Rows
theorem QS (o:Obj) (f):(o.mapFields f).dict=o.dict:=by obtain ⟨c,d,dt,sl⟩:=o;cases dt <;> rfl
def TrD (h base:Heap) (e:Addr) (cls a0 fl:Value) (od:Option Addr):Prop :=
 ∃ oe vs T oT ts,h.get? e=some oe∧((oe.cls=cls∧vs[0]?=some a0)∧oe.dict=od∧(od=none→vs[2]?=some .none))∧oe.data=.fields vs∧vs[1]?=some (.ref T)∧base.get? T=none∧T≠e∧h.get? T=some oT∧oT.data=.fields ts∧ts[3]?=some fl
section
variable {M:Model} {A:Around} {E:Value→Shared→Prop} {s:Shared} {base:Heap} {env:Env} {outer:List Env} {L e:Addr} {cls a0:Value} {od:Option Addr} {Q:Unit→Shared→Prop}
def TrK (s:Shared) (base:Heap) (l:List Env) (e:Addr) (cls a0 fl:Value) (od:Option Addr) (g:Heap):Prop:=base.StaysIn g∧g.FunFrames base l∧TrD g base e cls a0 fl od∧s.heap.UpToSlots g
theorem QT {oe:Obj} {vs:Array Value} {head:Value} {hn:Bool} (fr:A.frames=some (env :: outer)) (ff:s.heap.FunFrames base (env :: outer)) (fl:env.frame=some L) (he:s.heap.get? e=some oe) (kb:base.StaysIn s.heap) (nb:base.get? e=none)
  (dt:oe.data=.fields vs) (sz:1 < vs.size) (v0:vs[0]?=some a0) (v2:oe.dict=none→vs[2]?=some .none) (h:∀ g,TrK s base (env :: outer) e oe.cls a0 (rawInt L) oe.dict g→Q () { s with heap:=g }) :
  wpAny M A (do let a ← frameOf env;let pl ← entryPlaceOf L hn;let b ← EntryCells.newEntry head a .none (rawInt L) .none pl;setField (.ref e) 1 b) Q E s:=by
 have nf:e ∉ (env :: outer).filterMap (·.frame):=fun hm=>by
  obtain ⟨_,o,ho,z⟩:=ff.mem hm;rw [he] at ho;injection ho with ho;subst ho;exact z vs dt
 refine wpAny_bind (wpAny_frameOf_fun fr ff fl fun g1 so=>wpAny_bind (wpAny_entryPlaceOf fun pl hpl=>?_));unfold EntryCells.newEntry newFields
 refine wpAny_bind (wpAny_newObj_type ?_ (hpl.sizeOk5 _ _ _ _ _))
 have e1:g1.get? e=some oe:=(so.2.1 e nf).trans he
 have k1:base.StaysIn g1:=fun b o q=>(so.2.1 b fun hm=>by rw [(ff.mem hm).1] at q;cases q).trans (kb b o q)
 generalize hO:({ cls:=.type "traceback",dict:=none,data:=.fields ([head,.ref L,.none,rawInt L,.none] ++ (if pl.isEmpty then List.replicate 6 Value.none else pl)).toArray }:Obj)=nO
 have dO:nO.data=.fields ([head,.ref L,.none,rawInt L,.none] ++ (if pl.isEmpty then List.replicate 6 Value.none else pl)).toArray:=by rw [← hO]
 have e2:=Heap.get?_push_of_some (h:=g1) nO e1
 refine wpAny_setField e2 dt sz (h _ ?_)
 have nT:g1.objs.size≠e:=Nat.ne_of_gt (Heap.lt_size e1)
 have d3:=Obj.data_mapFields dt (·.setIfInBounds 1 (Value.ref g1.objs.size))
 have e3:=Heap.get?_update_self (Obj.mapFields (·.setIfInBounds 1 (Value.ref g1.objs.size))) e2 (Obj.isFreed_of_fields d3)
 have t3:=(Heap.get?_update_other (g1.push nO) (Obj.mapFields (·.setIfInBounds 1 (Value.ref g1.objs.size))) (Ne.symm nT)).trans (Heap.get?_push_size g1 (Obj.isFreed_of_fields dO))
 have kp:∀ b o,b≠e→g1.get? b=some o→((g1.push nO).update e (Obj.mapFields (·.setIfInBounds 1 (Value.ref g1.objs.size)))).get? b=some o:=fun b o n q=>by
  rw [Heap.get?_update_other _ _ (Ne.symm n)];exact Heap.get?_push_of_some _ q
 have nr:∀ b o,s.heap.get? b=some o→(∀ vs,o.data≠.fields vs)→b≠e:=fun b o q z w=>by rw [w,he] at q;injection q with q;subst q;exact z vs dt
 refine ⟨fun b o q=>kp b o (fun w=>by rw [w,nb] at q;cases q) (k1 b o q),ff.of_keeps fun b o q z=>?_,?_,fun b o q z=>?_⟩
 ·obtain ⟨sl,w⟩:=so.2.2 b o q;exact ⟨_,kp b _ (nr b o q z) w,rfl⟩
 ·exact ⟨_,_,g1.objs.size,_,_,e3,⟨⟨Obj.cls_mapFields _ _,by rw [Array.getElem?_setIfInBounds_ne (by decide)];exact v0⟩,QS _ _,fun z=>by rw [Array.getElem?_setIfInBounds_ne (by decide)];exact v2 z⟩,d3,by simp [sz],k1.fresh,nT,t3,dO,by first | (simp;done) | (rcases hpl with rfl | ⟨_,_,_,_,_,_,_,rfl⟩ <;> simp)⟩
 ·obtain ⟨sl,w⟩:=so.2.2 b o q;exact ⟨sl,kp b _ (nr b o q z) w⟩
theorem QU {l:List Env} {fl:Value} (kb:base.StaysIn s.heap) (ff:s.heap.FunFrames base l) (t:TrD s.heap base e cls a0 fl od) (h:∀ g,TrK s base l e cls a0 .none od g→Q () { s with heap:=g }):wpAny M A (setFlight (.ref e) none) Q E s:=by
 obtain ⟨oe,vs,T,oT,ts,he,hc,dt,v1,nT,Te,hT,dT,t3⟩:=t
 have sz:3 < ts.size:=(Array.getElem?_eq_some_iff.mp t3).1
 have ot:∀ b,b≠T→(s.heap.update T (Obj.mapFields (·.setIfInBounds 3 ((none:Option Addr).elim Value.none fun f=>rawInt f)))).get? b=s.heap.get? b:=fun b q=>Heap.get?_update_other _ _ (Ne.symm q)
 have nr:∀ b o,s.heap.get? b=some o→(∀ vs,o.data≠.fields vs)→b≠T:=fun b o q z w=>by rw [w,hT] at q;injection q with q;subst q;exact z ts dT
 unfold setFlight;refine wpAny_bind (wpAny_field he dt v1 ?_);rw [if_pos (show (Value.ref T != Value.none)=true from by simp)]
 refine wpAny_setField hT dT sz (h _ ⟨fun b o q=>(ot b fun w=>by rw [w,nT] at q;cases q).trans (kb b o q),ff.of_keeps fun b o q z=>⟨o,(ot b (nr b o q z)).trans q,rfl⟩,?_,fun b o q z=>⟨o.slots,(ot b (nr b o q z)).trans q⟩⟩)
 exact ⟨oe,vs,T,_,_,(ot e (Ne.symm Te)).trans he,hc,dt,v1,nT,Te,Heap.get?_update_self _ hT (Obj.isFreed_of_fields (Obj.data_mapFields dT _)),Obj.data_mapFields dT _,by simp [sz]⟩
theorem zb3 {oe:Obj} {vs:Array Value} (fr:A.frames=some (env :: outer)) (ff:s.heap.FunFrames base (env :: outer)) (fl:env.frame=some L) (he:s.heap.get? e=some oe) (kb:base.StaysIn s.heap) (nb:base.get? e=none)
  (dt:oe.data=.fields vs) (v1:vs[1]?=some .none) (v0:vs[0]?=some a0) (v2:oe.dict=none→vs[2]?=some .none) (h:∀ g,TrK s base (env :: outer) e oe.cls a0 (rawInt L) oe.dict g→Q () { s with heap:=g }):wpAny M A (noteFrame (.ref e) env) Q E s:=by
 unfold noteFrame;simp only [fl];refine wpAny_bind (wpAny_field he dt v1 ?_);rw [if_neg (by decide)]
 exact QT fr ff fl he kb nb dt (Array.getElem?_eq_some_iff.mp v1).1 v0 v2 h
theorem JH (fr:A.frames=some (env :: outer)) (ff:s.heap.FunFrames base (env :: outer)) (fl:env.frame=some L) (t:TrD s.heap base e cls a0 .none od) (kb:base.StaysIn s.heap) (nb:base.get? e=none)
  (h:∀ g,TrK s base (env :: outer) e cls a0 (rawInt L) od g→Q () { s with heap:=g }):wpAny M A (noteFrame (.ref e) env) Q E s:=by
 obtain ⟨oe,vs,T,oT,ts,he,⟨⟨hcl,v0⟩,hod,v2⟩,dt,v1,nT,Te,hT,dT,t3⟩:=t
 subst hcl hod
 unfold noteFrame;simp only [fl];refine wpAny_bind (wpAny_field he dt v1 ?_);rw [if_pos (show (Value.ref T != Value.none)=true from by simp)]
 refine wpAny_bind (wpAny_field hT dT t3 ?_);rw [if_neg (show ¬ ((Value.none == rawInt L)=true) from by simp [rawInt])]
 refine wpAny_bind (wpAny_setField hT dT (Array.getElem?_eq_some_iff.mp t3).1 ?_)
 have ot:∀ b,b≠T→(s.heap.update T (Obj.mapFields (·.setIfInBounds 3 Value.none))).get? b=s.heap.get? b:=fun b q=>Heap.get?_update_other _ _ (Ne.symm q)
 have nr:∀ b o,s.heap.get? b=some o→(∀ vs,o.data≠.fields vs)→b≠T:=fun b o q z w=>by rw [w,hT] at q;injection q with q;subst q;exact z ts dT
 refine QT fr (ff.of_keeps fun b o q z=>⟨o,(ot b (nr b o q z)).trans q,rfl⟩) fl ((ot e (Ne.symm Te)).trans he) (fun b o q=>(ot b fun w=>by rw [w,nT] at q;cases q).trans (kb b o q)) nb dt (Array.getElem?_eq_some_iff.mp v1).1 v0 v2 fun g ⟨x1,x2,x3,x4⟩=>h g ⟨x1,x2,x3,fun b o q z=>x4 b o ((ot b (nr b o q z)).trans q) z⟩
theorem QV (x:∀ {Q:Unit→Shared→Prop},(∀ g,TrK s base (env :: outer) e cls a0 (rawInt L) od g→Q () { s with heap:=g })→wpAny M A (noteFrame (.ref e) env) Q E s)
  (h:∀ g,TrK s base (env :: outer) e cls a0 .none od g→Q () { s with heap:=g }):wpAny M A (leaving env (.ref e)) Q E s:=by
 unfold leaving
 refine wpAny_bind (x fun g ⟨x1,x2,x3,x4⟩=>QU x1 x2 x3 fun g' ⟨y1,y2,y3,y4⟩=>h g' ⟨y1,y2,y3,x4.trans y4⟩)
end
end L2
namespace L2
open PySem PySem.Spec PyProof.Rows
theorem ObjOk.there {P:Program} {w:World} {H:Hp} {h:Heap} {a:Addr} {o:HO} (x:ObjOk P w H h a o):∃ u,h.get? a=some u:=by
 cases o with
 | lst xs=>obtain ⟨_,_,_,_,e⟩:=x;exact ⟨_,e⟩
 | tup xs=>obtain ⟨_,_,_,o,e,_⟩:=x;exact ⟨_,e⟩
 | dK kvs=>obtain ⟨_,_,_,_,o,_,_,e,_⟩:=x;exact ⟨_,e⟩
 | dT kvs=>obtain ⟨_,_,_,_,o,_,_,e,_⟩:=x;exact ⟨_,e⟩
 | set S n=>obtain ⟨o,_,_,_,e,_⟩:=x;exact ⟨_,e⟩
 | ins C dx fs=>obtain ⟨_,_,_,e,_⟩:=x;exact ⟨_,e⟩
 | own y=>exact x
 | xd fs=>obtain ⟨_,⟨o,_,_,e,_⟩,_⟩:=x;exact ⟨_,e⟩
 | rng lo hi=>obtain ⟨_,_,_,e⟩:=x;exact ⟨_,e⟩
 | frz ob u=>obtain ⟨e,_⟩:=x;exact ⟨_,e⟩
 | tbl ps=>exact ⟨_,(show h.get? a=some _ from x)⟩
 | met f y=>exact ⟨_,(show h.get? a=some _ from x)⟩
 | ext φ=>obtain ⟨_,e,_⟩:=x;exact e
def XF (g h:Heap) (H:Hp) (e:Addr) (cls:Value) (od:Option Addr):Prop :=
 ∃ oe vs a0 T oT ts,h.get? e=some oe∧(oe.cls=cls∧vs[0]?=some a0)∧oe.data=.fields vs∧vs[1]?=some (.ref T)∧T≠e∧h.get? T=some oT∧oT.data=.fields ts∧ts[3]?=some .none ∧
  g.get? e=none∧g.get? T=none∧H e=none∧H T=none∧oe.dict=od∧(od=none→vs[2]?=some .none)
def CX1 (P:Program) (w:World):CXT:=fun outer H s E ev s'=>∃ e cls od H',ev=.ref e∧s'.os=s.os∧AllBare s'.gens∧Un (frs outer) [] H H' s.heap s'.heap∧HOk P w H' s'.heap∧XF s.heap s'.heap H' e cls od∧E cls od H'
theorem jc {g h:Heap} (k:∀ b o,g.get? b=some o→∃ o',h.get? b=some o') {b:Addr} (e:h.get? b=none):g.get? b=none:=by
 cases q:g.get? b with
 | none=>rfl
 | some o =>
  obtain ⟨o',z⟩:=k b o q
  rw [e] at z;cases z
theorem XF.older {g g' h:Heap} {H:Hp} {e:Addr} {cls:Value} {od:Option Addr} (x:XF g h H e cls od) (k:∀ b o,g'.get? b=some o→∃ o',g.get? b=some o'):XF g' h H e cls od:=by
 obtain ⟨oe,vs,a0,T,oT,ts,h1,h2,h3,h4,h5,h6,h7,h8,h9,h10,h11,h12⟩:=x
 exact ⟨oe,vs,a0,T,oT,ts,h1,h2,h3,h4,h5,h6,h7,h8,jc k h9,jc k h10,h11,h12⟩
section
variable {X:Cx} {pins:List (Addr × Obj)} {σ:St} {H:Hp} {s:Shared}
theorem Inv.stackFields (J:Inv X pins σ H s) {b:Addr} (hb:b∈frs X.stack):∃ o,s.heap.get? b=some o∧∀ vs,o.data≠.fields vs:=(J.stack.mem hb).2
theorem Inv.there0 (hex:X.ex=[]) (J:Inv X pins σ H s):∀ b o,X.s₀.heap.get? b=some o→∃ o',s.heap.get? b=some o':=fun b o e=>J.base.there b o e (by rw [hex];simp)
theorem Inv.behind {h2:Heap} {cs:List Addr} (hex:X.ex=[]) (J:Inv X pins σ H s) (hcs:∀ b∈cs,H b=none∧X.s₀.heap.get? b=none)
  (hB:∀ b o,s.heap.get? b=some o→b ∉ frs X.stack→b ∉ cs→h2.get? b=some o) (hF:∀ b o,s.heap.get? b=some o→b∈frs X.stack→∃ sl,h2.get? b=some { o with slots:=sl }) :
  Un X.fs [] X.H₀ H X.s₀.heap h2∧HOk X.prog X.w H h2:=by
 have B:Un X.fs [] X.H₀ H X.s₀.heap s.heap:=by have:=J.base;rw [hex] at this;exact this
 have nL:∀ b o,X.s₀.heap.get? b=some o→b≠X.env.locals:=fun b o e=>Nat.ne_of_lt (Nat.lt_of_lt_of_le (Heap.lt_size e) J.ok.above)
 have nC:∀ b o,X.s₀.heap.get? b=some o→b ∉ cs:=fun b o e z=>by rw [(hcs b z).2] at e;cases e
 have any:∀ b o,s.heap.get? b=some o→b ∉ cs→∃ sl,h2.get? b=some { o with slots:=sl }:=fun b o e n=>by
  by_cases hb:b∈frs X.stack
  ·exact hF b o e hb
  ·exact ⟨o.slots,hB b o e hb n⟩
 refine ⟨⟨fun b o e n h1 _=>?_,fun b o e n h1 _=>?_,B.free,fun b o e h1=>?_,B.tups,B.frzs,B.tbls⟩,fun b u e=>?_⟩
 ·refine hB b o (B.keep b o e n h1 (by simp)) (fun z=>?_) (nC b o e)
  rcases List.mem_cons.mp (J.stkSub b z) with q | q
  ·exact nL b o e q
  ·exact h1 q
 ·obtain ⟨sl,q⟩:=B.slot b o e n h1 (by simp)
  obtain ⟨sl',q'⟩:=any b _ q (nC b o e)
  exact ⟨sl',q'⟩
 ·obtain ⟨o',q⟩:=B.there b o e (by simp)
  obtain ⟨sl,q'⟩:=any b o' q (nC b o e)
  exact ⟨_,q'⟩
 ·refine (J.hok b u e).stay (fun c v hc q=>?_) (fun _ q=>q) fun _ _ q=>q
  have hn:H c≠none:=by
   rcases hc with rfl | hc
   ·rw [e];simp
   ·rw [hc];simp
  exact hB c v q (fun z=>hn (J.stkFree c z)) fun z=>hn (hcs c z).1
theorem Inv.flown {B h2:Heap} {cs:List Addr} {e:Addr} {cls a0:Value} {od:Option Addr} (hex:X.ex=[]) (J:Inv X pins σ H s) (hcs:∀ b∈cs,H b=none∧X.s₀.heap.get? b=none)
  (hB:∀ b o,s.heap.get? b=some o→b ∉ frs X.stack→b ∉ cs→B.get? b=some o) (hF:∀ b o,s.heap.get? b=some o→b∈frs X.stack→∃ sl,h2.get? b=some { o with slots:=sl })
  (he:H e=none) (he0:X.s₀.heap.get? e=none) (kb:B.StaysIn h2) (tr:TrD h2 B e cls a0 .none od) :
  Un X.fs [] X.H₀ H X.s₀.heap h2∧HOk X.prog X.w H h2∧XF X.s₀.heap h2 H e cls od:=by
 have hk:=J.behind (h2:=h2) hex hcs (fun b o q n1 n2=>kb b o (hB b o q n1 n2)) hF
 refine ⟨hk.1,hk.2,?_⟩
 obtain ⟨oe,vs,T,oT,ts,h1,h2',h3,h4,h5,h6,h7,h8,h9⟩:=tr
 have noT:∀ o,s.heap.get? T=some o→T∈cs:=fun o q=>by
  by_cases hb:T∈frs X.stack
  ·obtain ⟨o',q',nf⟩:=J.stackFields hb
   obtain ⟨sl,z⟩:=hF T o' q' hb
   rw [h7] at z
   have z':oT={ o' with slots:=sl }:=Option.some.inj z
   exact absurd (by rw [← h8,z']) (nf ts)
  ·by_cases hc:T∈cs
   ·exact hc
   ·rw [hB T o q hb hc] at h5;cases h5
 refine ⟨oe,vs,a0,T,oT,ts,h1,h2'.1,h3,h4,h6,h7,h8,h9,he0,?_,he,?_,h2'.2⟩
 ·cases q:X.s₀.heap.get? T with
  | none=>rfl
  | some o =>
   obtain ⟨o',q'⟩:=J.there0 hex T o q
   rw [(hcs T (noT o' q')).2] at q;cases q
 ·cases q:H T with
  | none=>rfl
  | some u =>
   obtain ⟨o,z⟩:=(J.hok T u q).there
   rw [(hcs T (noT o z)).1] at q;cases q
theorem Wz {e:Addr} {oe:Obj} {vs:Array Value} {a0:Value} {E:XK} {EE:Value→Shared→Prop} (hst:X.stack=X.env :: X.outer∧X.env.frame=some X.env.locals) (hex:X.ex=[]) (J:Inv X pins σ H s) (he:s.heap.get? e=some oe) (dt:oe.data=.fields vs) (v1:vs[1]?=some .none) (v0:vs[0]?=some a0) (v2:oe.dict=none→vs[2]?=some .none)
  (hn:H e=none) (h0:X.s₀.heap.get? e=none) (hE:E oe.cls oe.dict H):wpAny (model X.prog X.w) X.A (leaving X.env (.ref e)) (fun _ s2=>CX1 X.prog X.w X.outer X.H₀ X.s₀ E (.ref e) s2) EE s:=by
 have fr:s.heap.FunFrames (PySem.W.hideAll s.heap (frs X.stack ++ [e])) (X.env :: X.outer):=by
  have q:=PySem.W.funFrames_hide (as:=frs X.stack ++ [e]) J.stack fun env he a ha=>List.mem_append_left _ (List.mem_filterMap.mpr ⟨env,he,ha⟩)
  rw [hst.1] at q ⊢
  exact q
 refine QV (fun h=>zb3 (by rw [J.ok.frames,hst.1]) fr hst.2 he (fun b o q=>PySem.W.of_hideAll _ q) (PySem.W.hideAll_none _ (List.mem_append_right _ (by simp))) dt v1 v0 v2 h) fun h2 ⟨f1,f2,f4,hup⟩=>?_
 have hF:∀ b o,s.heap.get? b=some o→b∈frs X.stack→∃ sl,h2.get? b=some { o with slots:=sl }:=fun b o q hb=>by
  obtain ⟨o',q',nf⟩:=J.stackFields hb
  rw [q] at q';cases q'
  exact hup b o q nf
 obtain ⟨r1,r2,r3⟩:=J.flown (cs:=[e]) hex (fun b z=>by rw [List.mem_singleton.mp z];exact ⟨hn,h0⟩) (fun b o q n n2=>PySem.W.hideAll_get _ q fun z=>(List.mem_append.mp z).elim n n2) hF hn h0 f1 f4
 exact ⟨e,oe.cls,oe.dict,H,rfl,J.os,J.bare,r1,r2,r3,hE⟩
theorem Qa {h':Heap} {e:Addr} {cls:Value} {vs:List Value} {E:XK} {EE:Value→Shared→Prop} (hst:X.stack=X.env :: X.outer∧X.env.frame=some X.env.locals) (hex:X.ex=[]) (J:Inv X pins σ H s) (hx:Heap.MadeExcOf s.heap h' e cls vs) (hE:E cls none H) :
  wpAny (model X.prog X.w) X.A (leaving X.env (.ref e)) (fun _ s2=>CX1 X.prog X.w X.outer X.H₀ X.s₀ E (.ref e) s2) EE { s with heap:=h' }:=by
 obtain ⟨t,he,htn,ht⟩:=hx.there
 refine Wz hst hex (J.kept (t':=s.toks) hx.keeps) he rfl rfl rfl (fun _=>rfl) ?_ (jc (J.there0 hex) hx.new) hE
 cases q:H e with
 | none=>rfl
 | some u =>
  obtain ⟨o,z⟩:=(J.hok e u q).there
  rw [hx.new] at z;cases z
theorem QW {e:Addr} {cls:Value} {od:Option Addr} {E:XK} {EE:Value→Shared→Prop} (hst:X.stack=X.env :: X.outer∧X.env.frame=some X.env.locals) (hex:X.ex=[]) (J:Inv X pins σ H s) (xf:XF X.s₀.heap s.heap H e cls od) (hE:E cls od H) :
  wpAny (model X.prog X.w) X.A (leaving X.env (.ref e)) (fun _ s2=>CX1 X.prog X.w X.outer X.H₀ X.s₀ E (.ref e) s2) EE s:=by
 obtain ⟨oe,vs,a0,T,oT,ts,h1,h2,h3,h4,h5,h6,h7,h8,h9,h10,h11,h12,h13⟩:=id xf
 have fr:s.heap.FunFrames (PySem.W.hideAll s.heap (frs X.stack ++ [e,T])) (X.env :: X.outer):=by
  have q:=PySem.W.funFrames_hide (as:=frs X.stack ++ [e,T]) J.stack fun env he a ha=>List.mem_append_left _ (List.mem_filterMap.mpr ⟨env,he,ha⟩)
  rw [hst.1] at q ⊢
  exact q
 refine QV (fun h=>JH (by rw [J.ok.frames,hst.1]) fr hst.2 ⟨oe,vs,T,oT,ts,h1,⟨h2,h13⟩,h3,h4,PySem.W.hideAll_none _ (List.mem_append_right _ (by simp)),h5,h6,h7,h8⟩ (fun b o q=>PySem.W.of_hideAll _ q) (PySem.W.hideAll_none _ (List.mem_append_right _ (by simp))) h) fun h2' ⟨f1,f2,f4,hup⟩=>?_
 have hF:∀ b o,s.heap.get? b=some o→b∈frs X.stack→∃ sl,h2'.get? b=some { o with slots:=sl }:=fun b o q hb=>by
  obtain ⟨o',q',nf⟩:=J.stackFields hb
  rw [q] at q';cases q'
  exact hup b o q nf
 obtain ⟨r1,r2,r3⟩:=J.flown (cs:=[e,T]) hex (fun b z=>by
   have z':b=e∨b=T:=by simpa using z
   rcases z' with rfl | rfl
   ·exact ⟨h11,h9⟩
   ·exact ⟨h12,h10⟩) (fun b o q n n2=>PySem.W.hideAll_get _ q fun z=>(List.mem_append.mp z).elim n n2) hF h11 h9 f1 f4
 exact ⟨e,cls,od,H,rfl,J.os,J.bare,r1,r2,r3,hE⟩
end
def QX (X:Cx) (E:XK):Prop:=∀ (pins:List (Addr × Obj)) (σ:St) (H:Hp) (s:Shared) (h':Heap) (e:Addr) (cls:Value) (vs:List Value),Inv X pins σ H s→Heap.MadeExcOf s.heap h' e cls vs→E cls none H→X.xe (.ref e) { s with heap:=h' }
section
variable {P:Program} {w:World} {K:PySem.W.Frag} {mg:Str→Option Value} {base:Heap} {N:List Str} {qual:Str} {scope:Scope} {f:Addr} {cd:Value} {A:Around} {outer:List Env} {s₀:Shared} {H₀:Hp} {E:XK}
theorem yN:ku (CX1 P w) (v6 (CX1 P w) P w K mg base N qual scope f cd A outer s₀ H₀ E) E:=by
 intro pins σ H s ev s' I hcx
 obtain ⟨e,cls,od,H',rfl,os,bare,un,hok,xf,hE⟩:=hcx
 have J:=I.call' (ch:=[]) os un hok bare (fun b z=>nomatch z)
 exact QW (X:=v6 (CX1 P w) P w K mg base N qual scope f cd A outer s₀ H₀ E) ⟨rfl,rfl⟩ rfl J (xf.older (I.there0 rfl)) hE
theorem Y5:QX (v6 (CX1 P w) P w K mg base N qual scope f cd A outer s₀ H₀ E) E:=by
 intro pins σ H s h' e cls vs I hx hE
 exact Qa (X:=v6 (CX1 P w) P w K mg base N qual scope f cd A outer s₀ H₀ E) ⟨rfl,rfl⟩ rfl I hx hE
theorem zb4:PassesOwn (model P w) (v6 (CX1 P w) P w K mg base N qual scope f cd A outer s₀ H₀ E).A (v6 (CX1 P w) P w K mg base N qual scope f cd A outer s₀ H₀ E).env (v6 (CX1 P w) P w K mg base N qual scope f cd A outer s₀ H₀ E).xe:=PassesOwn.leaving
end
abbrev YQ:List Value:=[.type "ValueError",.type "Exception",.type "BaseException",.type "object"]
abbrev vP:String:="ValueError.__new__"
def kz (C:Addr) (ta:TA) (E:XK):TS:=fun _ σ H=>ta σ H fun vs H1=>vs.length≤sizeLine∧E (.ref C) none H1
theorem zbb {K:PySem.W.Frag} {h:Heap} {C:Addr} {bmB:List Value} {newId:String} (X:K.In h) (q:PySem.W.excIn K C bmB newId=true) :
  ∃ bm N nm qn bs hdct sn sub ab col dd k0 k1 k2 k3 k5 mN,h.get? C=some (excClassObj nm qn C N bs bm hdct sn sub ab col dd k0 k1 k2 k3 k5 newId)∧h.Ns N mN∧mN "__init__"=none∧OwnTail h bmB bm:=by
 unfold PySem.W.excIn at q
 split at q
 case h_2=>cases q
 rename_i dd cd sl ho
 split at q
 case h_2=>cases q
 rename_i C' bm k0 k1 k2 k3 n k5 hm hs
 rw [Bool.and_eq_true,Bool.and_eq_true,Bool.and_eq_true,Bool.and_eq_true,Bool.and_eq_true] at q
 obtain ⟨⟨⟨⟨⟨q1,q2⟩,q3⟩,q4⟩,q5⟩,q6⟩:=q
 obtain rfl:C'=C:=by simpa using q1
 obtain rfl:n=newId:=by simpa using q2
 obtain ⟨nm,bs,mro,ns,qn,hd,sn,sub,ab,col,del⟩:=cd
 have hdel:del=false:=by simpa using q3
 have hm':mro=.ref C' :: bm:=hm
 subst hdel hm'
 have hsl:sl=#[k0,k1,k2,k3,some (.builtin n),k5]:=by
  apply Array.ext'
  exact hs
 subst hsl
 exact ⟨bm,ns,nm,qn,bs,hd,sn,sub,ab,col,dd,k0,k1,k2,k3,k5,_,X _ _ ho,.of_isNs (PySem.W.isNs_of_in X q5),PySem.W.nsMap_none_of_in X q5 (by simpa using q6),PySem.W.tail_of_in X q4⟩
section
variable {X:Cx} {x:Str} {C:Addr} {np cpos pos:Pos} {e₀:Expr} {rest:List Expr} {ta:TA} {E:XK}
theorem ZU (hc:X.calm=true) (q:PySem.W.excIn X.K C YQ vP=true) (hr:QX X E) (hg:Gl X x) (hm:X.mg x=some (.ref C)) (ha:PA X (e₀ :: rest) ta)
  (he:starEach (e₀ :: rest) X.env=(false,eval e₀ X.env) :: starEach rest X.env:=by rfl) (hp:(backTo cpos (starEach rest X.env)).any (·.1)=false:=by rfl) (hd:(x == ("__debug__":Str))=false:=by decide) :
  PS X (.Raise (some (.Call (.Name x np) (e₀ :: rest) [] cpos)) none pos) (kz C ta E):=by
 intro pins s σ H D I h
 obtain ⟨tl,N,nm,qn,bs,hdct,sn,sub,ab,col,dd,k0,k1,k2,k3,k5,mN,hC,hN,hni,T⟩:=zbb I.ok.mod.kin q
 refine wpAny_Raise_call_subT (C:=C) (nm:=nm) (q:=qn) (N:=N) (bs:=bs) (bm:=tl) (hdct:=hdct) (sn:=sn) (sub:=sub) (ab:=ab) (col:=col) (dd:=dd) (k0:=k0) (k1:=k1) (k2:=k2) (k3:=k3) (k5:=k5) (newId:=vP)
  PySem.F.excBase_ValueError (mN:=mN) (T.hasType PySem.F.excBase_ValueError.hasBase) (I.ok.hd hc) (by rw [he];exact hp) hni (x9 I hg hm ⟨rfl,?_⟩ hd)
 have hA:=ha cpos pins s σ H _ I h
 rw [he] at hA ⊢
 refine Calls.evalArgs_plain (thn hA fun us s2 ⟨vs,H2,I2,r2,z2,q2⟩=>?_)
 exact ⟨rfl,by rw [← r2.length];exact z2,I2.bk _ _ hC,hN.keeps I2.bk,T.keeps I2.bk,fun h' e hm=>hr pins σ H2 s2 h' e _ _ I2 hm q2⟩
end
def Asc (x:Str):Prop:=∀ c∈x.cps.toList,c < 128
section
variable {X:Cx} {e:Expr} {te:TE} {a:Str} {j:Nat} {p1 p2 p3:Pos}
def VP (te:TE):TE:=fun σ H Q=>te σ H fun v H1=>∃ x:Str,v=.str x∧x.length≤100000∧Asc x∧∀ y:Str,Q (.str y) H1
theorem Kx (he:PE X e te) (hl:a.length≤1000:=by decide +kernel):PE X (.JoinedStr [.Constant (.str a) j p1,.FormattedValue e 114 none p2] p3) (VP te):=by
 intro pins s σ H Q I h
 refine wpAny_JoinedStr ?_
 show wpAny _ _ (eval (.Constant (.str a) j p1) X.env) _ _ s
 have e0:(Str.empty ++ a).length=a.length:=by rw [Str.length_append];simp [Str.empty,Str.length]
 refine Calls.Constant_str ⟨a,_,rfl,by rw [e0];exact zj (by omega),?_⟩
 show wpAny _ _ (eval (.FormattedValue e 114 none p2) X.env) _ _ _
 refine wpAny_FormattedValue_repr (thn (he pins _ σ H _ (I.tok _) h) fun v s1 ⟨x,H1,I1,r1,z,ex,hz,hA,q⟩=>?_)
 subst ex
 obtain ⟨t,rfl⟩:=r1
 have hr:(reprText z).length≤10 * z.length + 2:=StrLaws.reprText_len z fun c hc=>Nat.lt_trans (hA c hc) (by decide)
 have hs:sizeLine=16777216:=sizeLine_eq
 refine wpAny_pyReprObj_gives (typeIs_str _ z t) PySem.F.slot_str_repr PySem.F.entry_str_repr (PySem.F.args_str_repr_1 _) (gives_str_repr z t) ?_ rfl (by omega)
 have fin:∀ (t':Tok) (tk:Nat),∃ y u,Value.str (reprText z) t'=Value.str y u∧(Str.empty ++ a ++ y).length≤sizeLine∧Joins (model X.prog X.w) X.A X.xe (evalEach [] X.env) (Str.empty ++ a ++ y) (fun out s₁=>out.length≤sizeLine∧EP X pins σ Q (.str out s₁.toks) { s₁ with toks:=s₁.toks + 1 }) { s1 with toks:=tk }:=fun t' tk=>by
  have hz2:(Str.empty ++ a ++ reprText z).length≤sizeLine:=by rw [Str.length_append,e0];omega
  exact ⟨_,_,rfl,hz2,hz2,.str _,H1,I1.tok _,⟨_,rfl⟩,q _⟩
 exact wpAny_formatField_str (fin _ _) (fin _ _) (by omega)
def zdy (te:TE):TE:=fun σ H Q=>te σ H fun v H1=>∃ x:Str,v=.str x∧x.length≤100000∧∀ y:Str,Q (.str y) H1
end
end L2
namespace L2
open PySem PySem.Spec PyProof.Rows
structure ExC (K:PySem.W.Frag) (C:Addr):Prop where
 ga:PySem.W.findIn K (.ref C) "__getattribute__"=some (some (.builtin "BaseException.__getattribute__"))
 gx:PySem.W.findIn K (.ref C) "__getattr__"=some none
 cl:PySem.W.findIn K (.ref C) "__class__"=some (some (.builtin "object.__class__"))
 ob:PySem.W.mroIn K C (.type "object")=some true
 be:PySem.W.mroIn K C (.type "BaseException")=some true
 ge:PySem.W.specialIn K (.builtin "object.__class__") "__get__"=some (some (.builtin "getset_descriptor.__get__"))
 tk:PySem.W.takesIn K (.builtin "object.__class__")=some true
section
variable {prog:Program} {w:World} {A:Around} {E:Value→Shared→Prop} {K:PySem.W.Frag} {e C:Addr} {s:Shared}
theorem QY {M:Model} {h:Heap} (X:K.In h) (c:ExC K C):PySem.W.Looks M h (PySem.Builtin.ObjectAttr.find (.ref e) (.ref C) "__class__") (.bind (.builtin "getset_descriptor.__get__") (.builtin "object.__class__")):=by
 have l1:=PySem.W.looks_findIn (M:=M) X c.cl
 have l2:PySem.W.Looks M h (PySem.Builtin.ObjectAttr.getOf (some (.builtin "object.__class__"))) (some (.builtin "getset_descriptor.__get__")):=PySem.W.looks_specialIn X c.ge
 have l3:=PySem.W.looks_takesIn (M:=M) X c.tk
 refine l1.andThen (l2.andThen ?_)
 exact (show PySem.W.Looks M h (PySem.Builtin.ObjectAttr.dataDescriptor? (some (.builtin "object.__class__")) (some (.builtin "getset_descriptor.__get__"))) (some ((.builtin "getset_descriptor.__get__"),(.builtin "object.__class__"))) from l3.andThen .now).andThen (PySem.W.Looks.tag .now)
open PySem.Builtin PySem.Builtin.Getset_descriptor in
theorem zbc {R:Result→Shared→Prop} {tp:Value} (X:K.In s.heap) (c:ExC K C) (t0:PySem.W.Looks (model prog w) s.heap (typeOf (.ref e)) (.ref C)) (hr:R (.ok (.ret (.ref C))) s) :
  codeAny (model prog w) A (.call (.builtin "getset_descriptor.__get__") ⟨[.builtin "object.__class__",.ref e,tp],[]⟩) R s:=by
 obtain ⟨hh,gs,dr,tt,os⟩:=s
 have t5:=PySem.W.looks_mroIn (M:=model prog w) X c.ob
 refine codeAny_call_builtin PySem.W.KF.slot_gs.plain PySem.W.KF.entry_gs (PySem.W.KF.slot_gs.check _ _ _ _ _ _ _ _ PySem.W.KF.type_class (PySem.W.KF.args_gs _ _ _) ?_)
 unfold Builtin.«getset_descriptor.__get__» descrGet
 rw [PySem.W.dga_obj]
 refine wpAny_bind (wpAny_pure ?_)
 unfold descrGetter descrCheckInstance descrNameAndClass isInstance
 simp only [PySem.W.KF.owner_class]
 repeat lk
 refine ⟨Code.quiet_builtin _ (by decide +kernel),codeAny_builtin PySem.W.KF.entry_class ?_⟩
 unfold Builtin.«object.__class__» shownTypeOf
 repeat lk
 exact hr
theorem Qb {Q:Option Value→Shared→Prop} (X:K.In s.heap) (c:ExC K C) (LT:∀ M:Model,PySem.W.Looks M s.heap (typeOf (.ref e)) (.ref C)) (hq:Q (some (.ref C)) { s with toks:=s.toks + 1 }) :
  wpAny (model prog w) A (getAttr? (.ref e) "__class__") Q E s:=by
 obtain ⟨hh,gs,dr,tt,os⟩:=s
 have t0:=LT (model prog w)
 have t1:=PySem.W.looks_findIn (M:=model prog w) X c.ga
 have t2:=PySem.W.looks_findIn (M:=model prog w) X c.gx
 have t3:=PySem.W.looks_mroIn (M:=model prog w) X c.be
 have t4:=QY (M:=model prog w) (e:=e) X c
 have t5:=PySem.W.looks_mroIn (M:=model prog w) X c.ob
 have t6:bindSpecial (.builtin "BaseException.__getattribute__") (.ref e)=pure (.builtin "BaseException.__getattribute__",[.ref e]):=F.excAttr_ValueError.ga.bind (.ref e)
 have b2:(Value.builtin "BaseException.__getattribute__" == Value.builtin "object.__getattribute__")=false:=by decide +kernel
 unfold getAttr? getAttrBy? getAttrBy
 refine wpAny_bind (wpAny_mkText (wpAny_bind (wpAny_attempt (wpAny_holding (wpAny_bind (t0.at (wpAny_bind (t1.at ?_))))))))
 simp only [b2,Bool.and_false,Bool.false_eq_true,if_false]
 unfold getAttrByItsOwn hookBefore
 refine wpAny_bind (t2.at ?_)
 unfold callGetattribute boundAndCalled
 simp only [Bool.false_and,Bool.false_eq_true,if_false,Option.toList,t6]
 refine wpAny_bind (wpAny_attempt (wpAny_holding (wpAny_bind (wpAny_pure (wpAny_call ?_)))))
 refine codeAny_call_builtin F.excAttr_ValueError.ga.plain F.entry_bexc_ga ?_
 have k1:builtinKind "BaseException.__getattribute__"=some .slot:=by decide +kernel
 have k2:splitId "BaseException.__getattribute__"=some ("BaseException","__getattribute__"):=by decide +kernel
 have k3:=F.args_bexc_ga (.ref e) (.str "__class__" tt)
 simp only [checkBuiltinCall,k1,k2]
 refine wpAny_bind (?_:wpAny _ _ (isInstance (.ref e) (.type "BaseException")) _ _ _)
 have k4:PySem.W.Looks (model prog w) hh (isInstance (.ref e) (.type "BaseException")) true:=t0.andThen t3
 refine k4.at ?_
 simp only [Bool.not_true,Bool.false_eq_true,if_false,List.cons_append,List.nil_append]
 refine wpAny_of_eq (show _=pure () from k3) ?_
 refine wpAny_bind (wpAny_pure (wpAny_bind (wpAny_pure (wpAny_bind (t0.at (wpAny_bind (t4.at ?_)))))))
 show wpAny _ _ (holding [.builtin "object.__class__"] (call (.builtin "getset_descriptor.__get__") [.builtin "object.__class__",.ref e,.ref C]) >>= ret) _ _ _
 refine wpAny_bind (wpAny_holding (wpAny_call (zbc X c t0 (wpAny_pure ?_))))
 exact PySem.W.handed_on rfl (wpAny_pure hq)
theorem VQ {a:Addr} (c:ExC K C) (hc:(PySem.W.clsIn K C).isSome=true):PySem.W.KitX K (.ref a) (.ref C) (fun h=>∃ o,h.get? a=some o∧o.cls=.ref C) where
 ty:=fun M h _ p=>by
  obtain ⟨o,p1,p2⟩:=p
  exact p2 ▸ (PySem.W.Looks.ld p1).andThen .now
 it:=fun _ _ X _=>by
  obtain ⟨cd,z⟩:=Option.isSome_iff_exists.mp hc
  unfold PySem.W.clsIn at z
  split at z
  ·rename_i y
   intro A' Q' E' s' k q
   unfold isType loadHead
   exact wpAny_bind (wpAny_loadPart (k _ _ (X _ _ y)) (wpAny_pure q))
  ·cases z
 ne:=fun h tp dd its n sl X p=>by
  obtain ⟨cd,z⟩:=Option.isSome_iff_exists.mp hc
  refine Bool.eq_false_iff.mpr fun q=>?_
  obtain rfl:C=tp:=Value.ref.inj (beq_iff_eq.mp q)
  unfold PySem.W.clsIn at z
  split at z
  ·rename_i y
   cases (X _ _ y).symm.trans p
  ·cases z
 ca:=fun X p k=>by
  obtain ⟨o,p1,p2⟩:=p
  exact Qb X c (fun M=>p2 ▸ (PySem.W.Looks.ld p1).andThen .now) k
end
end L2
namespace L2
open PySem PySem.Spec PyProof.Rows
section
variable {X:Cx} {pins:List (Addr × Obj)} {σ:St} {H:Hp} {s:Shared}
theorem Inv.land {h2:Heap} {cs:List Addr} (hex:X.ex=[]) (I:Inv X pins σ H s) (hcs:∀ b∈cs,H b=none∧X.s₀.heap.get? b=none) (hcp:∀ b∈cs,∀ p∈X.pn ++ pins,p.1≠b)
  (hB:∀ b o,s.heap.get? b=some o→b ∉ frs X.stack→b ∉ cs→h2.get? b=some o) (sm:s.heap.UpToSlots h2):Inv X pins σ H { s with heap:=h2 }:=by
 have hF:∀ b o,s.heap.get? b=some o→b∈frs X.stack→∃ sl,h2.get? b=some { o with slots:=sl }:=fun b o q hb=>by
  obtain ⟨o',q',nf⟩:=I.stackFields hb
  rw [q] at q';cases q'
  exact sm b o q nf
 obtain ⟨r1,r2⟩:=I.behind hex hcs hB hF
 have ce:∀ c v,s.heap.IsCell c v→h2.IsCell c v:=fun c v ⟨o,ho,hd⟩=>by
  obtain ⟨sl,q⟩:=sm c o ho fun vs z=>by rw [hd] at z;cases z
  exact ⟨_,q,hd⟩
 refine ⟨I.ok,I.os,I.bare,by rw [hex];exact r1,?_,fun x c e=>?_,I.free,I.freeC,fun p hp=>?_,r2,I.len⟩
 ·obtain ⟨m,hn,hl⟩:=I.loc
  refine ⟨m,sm.ns hn,fun i x v e1 e2 e3=>?_⟩
  obtain ⟨u,r,l⟩:=hl i x v e1 e2 e3
  refine ⟨u,r,?_⟩
  rcases l with l | ⟨k,c,e,z⟩
  ·exact .inl l
  ·exact .inr ⟨k,c,e,ce c _ z⟩
 ·obtain ⟨v,z⟩:=I.cell x c e
  exact ⟨v,ce c v z⟩
 ·obtain ⟨e,n,ne,nf,d⟩:=I.pin p hp
  exact ⟨hB _ _ e (fun z=>(List.mem_cons.mp (I.stkSub _ z)).elim ne nf) fun z=>hcp _ z p hp rfl,n,ne,nf,d⟩
theorem Inv.track {e:Addr} {φ:Heap→Prop} (I:Inv X pins σ H s) (hn:H e=none) (h0:X.s₀.heap.get? e=none) (hex:X.ex=[]) (hL:e≠X.env.locals) (hc:∀ x c,X.env.cells.lookup x=some c→c≠e) (hp:∀ p∈X.pn ++ pins,p.1≠e)
  (ok:φ s.heap∧(∃ o,s.heap.get? e=some o)∧∀ h1 h2:Heap,φ h1→(∀ o,h1.get? e=some o→h2.get? e=some o)→φ h2):Inv X pins σ (upd H e (.ext φ)) s:=by
 have ne:∀ b u,H b=some u→b≠e:=fun b u q z=>by rw [z,hn] at q;cases q
 have B:=I.base
 refine ⟨I.ok,I.os,I.bare,⟨B.keep,B.slot,fun b o q n x=>?_,B.there,fun b xs q=>?_,fun b o u q=>?_,fun b ps q=>?_⟩,I.loc,I.cell,?_,fun x c q=>?_,fun p q=>?_,fun b u q=>?_,I.len⟩
 ·rw [zw fun z=>by rw [z,h0] at q;cases q];exact B.free b o q n x
 ·have z:=B.tups b xs q
  rw [zw (ne _ _ z)];exact z
 ·have z:=B.frzs b o u q
  rw [zw (ne _ _ z)];exact z
 ·obtain ⟨m,z⟩:=B.tbls b ps q
  exact ⟨m,by rw [zw (ne _ _ z)];exact z⟩
 ·rw [zw (Ne.symm hL)];exact I.free
 ·rw [zw (hc x c q)];exact I.freeC x c q
 ·obtain ⟨z1,z2,z3,z4,z5⟩:=I.pin p q
  exact ⟨z1,by rw [zw (hp p q)];exact z2,z3,z4,z5⟩
 ·by_cases hb:b=e
  ·subst hb
   rw [zd] at q;cases q
   exact ok
  ·rw [zw hb] at q
   exact (I.hok b u q).stay (fun c v _ z=>z) (fun c z=>by rw [zw (ne _ _ z)];exact z) fun c xs z=>by rw [zw (ne _ _ z)];exact z
theorem Inv.forget {h':Heap} {t':Nat} {i:Nat} {n:Str} {m:Str→Option Value} {v:Option Value} (I:Inv X pins σ H s) (hN:X.N.Nodup) (hi:X.N[i]?=some n)
  (hm:s.heap.Ns X.env.locals m) (hl:∀ (i:Nat) (x:Str) (v:V),X.N[i]?=some x→σ[i]?=some (some v)→Vis X.env.scope x→∃ u,RelV v u∧zcB X.env s.heap m x u)
  (hn:h'.Ns X.env.locals (fun x=>if x=n then v else m x)) (hs:Heap.SameBut X.env.locals s.heap h'):Inv X pins (σ.set i none) H { s with heap:=h',toks:=t' }:=by
 have nL:∀ b o,X.s₀.heap.get? b=some o→b≠X.env.locals:=fun b o e=>Nat.ne_of_lt (Nat.lt_of_lt_of_le (Heap.lt_size e) I.ok.above)
 have hiσ:i < σ.length:=by rw [I.len];exact (List.getElem?_eq_some_iff.mp hi).1
 refine ⟨I.ok,I.os,I.bare,⟨fun b o e n hb hx=>(hs.2 b (nL b o e)).trans (I.base.keep b o e n hb hx),fun b o e n hb hx=>?_,I.base.free,fun b o e hx=>?_,I.base.tups,I.base.frzs,I.base.tbls⟩,⟨_,hn,fun j y w e1 e2 e3=>?_⟩,fun y c e=>?_,I.free,I.freeC,fun p hp=>?_,fun b u e=>?_,by simpa using I.len⟩
 ·obtain ⟨sl,e1⟩:=I.base.slot b o e n hb hx
  exact ⟨sl,(hs.2 b (nL b o e)).trans e1⟩
 ·obtain ⟨o',e1⟩:=I.base.there b o e hx
  exact ⟨o',(hs.2 b (nL b o e)).trans e1⟩
 ·by_cases hj:j=i
  ·subst hj
   rw [List.getElem?_set_self hiσ] at e2
   cases e2
  ·rw [List.getElem?_set_ne (Ne.symm hj)] at e2
   obtain ⟨u,r,q⟩:=hl j y w e1 e2 e3
   refine ⟨u,r,?_⟩
   rcases q with ⟨k,e⟩ | ⟨k,c,e,z⟩
   ·have:y≠n:=fun e=>hj (Xb hN e1 (e ▸ hi))
    exact .inl ⟨k,by simp [this,e]⟩
   ·exact .inr ⟨k,c,e,z.sameBut hs (I.cne y c e)⟩
 ·obtain ⟨w',z⟩:=I.cell y c e
  exact ⟨w',z.sameBut hs (I.cne y c e)⟩
 ·obtain ⟨e,n,ne,nf,d⟩:=I.pin p hp
  exact ⟨(hs.2 p.1 ne).trans e,n,ne,nf,d⟩
 ·refine (I.hok b u e).stay (fun c w' hc q=>(hs.2 c ?_).trans q) (fun _ q=>q) fun _ _ q=>q
  rintro rfl
  rcases hc with rfl | hc
  ·rw [I.free] at e;cases e
  ·rw [I.free] at hc;cases hc
end
def exO (e C:Addr):HO:=.ext fun h=>∃ o,h.get? e=some o∧o.cls=.ref C
abbrev Cx.sub (X:Cx) (e:Addr):Cx:={ X with A:=X.A.mark (some (.ref e)),calm:=false,xe:=fun _ _=>False }
section
variable {X:Cx} {pins:List (Addr × Obj)} {σ:St} {H:Hp} {s:Shared} {e:Addr}
theorem Inv.toSub (I:Inv X pins σ H s):Inv (X.sub e) pins σ H s :=
 ⟨⟨I.ok.mod,I.ok.kind,I.ok.glob,I.ok.blt,I.ok.above,I.ok.inj,I.ok.has,I.ok.cab,(fun z=>nomatch z),I.ok.frames,I.ok.stk,I.ok.exf,I.ok.bs,I.ok.bsz,I.ok.noex,I.ok.exfs,I.ok.funs,I.ok.frf⟩,I.os,I.bare,I.base,I.loc,I.cell,I.free,I.freeC,I.pin,I.hok,I.len⟩
theorem Inv.ofSub {J:Inv X pins σ H s} {σ':St} {H':Hp} {s':Shared} (I:Inv (X.sub e) pins σ' H' s'):Inv X pins σ' H' s' :=
 ⟨J.ok,I.os,I.bare,I.base,I.loc,I.cell,I.free,I.freeC,I.pin,I.hok,I.len⟩
end
abbrev EXK:=Value→St→Hp→Prop
def PX (X:Cx) (pins:List (Addr × Obj)) (EX:EXK):Value→Shared→Prop:=fun ev s'=>∃ e cls σ s1 H1 H',ev=.ref e∧Inv X pins σ H1 s1∧Inv X pins σ H' s'∧∃ od,XF s1.heap s'.heap H' e cls od∧EX cls σ H'
def PEX (X:Cx) (ex:Expr) (t:EXK→TE):Prop :=
 ∀ (pins:List (Addr × Obj)) (s:Shared) (σ:St) (H:Hp) (Q:VK) (EX:EXK),Inv X pins σ H s→t EX σ H Q→wpAny (model X.prog X.w) X.A (eval ex X.env) (EP X pins σ Q) (PX X pins EX) s
def PSX (X:Cx) (st:Stmt) (t:EXK→TS):Prop :=
 ∀ (pins:List (Addr × Obj)) (s:Shared) (σ:St) (H:Hp) (D:ke) (EX:EXK),Inv X pins σ H s→t EX D σ H→wpAny (model X.prog X.w) X.A (exec st X.env) (SP X pins D) (PX X pins EX) s
section
variable {X:Cx} {k:Nat} {f:Addr} {fd:FuncData} {ps:List Str} {sp:Sp} {x:Str} {p pos:Pos} {e:Expr} {es:List Expr} {t:TA}
def JI (sp:Sp) (ta:TA) (EX:EXK):TE:=fun σ H Q=>ta σ H fun vs H1=>sp (vs ++ []) H1 Q fun cls _ H2=>EX cls σ H2
theorem QZ (F:FnOk X.prog X.w X.K X.mg X.base (CX1 X.prog X.w) k f fd ps sp) (hr:Room k X.A) (hg:Gl X x) (hm:X.mg x=some (.ref f)) (hk:PySem.W.keepIn X.K (.ref f)=true) (hb:Binds X.K fd ps []) 
  (ha:PA X.nox (e :: es) t) (hdb:(x == ("__debug__":Str))=false:=by decide) (he:starEach (e :: es) X.env=(false,eval e X.env) :: starEach es X.env:=by rfl) (hpl:(backTo pos (starEach es X.env)).any (·.1)=false:=by rfl) :
  PEX X (.Call (.Name x p) (e :: es) [] pos) (JI sp t):=by
 intro pins s σ H Q EX I h
 refine wpAny_Call_Name_kw (x9 I hg hm ?_ hdb)
 refine PySem.W.callWith_K (h₀:=X.base) I.ok.mod.kin hk (wpAny_mono (ha pos pins s σ H _ (I.wish _) h) (fun us s1 ⟨vs,H1,I1',r,q⟩=>⟨I1'.kIn,?_⟩) fun _ _ z=>False.elim z) he hpl
 have I1:=I1'.unwish
 have r2:Vals (vs ++ []) (us ++ []):=r.append .nil
 have hl:(us ++ []).length=ps.length:=by rw [← r2.length];exact F.len _ _ _ _ q
 refine wpAny_call (codeAny_mono (F.run X.A X.stack s1 H1 ⟨us,[]⟩ (us ++ []) (vs ++ []) _ _ hr I1.env0 (hb s1 us I1.kIn hl) r2 q) fun r s' hq=>?_)
 cases r with
 | error ev =>
  obtain ⟨e,cls,od,H',rfl,os,bare,un,hok,xf,hE⟩:=hq
  exact ⟨e,cls,σ,s1,H1,H',rfl,I1,I1.call' (ch:=[]) os un hok bare (fun b z=>nomatch z),od,xf,hE⟩
 | ok fl =>
  cases fl with
  | ret u=>exact I1.after hq
  | next=>exact False.elim hq
  | brk=>exact False.elim hq
  | cont=>exact False.elim hq
end
section
variable {X:Cx} {ex:Expr} {tx:EXK→TE} {pos p1:Pos} {i:Nat} {y:Str}
def JJ (tx:EXK→TE) (EX:EXK):TS:=fun D σ H=>tx EX σ H fun _ H1=>D.nx σ H1
theorem Q0 (he:PEX X ex tx) (hs:swapsWith ex none pos.line X.env=pure false:=by rfl):PSX X (.Expr ex pos) (JJ tx):=by
 intro pins s σ H D EX I h
 exact wpAny_Expr_any (thn (he pins s σ H _ EX I h) fun v s1 ⟨x,H1,I1,r1,q1⟩=>⟨σ,H1,I1,q1⟩) I.quiet hs
def zdz (tx:EXK→TE) (EX:EXK):TS:=fun D σ H=>tx EX σ H D.rt
def zdA (tx:EXK→TE) (i:Nat) (EX:EXK):TS:=fun D σ H=>tx EX σ H fun v H1=>D.nx (σ.set i (some v)) H1
end
structure ExK (K:PySem.W.Frag) (C:Addr):Prop extends ExC K C where
 has:(PySem.W.clsIn K C).isSome=true
def zb5 (i:Nat) (D:ke):ke:={ nx:=fun σ H=>D.nx (σ.set i none) H,rt:=D.rt,bk:=fun σ H=>D.bk (σ.set i none) H,ct:=fun σ H=>D.ct (σ.set i none) H }
def zb6 (K:PySem.W.Frag) (tb:EXK→TS) (C0:Addr) (i:Nat) (th:TS):TS:=fun D σ H=>tb (fun cls σ1 H1=>∃ C,cls=.ref C∧ExK K C∧PySem.W.exmOne K (.ref C) (.ref C0)=some true ∧
 ∀ e,H1 e=none→th (zb5 i D) (σ1.set i (some (.ref e))) (upd H1 e (exO e C))) D σ H
section
variable {X:Cx} {st b₀:Stmt} {suite:List Stmt} {tb:EXK→TS} {th:TS} {c n:Str} {C0:Addr} {i:Nat} {np hpos pos:Pos}
theorem zb7 (hst:X.stack=X.env :: X.outer∧X.env.frame=some X.env.locals) (hex:X.ex=[]) (hN:X.N.Nodup) (hb:PSX X st tb) (hg:Gl X c) (hm:X.mg c=some (.ref C0)) (hi:X.N[i]?=some n) (hl:X.env.scope.names.lookup n=some .local)
  (hs:∀ e,PSs (X.sub e) (b₀ :: suite) th) (hdb:(c == ("__debug__":Str))=false:=by decide) :
  PS X (.Try [st] [.ExceptHandler (some (.Name c np)) (some n) (b₀ :: suite) hpos] [] [] pos) (zb6 X.K tb C0 i th):=by
 intro pins s σ H D I h
 refine wpAny_Try_except (wpAny_execs_cons (wpAny_mono (hb pins s σ H D _ I h) (fun f s1 q=>?_) fun ev s1 q=>?_))
 ·cases f with
  | next=>exact wpAny_execs_nil (wpAny_execs_nil q)
  | ret v=>exact q
  | brk=>exact q
  | cont=>exact q
 obtain ⟨e,cls,σ1,s0,H0,H1,rfl,I0,I1,od,xf,C,rfl,ek,hx,hth⟩:=q
 obtain ⟨oe,vs,a0,T,oT,ts,h1,h2,h3,h4,h5,h6,h7,h8,h9,h10,h11,h12,h13⟩:=xf
 have fr:s1.heap.FunFrames (PySem.W.hideAll s1.heap (frs X.stack ++ [e,T])) (X.env :: X.outer):=by
  have q:=PySem.W.funFrames_hide (as:=frs X.stack ++ [e,T]) I1.stack fun env he a ha=>List.mem_append_left _ (List.mem_filterMap.mpr ⟨env,he,ha⟩)
  rw [hst.1] at q ⊢
  exact q
 have two:∀ b∈[e,T],s0.heap.get? b=none∧H1 b=none:=fun b z=>by
  have z':b=e∨b=T:=by simpa using z
  rcases z' with rfl | rfl
  ·exact ⟨h9,h11⟩
  ·exact ⟨h10,h12⟩
 have hcs:∀ b∈[e,T],H1 b=none∧X.s₀.heap.get? b=none:=fun b z=>⟨(two b z).2,jc (I0.there0 hex) (two b z).1⟩
 have hcp:∀ b∈[e,T],∀ p∈X.pn ++ pins,p.1≠b:=fun b z p hp q=>by
  have:=(I0.pin p hp).1
  rw [q,(two b z).1] at this;cases this
 refine wpAny_looks_onW (base:=PySem.W.hideAll s1.heap (frs X.stack ++ [e,T])) (a0:=a0) (cls:=.ref C) (by rw [I1.ok.frames,hst.1]) hst.2
  ⟨fun b o q=>PySem.W.of_hideAll _ q,PySem.W.hideAll_none _ (List.mem_append_right _ (by simp)),fr,oe,vs,T,oT,ts,h1,h2,h3,h4,PySem.W.hideAll_none _ (List.mem_append_right _ (by simp)),h5,h6,h7,h8⟩ fun g4 held4 sm4=>?_
 refine wpAny_landsW held4 fun g5 fly5 sm5=>?_
 have hB:∀ {g:Heap},(PySem.W.hideAll s1.heap (frs X.stack ++ [e,T])).StaysIn g→∀ b o,s1.heap.get? b=some o→b ∉ frs X.stack→b ∉ [e,T]→g.get? b=some o :=
  fun {g} k b o q n1 n2=>k b o (PySem.W.hideAll_get _ q fun z=>(List.mem_append.mp z).elim n1 n2)
 have I5:Inv X pins σ1 H1 { s1 with heap:=g5 }:=I1.land hex hcs hcp (hB fly5.1) (sm4.trans sm5)
 have K5:=I5.kIn
 refine wpAny_handleBy_cons (codeAny_handlers_test ?_) (by intro q;cases q)
 refine x9 (X:=X.sub e) (I5.toSub (e:=e)) hg hm ?_ hdb
 have ty5:PySem.W.Looks (model X.prog X.w) g5 (typeOf (.ref e)) (.ref C):=by
  obtain ⟨o,p1,p2⟩:=fly5.there
  exact p2 ▸ (PySem.W.Looks.ld p1).andThen .now
 refine (PySem.W.exm_one K5 ty5 hx).here ?_
 refine codeAny_handlers_suite_as ?_
 refine lands_againW fly5 fun g6 fly6 sm6=>?_
 have I6:Inv X pins σ1 H1 { s1 with heap:=g6 }:=I1.land hex hcs hcp (hB fly6.1) ((sm4.trans sm5).trans sm6)
 have neL:e≠X.env.locals:=fun z=>by
  obtain ⟨m,⟨o,_,_,ho,_⟩,_⟩:=I0.loc
  rw [← z,h9] at ho;cases ho
 have neC:∀ x c,X.env.cells.lookup x=some c→c≠e:=fun x c q z=>by
  obtain ⟨v,o,ho,_⟩:=I0.cell x c q
  rw [z,h9] at ho;cases ho
 obtain ⟨o6,p6,q6⟩:=fly6.there
 have I7:Inv X pins σ1 (upd H1 e (exO e C)) { s1 with heap:=g6 }:=I6.track h11 (hcs e (by simp)).2 hex neL neC (hcp e (by simp))
  ⟨⟨o6,p6,q6⟩,⟨o6,p6⟩,fun a b ⟨o,z1,z2⟩ k=>⟨o,k o z1,z2⟩⟩
 refine kc (X:=X) (v:=.ref e) I7 hN hi (.inl hl) rfl (fun s8 I8=>?_) (.inr hl)
 refine wpAny_mono (hs e pins s8 _ _ _ I8.toSub (hth e h11)) (fun f s9 q=>?_) fun _ _ z=>False.elim z
 have hcls:(X.env.scope.kind == .class || (X.env.scope.kind == .module && X.env.locals != X.env.globals))=false:=by rw [I.ok.kind];rfl
 have go:∀ {σ9:St} {H9:Hp} {R:Shared→Prop},Inv (X.sub e) pins σ9 H9 s9→(∀ s',Inv X pins (σ9.set i none) H9 s'→R s') →
   wpAny (model X.prog X.w) X.A (do bindName X.env n .none;unbindBehindTheSuite X.env n hpos) (fun _ s3=>R s3) X.xe s9:=fun {σ9 H9 R} J k=>by
  have J':Inv X pins σ9 H9 s9:=Inv.ofSub (J:=I) J
  obtain ⟨m,hm9,hl9⟩:=J'.loc
  exact wpAny_nameGoes_keeps (Q:=fun _ s3=>R s3) hl hm9 hcls fun h' v a b=>k _ (J'.forget hN hi hm9 hl9 a b)
 cases f with
 | next =>
  obtain ⟨σ9,H9,J,z⟩:=q
  exact go (R:=fun s3=>SP X pins D .next s3) J fun s' J'=>⟨_,_,J',z⟩
 | brk =>
  obtain ⟨σ9,H9,J,z⟩:=q
  exact go (R:=fun s3=>SP X pins D .brk s3) J fun s' J'=>⟨_,_,J',z⟩
 | cont =>
  obtain ⟨σ9,H9,J,z⟩:=q
  exact go (R:=fun s3=>SP X pins D .cont s3) J fun s' J'=>⟨_,_,J',z⟩
 | ret u =>
  obtain ⟨v,σ9,H9,J,r,z⟩:=q
  exact go (R:=fun s3=>SP X pins D (.ret u) s3) J fun s' J'=>⟨v,_,_,J',r,z⟩
end
end L2
namespace L2
open PySem PySem.Spec PyProof.Rows
def zb8:V→Option Value
 | .ty T=>some (.type T)
 | .ref D=>some (.ref D)
 | _=>none
abbrev zb9 (K:PySem.W.Frag):RC:=fun xs H Q=>∃ a C c cv b,xs=[.ref a,c]∧H a=some (exO a C)∧ExK K C∧zb8 c=some cv∧PySem.W.kitOne K (.ref C) cv=some b∧Q (.bl b) H
abbrev Q1 (K:PySem.W.Frag):RC:=fun xs H Q=>∃ a C p,∃ cs:List Addr,∃ b,xs=[.ref a,.ref p]∧H a=some (exO a C)∧ExK K C∧H p=some (.tup (cs.map V.ref))∧PySem.W.kitAny K (.ref C) (cs.map Value.ref)=some b∧Q (.bl b) H
theorem WA:∀ {cs:List Addr} {us:List Value},Vals (cs.map V.ref) us→us=cs.map Value.ref
 | [],_,.nil=>rfl
 | c :: r,_,.cons h t=>by rw [WA t];cases h;rfl
section
variable {X:Cx}
theorem Q2 {P:Program} {w:World} {H:Hp} {h:Heap} {a C:Addr} (k:HOk P w H h) (e:H a=some (exO a C)):∃ o,h.get? a=some o∧o.cls=.ref C:=(k a _ e).1
theorem Q3:Zb X (.builtin "isinstance") (zb9 X.K):=by
 intro pins s σ H xs us Q I r h
 obtain ⟨a,C,c,cv,b,rfl,ha,ek,hc,hk,q⟩:=h
 obtain ⟨u,w',rfl,r1,r2⟩:=QC r
 cases r1
 have e2:w'=cv:=by
  cases c <;> simp only [zb8,Option.some.injEq,reduceCtorEq] at hc
  ·subst hc;exact r2
  ·subst hc;exact r2
 subst e2
 exact PySem.W.kia_one (VQ ek.toExC ek.has) I.kIn (Q2 I.hok ha) hk (fun z=>nomatch z) fun tk=>⟨.bl b,H,I.tok _,rfl,q⟩
theorem Qc:Zb X (.builtin "isinstance") (Q1 X.K):=by
 intro pins s σ H xs us Q I r h
 obtain ⟨a,C,p,cs,b,rfl,ha,ek,hp,hk,q⟩:=h
 obtain ⟨u,w',rfl,r1,r2⟩:=QC r
 cases r1
 cases r2
 obtain ⟨_,its,rv,o,o1,o2,n,o3⟩:=(show ObjOk X.prog X.w H s.heap p (.tup (cs.map V.ref)) from I.hok p _ hp)
 obtain rfl:=WA rv
 obtain ⟨oc,od,oda,osl⟩:=o
 obtain rfl:oc=.type "tuple":=o2
 obtain rfl:oda=.seq (cs.map Value.ref).toArray n:=o3
 exact PySem.W.kia_tup (VQ ek.toExC ek.has) I.kIn (Q2 I.hok ha) o1 hk (fun z=>nomatch z) fun tk=>⟨.bl b,H,I.tok _,rfl,q⟩
end
theorem zU {P:Program} {w:World} {X:Cx}:ku (CX1 P w) X E0:=fun _ _ _ _ _ _ _ h=>by
 obtain ⟨_,_,_,_,_,_,_,_,_,_,z⟩:=h
 exact z.elim
section
variable {P:Program} {w:World} {K:PySem.W.Frag} {mg:Str→Option Value} {base:Heap}
theorem Fun.ok1 {x qual:Str} {st:Stmt} {f:Addr} {fd:FuncData} {N ps:List Str} {k:Nat} {sp:Sp} (F:Fun K x qual st f fd) (S:zL N ps (zm st)) (len:∀ vs H Q E,sp vs H Q E→vs.length=ps.length)
  (hbody:∀ (cdv:Value) (A:Around) (outer:List Env) (s:Shared) (H:Hp) (vs:List V) (Q:VK) (E:XK),Room k (A.deeper (envOfC qual (zm st) s.heap.objs.size f cdv))→sp vs H Q E →
   ∃ t,PSs (v6 (CX1 P w) P w K mg base N qual (zm st) f cdv A outer s H E) (zJ st) t∧t { nx:=fun _ H'=>Q .non H',rt:=Q } (start N vs) H):FnOk P w K mg base (CX1 P w) (k + 1) f fd ps sp:=by
 obtain ⟨oc,od,kV,doc,pm,an,cdv,ct,osl,rfl,lk,hcd⟩:=F.ex
 exact zcF lk hcd S len fun A outer s H vs Q E hr hsp=>hbody cdv A outer s H vs Q E hr hsp
theorem Fun.ok0 {x qual:Str} {st:Stmt} {f:Addr} {fd:FuncData} {N ps:List Str} {k:Nat} {sp:Sp} (F:Fun K x qual st f fd) (S:zL N ps (zm st)) (len:∀ vs H Q E,sp vs H Q E→vs.length=ps.length)
  (hbody:∀ (cdv:Value) (A:Around) (outer:List Env) (s:Shared) (H:Hp) (vs:List V) (Q:VK) (E:XK),Room k (A.deeper (envOfC qual (zm st) s.heap.objs.size f cdv))→sp vs H Q E →
   ∃ t,PSs (v6 (CX1 P w) P w K mg base N qual (zm st) f cdv A outer s H E).nox (zJ st) t∧t { nx:=fun _ H'=>Q .non H',rt:=Q } (start N vs) H):FnOk P w K mg base (CX1 P w) (k + 1) f fd ps sp :=
 F.ok1 S len fun cdv A outer s H vs Q E hr h=>let ⟨t,a,b⟩:=hbody cdv A outer s H vs Q E hr h;⟨t,a.nox,b⟩
end
theorem walk_ofX {l:PySem.W.OpenLaw} {n k:Nat} {q:Program} {loose:List Str} {XP:(Str→Option Value)→Heap→Prop} {YP:World→Heap→Prop} {d:DefRec} {K:Params→PySem.W.Frag} {sp:PySem.W.Frag→Sp} {x:Str}
  (hn:l.most=some n) (hn2:n≤sizeLine) (hdf:d.params.defaults=[]) (hr:Room k callerA)
  (hY:∀ (w:World) (h:Heap),YP w h→(K w.params).In h)
  (F:∀ (w:World) (mg:Str→Option Value) (fa:Addr) (h:Heap),(K w.params).In h→h.Ns mainGlobals mg→mg d.name=some (.ref fa) →
   ∃ fd:FuncData,(∀ (s:Shared) (u:Value),BindsTo s fd ⟨[u],[]⟩ [(x,u)]) ∧
    ∀ base:Heap,(K w.params).In base→base.Ns mainGlobals mg→FnOk l.prog w (K w.params) mg base (CX1 l.prog w) k fa fd [x] (sp (K w.params)))
  (hsp:∀ (K:PySem.W.Frag) (H:Hp) (a:Addr) (ns:List Int),ns.length≤n→JD H→SqL K H a (ns.map V.int)→sp K [.ref a] H (fun v _=>v=.bl true) fun _ _ _=>False) :
  PySem.W.WalkO q loose XP YP l.row.toRowW d [] (fun f vs=>PySem.call f vs) :=
 Kr (K:=K) (CX:=fun w=>CX1 l.prog w) (sp:=fun w=>sp (K w.params)) hn hn2 hdf hr hY F (fun w H a ns h1 h2 h3=>hsp (K w.params) H a ns h1 h2 h3) fun _ _ _ _ _ z=>by
  obtain ⟨_,_,_,_,_,_,_,_,_,_,y⟩:=z
  exact y
end L2
namespace L2
open PySem
section
variable {σ:St} {H:Hp} {nx:St→Hp→Prop} {B:V→St→Hp→(St→Hp→Prop)→Prop}
theorem Zr {lo:Int} {n:Nat} (Pv:Nat→St→Hp→Prop) (h0:Pv 0 σ H) (hs:∀ i σ H,i < n→Pv i σ H→B (.int (lo + i)) σ H (Pv (i + 1))) (hd:∀ σ H,Pv n σ H→nx σ H) :
  ∃ W:Nat→Nat→St→Hp→Prop,(∃ m,W 0 m σ H)∧∀ i m σ H,W i m σ H→((Itr lo n).stop i H∧nx σ H)∨((Itr lo n).go i H∧∃ N:St→Hp→Prop,(∀ σ' H',N σ' H'→∃ m',m' < m∧W (i + 1) m' σ' H')∧∀ x H',(Itr lo n).yld i H x H'→B x σ H' N):=by
 refine ⟨fun i m σ H=>m=n - i∧i≤n∧Pv i σ H,⟨n,by simp,Nat.zero_le _,h0⟩,?_⟩
 rintro i m σ H ⟨rfl,hi,p⟩
 by_cases hlt:i < n
 ·refine .inr ⟨hlt,Pv (i + 1),fun σ' H' p'=>⟨n - (i + 1),by lia,rfl,hlt,p'⟩,?_⟩
  rintro x H' ⟨rfl,rfl⟩
  exact hs i σ _ hlt p
 ·obtain rfl:i=n:=by lia
  exact .inl ⟨Nat.le_refl _,hd σ H p⟩
theorem Qd {K:PySem.W.Frag} {a:Addr} (xs:List V) (Pv:Nat→St→Hp→Prop) (h0:Pv 0 σ H) (hl:∀ i σ H,Pv i σ H→SqL K H a xs) (hs:∀ i x σ H,xs[i]?=some x→Pv i σ H→B x σ H (Pv (i + 1))) (hd:∀ σ H,Pv xs.length σ H→nx σ H) :
  ∃ W:Nat→Nat→St→Hp→Prop,(∃ m,W 0 m σ H)∧∀ i m σ H,W i m σ H→((Itl K a).stop i H∧nx σ H)∨((Itl K a).go i H∧∃ N:St→Hp→Prop,(∀ σ' H',N σ' H'→∃ m',m' < m∧W (i + 1) m' σ' H')∧∀ x H',(Itl K a).yld i H x H'→B x σ H' N):=by
 refine ⟨fun i m σ H=>m=xs.length - i∧i≤xs.length∧Pv i σ H,⟨xs.length,by simp,Nat.zero_le _,h0⟩,?_⟩
 rintro i m σ H ⟨rfl,hi,p⟩
 have q:=hl i σ H p
 by_cases hlt:i < xs.length
 ·refine .inr ⟨⟨xs,xs[i],q,by simp [hlt]⟩,Pv (i + 1),fun σ' H' p'=>⟨xs.length - (i + 1),by lia,rfl,hlt,p'⟩,?_⟩
  rintro x H' ⟨rfl,y⟩
  exact hs i x σ _ (y xs q) p
 ·obtain rfl:i=xs.length:=by lia
  exact .inl ⟨⟨xs,q,Nat.le_refl _⟩,hd σ H p⟩
theorem VR {z:Str} (Pv:Nat→St→Hp→Prop) (h0:Pv 0 σ H) (hs:∀ i c σ H,z.cps[i]?=some c→Pv i σ H→B (.str ⟨#[c]⟩) σ H (Pv (i + 1))) (hd:∀ σ H,Pv z.cps.size σ H→nx σ H) :
  ∃ W:Nat→Nat→St→Hp→Prop,(∃ m,W 0 m σ H)∧∀ i m σ H,W i m σ H→((Its z).stop i H∧nx σ H)∨((Its z).go i H∧∃ N:St→Hp→Prop,(∀ σ' H',N σ' H'→∃ m',m' < m∧W (i + 1) m' σ' H')∧∀ x H',(Its z).yld i H x H'→B x σ H' N):=by
 refine ⟨fun i m σ H=>m=z.cps.size - i∧i≤z.cps.size∧Pv i σ H,⟨z.cps.size,by simp,Nat.zero_le _,h0⟩,?_⟩
 rintro i m σ H ⟨rfl,hi,p⟩
 by_cases hlt:i < z.cps.size
 ·refine .inr ⟨hlt,Pv (i + 1),fun σ' H' p'=>⟨z.cps.size - (i + 1),by lia,rfl,hlt,p'⟩,?_⟩
  rintro x H' ⟨rfl,c,hc,rfl⟩
  exact hs i c σ _ hc p
 ·obtain rfl:i=z.cps.size:=by lia
  exact .inl ⟨Nat.le_refl _,hd σ H p⟩
end
theorem VS {J:It} {D:Addr} {τ₀:St} {H1:Hp} {Q:Hp→Prop} {B:V→St→Hp→(V→St→Hp→Prop)→(St→Hp→Prop)→Prop} (n:Nat) (hn:n≤1000000) (C:St→Prop) (R:Nat→V→Prop) (hC:C τ₀)
  (go:∀ i H,Same H1 H→i < n→J.go i H) (stop:∀ H,Same H1 H→J.stop n H) (hD:H1 D=none)
  (hs:∀ i x τ H H',C τ→Same H1 H→i < n→J.yld i H x H'→B x τ H' (fun v τ' H4=>C τ'∧R i v∧Same H H4) (fun _ _=>False))
  (hd:∀ ys H,ys.length=n→(∀ i v,ys[i]?=some v→R i v)→Same H1 H→H D=some (.lst ys)→Q H) :
  ∃ W:Nat→Nat→List V→St→Hp→Prop,(∃ m,W 0 m [] τ₀ (upd H1 D (.lst [])))∧∀ i m ys τ H,W i m ys τ H→H D=some (.lst ys) ∧
  ((J.stop i H∧Q H)∨(J.go i H∧ys.length < sizeLine∧∃ N:V→St→Hp→Prop,
   (∀ v τ' H',N v τ' H'→H' D=some (.lst ys)∧∃ m',m' < m∧W (i + 1) m' (ys ++ [v]) τ' (upd H' D (.lst (ys ++ [v]))))∧∃ Nf:St→Hp→Prop,(∀ τ' H',Nf τ' H'→∃ m',m' < m∧W (i + 1) m' ys τ' H') ∧
   ∀ x H',J.yld i H x H'→B x τ H' N Nf)):=by
 have ext:∀ {H:Hp} {o:HO},Same H1 H→Same H1 (upd H D o):=fun {H o} h b u e=>by
  rw [zw (zS e hD)];exact h b u e
 refine ⟨fun i m ys τ H=>m=n - i∧i≤n∧ys.length=i∧(∀ j v,ys[j]?=some v→R j v)∧Same H1 H∧H D=some (.lst ys)∧C τ,⟨n,by simp,Nat.zero_le _,rfl,by simp,ext (Same.refl _),zd,hC⟩,?_⟩
 rintro i m ys τ H ⟨rfl,hi,hl,hR,hS,hy,hc⟩
 refine ⟨hy,?_⟩
 by_cases hlt:i < n
 ·refine .inr ⟨go i H hS hlt,Nat.lt_of_le_of_lt (by lia:ys.length≤1000000) (by decide),(fun v τ' H4=>C τ'∧R i v∧Same H H4),?_,(fun _ _=>False),fun _ _ z=>z.elim,fun x H' y=>hs i x τ H H' hc hS hlt y⟩
  rintro v τ' H4 ⟨c4,r4,s4⟩
  refine ⟨s4 _ _ hy,n - (i + 1),by lia,rfl,hlt,by simp [hl],fun j u hj=>?_,ext (hS.trans s4),zd,c4⟩
  rcases Nat.lt_trichotomy j ys.length with h | h | h
  ·exact hR j u (by rwa [List.getElem?_append_left h] at hj)
  ·subst h
   simp at hj
   subst hj
   rw [hl];exact r4
  ·rw [List.getElem?_eq_none (by simp;lia)] at hj;cases hj
 ·obtain rfl:i=n:=by lia
  exact .inl ⟨stop H hS,hd ys H hl hR hS hy⟩
theorem WZ (n d:Nat) (v:Int):max (0:Int) (min (if v < 0 then v + n else v) n)=((HT.sIx n d (some v):Nat):Int):=by
 show _=(((if v < 0 then (v + (n:Int)).toNat else min v.toNat n):Nat):Int)
 by_cases hv:v < 0
 ·simp only [if_pos hv];lia
 ·simp only [if_neg hv];lia
theorem zbd (a b:Nat):sliceRange (a:Int) (b:Int) 1=(List.range (b - a)).map fun k=>a + k:=by
 simp only [sliceRange,show ((1:Int) > 0)=True from by simp,if_true]
 by_cases hlt:(a:Int) < b
 ·have e3:(((b:Int) - a + 1 - 1) / 1).toNat=b - a:=by rw [Int.ediv_one];lia
  simp only [hlt,if_true,e3]
  refine List.map_congr_left fun k _=>?_
  lia
 ·have:b - a=0:=by lia
  simp [hlt,this]
theorem Q4 (lo hi:Option Int) (n:Nat):Builtin.Str.strSliceIndices lo hi 1 n=(List.range (HT.sIx n n hi - HT.sIx n 0 lo)).map fun k=>HT.sIx n 0 lo + k:=by
 rw [← zbd]
 unfold Builtin.Str.strSliceIndices
 simp only [show ((1:Int) > 0)=True from by simp,if_true]
 cases lo with
 | none =>
  cases hi with
  | none=>rfl
  | some v=>simp only [WZ n n v];rfl
 | some u =>
  cases hi with
  | none=>simp only [WZ n 0 u];rfl
  | some v=>simp only [WZ n n v,WZ n 0 u]
theorem Yk (x:Str) (lo hi:Option Int):(Txt.slice x lo hi).cps.toList=(x.cps.toList.drop (HT.sIx x.length 0 lo)).take (HT.sIx x.length x.length hi - HT.sIx x.length 0 lo):=by
 have hb:=HT.sIx_le x.length x.length (Nat.le_refl _) hi
 have hn:x.cps.toList.length=x.length:=by simp [Str.length]
 unfold Txt.slice
 rw [Q4]
 split
 ·rename_i h
  have h':HT.sIx x.length x.length hi - HT.sIx x.length 0 lo=x.length:=by simpa using h
  have e0:HT.sIx x.length 0 lo=0∨x.length=0:=by lia
  rcases e0 with e0 | e0
  ·rw [e0,List.drop_zero,List.take_of_length_le]
   lia
  ·rw [List.eq_nil_of_length_eq_zero (by lia:x.cps.toList.length=0)];simp
 ·by_cases hab:HT.sIx x.length 0 lo≤HT.sIx x.length x.length hi
  ·have h:=StrLaws.picks x.cps.toList (HT.sIx x.length x.length hi - HT.sIx x.length 0 lo) (HT.sIx x.length 0 lo) (by lia)
   simpa using h
  ·have:HT.sIx x.length x.length hi - HT.sIx x.length 0 lo=0:=by lia
   rw [this];simp
theorem JK (x:Str) (k:Nat):(Txt.slice x (some (k:Int)) none).cps.toList=x.cps.toList.drop k:=by
 rw [Yk,HT.sIx_none,HT.sIx_nat]
 have hn:x.cps.toList.length=x.length:=by simp [Str.length]
 by_cases h:k≤x.length
 ·rw [Nat.min_eq_left h,List.take_of_length_le (by rw [List.length_drop];lia)]
 ·rw [List.drop_eq_nil_of_le (by lia:x.cps.toList.length≤k),Nat.min_eq_right (by lia),List.drop_eq_nil_of_le (by lia)];simp
theorem Q5 (x:Str) (k:Nat):(Txt.slice x none (some (k:Int))).cps.toList=x.cps.toList.take k:=by
 rw [Yk,HT.sIx_none,HT.sIx_nat,List.drop_zero,Nat.sub_zero]
 have hn:x.cps.toList.length=x.length:=by simp [Str.length]
 by_cases h:k≤x.length
 ·rw [Nat.min_eq_left h]
 ·rw [Nat.min_eq_right (by lia),List.take_of_length_le (by lia),List.take_of_length_le (by lia)]
theorem vE {x y:Str} (h:x.cps.toList=y.cps.toList):x=y:=by
 obtain ⟨a⟩:=x
 obtain ⟨b⟩:=y
 have:a=b:=Array.toList_inj.mp h
 rw [this]
theorem W0 (x y:Str):(x ++ y).cps.toList=x.cps.toList ++ y.cps.toList:=by
 show (x.cps ++ y.cps).toList=_
 simp
theorem Qe (x y:Str):(0 + y.length≤x.length && Builtin.Str.subAt x y 0)=(x.cps.toList.take y.length == y.cps.toList):=by
 rw [StrLaws.subAt_eq,List.drop_zero]
 have hn:x.cps.toList.length=x.length:=by simp [Str.length]
 have hm:y.cps.toList.length=y.length:=by simp [Str.length]
 by_cases h:y.length≤x.length
 ·simp [h]
 ·have e:(x.cps.toList.take y.length == y.cps.toList)=false:=by
   rw [beq_eq_false_iff_ne]
   intro e
   have:=congrArg List.length e
   rw [List.length_take] at this
   lia
  rw [e];simp
open PySem.NumText in
section
def v7 (w:Int):Str:=Str.ofString (toString w)
def dg (m:Nat):List Nat:=(Nat.toDigits 10 m).map Char.toNat
theorem xA {m:Nat} (h:m < 10):dg m=[48 + m]:=by
 unfold dg
 rw [Nat.toDigits_of_lt_base h]
 have:∀ d:Nat,d < 10→(Nat.digitChar d).toNat=48 + d:=by decide
 simp [this m h]
theorem qS {m:Nat} (h:10≤m):dg m=dg (m / 10) ++ [48 + m % 10]:=by
 have hm:m % 10 < 10:=Nat.mod_lt m (by decide)
 have t:Nat.toDigits 10 (m / 10) ++ Nat.toDigits 10 (m % 10)=Nat.toDigits 10 (10 * (m / 10) + m % 10):=Nat.toDigits_append_toDigits (by decide) (by lia) hm
 rw [Nat.div_add_mod] at t
 rw [← xA hm]
 unfold dg
 rw [← t,List.map_append]
theorem Yl (m:Nat):AllDigits (dg m):=by
 induction m using Nat.strongRecOn with
 | _ m ih =>
  by_cases h:m < 10
  ·rw [xA h]
   intro c hc
   have e:c=48 + m:=by simpa using hc
   lia
  ·rw [qS (by lia)]
   intro c hc
   rcases List.mem_append.mp hc with hc | hc
   ·exact ih (m / 10) (by lia) c hc
   ·have e:c=48 + m % 10:=by simpa using hc
    lia
theorem VT (m:Nat):dg m≠[]:=by
 by_cases h:m < 10
 ·rw [xA h];simp
 ·rw [qS (by lia)];simp
theorem Q6 (m:Nat):digitsVal (dg m)=m:=by
 induction m using Nat.strongRecOn with
 | _ m ih =>
  by_cases h:m < 10
  ·rw [xA h]
   show 0 * 10 + (48 + m - 48)=m
   lia
  ·rw [qS (by lia),digitsVal_snoc,ih (m / 10) (by lia)]
   lia
theorem Xp:∀ (k m:Nat),m < 10 ^ (k + 1)→(dg m).length≤k + 1
 | 0,m,h=>by rw [xA (by simpa using h)];simp
 | k + 1,m,h=>by
  by_cases hm:m < 10
  ·rw [xA hm];simp
  ·rw [qS (by lia),List.length_append]
   have:=Xp k (m / 10) (by rw [Nat.pow_succ] at h;lia)
   simp only [List.length_cons,List.length_nil]
   lia
theorem wx (m:Nat):(v7 (m:Int)).cps.toList=dg m:=by
 unfold v7
 rw [Str.ofString_eq_toList]
 show (Nat.repr m).toList.map Char.toNat=_
 rw [Nat.toList_repr]
 rfl
theorem jp {m:Nat} (h:0 < m):(v7 (-(m:Int))).cps.toList=45 :: dg m:=by
 obtain ⟨k,rfl⟩:∃ k,m=k + 1:=⟨m - 1,by lia⟩
 have e:(-((k + 1:Nat):Int))=Int.negSucc k:=by lia
 rw [e]
 unfold v7
 rw [Str.ofString_eq_toList]
 show (("-" ++ Nat.repr (k + 1)):String).toList.map Char.toNat=_
 rw [String.toList_append,List.map_append,Nat.toList_repr]
 rfl
theorem yK (x:Str):x.length=x.cps.toList.length:=by simp [Str.length]
theorem Q7 {w:Int} {k:Nat} (h:w.natAbs < 10 ^ (k + 1)):(v7 w).length≤k + 2:=by
 rw [yK]
 rcases Int.lt_or_le w 0 with h0 | h0
 ·obtain ⟨m,rfl,hm⟩:∃ m:Nat,w=-(m:Int)∧0 < m:=⟨w.natAbs,by lia,by lia⟩
  rw [jp hm,List.length_cons]
  have:=Xp k m (by lia)
  lia
 ·obtain ⟨m,rfl⟩:∃ m:Nat,w=(m:Int):=⟨w.natAbs,by lia⟩
  rw [wx]
  have:=Xp k m (by lia)
  lia
theorem JL {w:Int} (h:w.natAbs < 10 ^ 100):intText? (v7 w)=some w:=by
 have hl:(v7 w).length≤4300:=Nat.le_trans (Q7 (k:=99) h) (by decide)
 rcases Int.lt_or_le w 0 with h0 | h0
 ·obtain ⟨m,rfl,hm⟩:∃ m:Nat,w=-(m:Int)∧0 < m:=⟨w.natAbs,by lia,by lia⟩
  rw [intText_neg (jp hm) (Yl m) (VT m) hl,Q6]
 ·obtain ⟨m,rfl⟩:∃ m:Nat,w=(m:Int):=⟨w.natAbs,by lia⟩
  rw [intText_digits (by rw [wx];exact Yl m) (by rw [wx];exact VT m) hl,wx,Q6]
def inF (c:Nat):Bool:=!(Builtin.Str.occurrences "0123456789" ⟨#[c]⟩ 0 (Str.length "0123456789") 1).isEmpty
theorem W5 (c:Nat):inF c=true↔48≤c∧c≤57:=by
 unfold inF
 rw [StrLaws.found_one]
 have e:(Str.ofString "0123456789").cps.toList=[48,49,50,51,52,53,54,55,56,57]:=by decide +kernel
 rw [e]
 simp only [decide_eq_true_eq,List.mem_cons,List.not_mem_nil,or_false]
 omega
theorem zbe (c:Nat):(!(Builtin.Str.occurrences (Str.ofString "0123456789") ⟨#[c]⟩ 0 (Str.ofString "0123456789").length 1).isEmpty)=inF c:=rfl
def jN (x:Str):Bool:=!decide (x="") && x.cps.toList.all inF
theorem Ym (x:Str):jN x=true↔x.cps.toList≠[]∧AllDigits x.cps.toList:=by
 unfold jN
 rw [Bool.and_eq_true,Bool.not_eq_true',decide_eq_false_iff_not,List.all_eq_true]
 refine and_congr ⟨fun h e=>h (vE (by rw [e];decide +kernel)),fun h e=>h (by rw [e];decide +kernel)⟩ ?_
 exact forall_congr' fun c=>forall_congr' fun _=>W5 c
def inW (i:Int):Bool:=decide (-1000000000000000000000000000000≤i∧i≤1000000000000000000000000000000)
def y9 (x:Str):Str:=if (x.cps.toList.take 1 == [45])=true then Txt.slice x (some 1) none else x
theorem je (x:Str):(∃ cs,x.cps.toList=45 :: cs∧(y9 x).cps.toList=cs)∨((∀ cs,x.cps.toList≠45 :: cs)∧y9 x=x):=by
 unfold y9
 cases h:x.cps.toList with
 | nil=>exact .inr ⟨(fun cs e=>nomatch e),if_neg (by simp)⟩
 | cons c cs =>
  by_cases hc:c=45
  ·subst hc
   refine .inl ⟨cs,rfl,?_⟩
   rw [if_pos (by simp)]
   have:=JK x 1
   rw [h] at this
   exact this
  ·refine .inr ⟨fun ds e=>hc (List.cons.inj e).1,?_⟩
   rw [if_neg (by simp [hc])]
def wV (x:Str):Int:=(intText? x).getD 0
theorem Xq {x:Str} (h:jN (y9 x)=true) (hl:x.length≤4300):intText? x=some (wV x):=by
 obtain ⟨h1,h2⟩:=(Ym _).mp h
 unfold wV
 rcases je x with ⟨cs,e,ef⟩ | ⟨_,ef⟩
 ·rw [ef] at h1 h2
  rw [intText_neg e h2 h1 hl];rfl
 ·rw [ef] at h1 h2
  rw [intText_digits h2 h1 hl];rfl
def xb (x:Str):Bool:=!(decide (31 < (y9 x).length) || !jN (y9 x)) && (inW (wV x) && decide (v7 (wV x)=x))
theorem qT (x:Str):x.length≤(y9 x).length + 1:=by
 rw [yK,yK]
 rcases je x with ⟨cs,e,ef⟩ | ⟨_,ef⟩
 ·rw [e,ef];simp
 ·rw [ef];lia
theorem VU (x:Str):(y9 x).length≤x.length:=by
 unfold y9
 split
 ·exact Txt.slice_le x _ _
 ·exact Nat.le_refl _
theorem Xr {w:Int} (h:inW w=true):xb (v7 w)=true∧wV (v7 w)=w∧(v7 w).length≤40:=by
 have hw:-1000000000000000000000000000000≤w∧w≤1000000000000000000000000000000:=of_decide_eq_true h
 have hr:=JL (w:=w) (Nat.lt_of_le_of_lt (by lia:w.natAbs≤1000000000000000000000000000000) (by decide +kernel))
 have hv:wV (v7 w)=w:=by unfold wV;rw [hr];rfl
 have hf:(y9 (v7 w)).length≤31∧jN (y9 (v7 w))=true:=by
  rw [Ym,yK]
  rcases Int.lt_or_le w 0 with h0 | h0
  ·obtain ⟨m,rfl,hm⟩:∃ m:Nat,w=-(m:Int)∧0 < m:=⟨w.natAbs,by lia,by lia⟩
   rcases je (v7 (-(m:Int))) with ⟨cs,e,ef⟩ | ⟨e,_⟩
   ·rw [jp hm] at e
    rw [ef,← (List.cons.inj e).2]
    exact ⟨Xp 30 m (by lia),VT m,Yl m⟩
   ·exact absurd (jp hm) (e _)
  ·obtain ⟨m,rfl⟩:∃ m:Nat,w=(m:Int):=⟨w.natAbs,by lia⟩
   rcases je (v7 (m:Int)) with ⟨cs,e,ef⟩ | ⟨_,ef⟩
   ·have:=Yl m 45 (by rw [← wx,e];simp)
    lia
   ·rw [ef,wx]
    exact ⟨Xp 30 m (by lia),VT m,Yl m⟩
 refine ⟨?_,hv,Nat.le_trans (qT _) (by lia)⟩
 unfold xb
 rw [hv,hf.2,h,decide_eq_false (by lia:¬ 31 < (y9 (v7 w)).length),decide_eq_true rfl]
 rfl
end
end L2
namespace L2
open PySem PySem.Spec PyProof.Rows
def zcI (x y:Str):Int:=match Builtin.Str.occurrences x y 0 x.length 1 with | i :: _=>(i:Int) | []=>-1
abbrev zcz:RM:=fun x xs H Q=>∃ a b,x=.str a∧xs=[.str b]∧Q (.int (zcI a b)) H
def Ky (sep:Str):List Str→Str
 | [p]=>p
 | l=>Builtin.Str.glued sep l
def JM (sep:Str) (ls:List Str):Nat:=ls.foldl (fun n p=>n + p.length + sep.length) 0
abbrev yV (K:PySem.W.Frag):RM:=fun x xs H Q=>∃ sep a ls,x=.str sep∧xs=[.ref a]∧SqL K H a (ls.map V.str)∧JM sep ls≤sizeLine∧Q (.str (Ky sep ls)) H
theorem W6 (sep:Str):∀ (ls:List Str) (k:Nat),ls.foldl (fun n p=>n + p.length + sep.length) k=k + (ls.map (·.length)).sum + ls.length * sep.length
 | [],k=>by simp
 | p :: r,k=>by
  rw [List.foldl_cons,W6 sep r,List.map_cons,List.sum_cons,List.length_cons,Nat.add_mul,Nat.one_mul]
  lia
theorem Qf (sep:Str) (ls:List Str):(Ky sep ls).length≤JM sep ls:=by
 unfold JM
 rw [W6]
 have g:(Builtin.Str.glued sep ls).length≤0 + (ls.map (·.length)).sum + ls.length * sep.length:=by
  rw [size_glued]
  have:(ls.length - 1) * sep.length≤ls.length * sep.length:=Nat.mul_le_mul_right _ (by lia)
  lia
 unfold Ky
 split
 ·simp only [List.map_cons,List.map_nil,List.sum_cons,List.sum_nil,List.length_cons,List.length_nil];lia
 ·exact g
theorem WB:∀ {ls:List Str} {us:List Value},Vals (ls.map V.str) us→∃ l:List (Str × Tok),us=strValues l∧l.map (·.1)=ls
 | [],_,.nil=>⟨[],rfl,rfl⟩
 | x :: r,_,.cons h t=>by
  obtain ⟨l,rfl,e⟩:=WB t
  obtain ⟨k,rfl⟩:=h
  exact ⟨(x,k) :: l,rfl,by rw [List.map_cons,e]⟩
def ZV (x:Str) (n:Int):Str:=if n < 1 then Str.empty else if (n == 1 || x.length == 0)=true then x else ⟨(List.replicate n.toNat x.cps).foldl (· ++ ·) #[]⟩
abbrev jO:R2:=fun x y H Q=>∃ a n,x=.str a∧y=.int n∧(n < 1000000∧-1000000 < n∧a.length * n.toNat≤1000000)∧Q (.str (ZV a n)) H
theorem Kz (a:Array Nat):∀ (k:Nat) (b:Array Nat),((List.replicate k a).foldl (· ++ ·) b).toList=b.toList ++ (List.replicate k a.toList).flatten
 | 0,b=>by simp
 | k + 1,b=>by
  rw [List.replicate_succ,List.foldl_cons,Kz a k,List.replicate_succ]
  simp
theorem VV (x:Str) (n:Int):(ZV x n).cps.toList=(List.replicate n.toNat x.cps.toList).flatten:=by
 unfold ZV
 split
 ·have:n.toNat=0:=by lia
  rw [this];rfl
 ·split
  ·rename_i h1 h2
   rw [Bool.or_eq_true,beq_iff_eq,beq_iff_eq] at h2
   rcases h2 with rfl | h2
   ·simp
   ·have e:x.cps.toList=[]:=List.eq_nil_of_length_eq_zero (by rw [← h2];simp [Str.length])
    rw [e]
    simp
  ·rw [Kz];simp
theorem VW {α:Type} (a:List α):∀ k:Nat,(List.replicate k a).flatten.length=a.length * k
 | 0=>by simp
 | k + 1=>by rw [List.replicate_succ,List.flatten_cons,List.length_append,VW a k,Nat.mul_succ];lia
theorem qh (x:Str) (n:Int):(ZV x n).length=x.length * n.toNat:=by
 have e:∀ y:Str,y.length=y.cps.toList.length:=fun y=>by simp [Str.length]
 rw [e,VV,VW,← e]
section
variable {X:Cx}
theorem Y6:MtR X "str.join" (yV X.K):=by
 intro pins s σ H x xs v us Q I rx rs h
 obtain ⟨sep,a,ls,rfl,rfl,hq,hl,q⟩:=h
 obtain ⟨t,rfl⟩:=rx
 obtain ⟨u,rfl,r1⟩:=ZM rs
 cases r1
 obtain ⟨its,rv,p,hz⟩:=I.list hq
 obtain ⟨l,rfl,e⟩:=WB rv
 have tl:Builtin.Str.tooLong ((l.map (·.1)).toArray.foldl (· + ·.length + sep.length) 0)=false:=by
  rw [e,List.foldl_toArray]
  unfold Builtin.Str.tooLong
  exact decide_eq_false (by unfold JM at hl;lia)
 have jl:=Qf sep ls
 refine call_meets F.slot_str_join (typeIs_str s sep t) F.entry_str_join (F.args_str_join_2 _ _) (meets_str_join_list sep t a l tl) ⟨p.isList,?_⟩
 subst e
 match l,q,jl,hl with
 | [],q,jl,hl=>exact ⟨Nat.le_trans jl hl,.str _,H,I.tok _,⟨_,rfl⟩,q⟩
 | [p],q,jl,hl=>exact ⟨.str p.1,H,I,⟨_,rfl⟩,q⟩
 | p :: p' :: r,q,jl,hl=>exact ⟨Nat.le_trans jl hl,.str _,H,I.tok _,⟨_,rfl⟩,q⟩
theorem kA:OpR X (binaryOp .Mult) jO:=by
 intro pins s σ H x y v u Q I rx ry h
 obtain ⟨a,n,rfl,rfl,⟨h1,h2,h3⟩,q⟩:=h
 obtain ⟨t,rfl⟩:=rx
 obtain ⟨t',rfl⟩:=ry
 have hs:sizeLine=16777216:=sizeLine_eq
 have ln:=qh a n
 refine P.mul_str (by rw [decide_eq_false (by lia),decide_eq_false (by lia)];rfl) (fun c1 c2=>?_) (fun c1 c2=>?_) ?_
 ·have m:(a.length:Int) * n≤1000000:=by
   have:((a.length * n.toNat:Nat):Int)≤1000000:=by lia
   rw [Int.natCast_mul,Int.toNat_of_nonneg (by lia)] at this
   exact this
  intro c
  have c':(2 ^ 63 - 1) / n < (a.length:Int):=c
  have:=(Int.ediv_lt_iff_lt_mul (by lia)).mp c'
  lia
 ·unfold Builtin.Str.tooLong
  exact decide_eq_false (by lia)
 ·unfold ZV at ln q
  split
  ·rename_i c
   rw [if_pos c] at q
   exact ⟨by decide,.str _,H,I.tok _,⟨_,rfl⟩,q⟩
  ·rename_i c
   rw [if_neg c] at q ln
   split
   ·rename_i c2
    rw [if_pos c2] at q
    exact ⟨.str a,H,I,⟨_,rfl⟩,q⟩
   ·rename_i c2
    rw [if_neg c2] at q ln
    exact ⟨by rw [ln];lia,.str _,H,I.tok _,⟨_,rfl⟩,q⟩
end
theorem Asc.app {x y:Str} (h:Asc x) (h':Asc y):Asc (x ++ y):=fun c hc=>by
 rw [W0] at hc
 exact (List.mem_append.mp hc).elim (h c) (h' c)
theorem Asc.sl {x:Str} (h:Asc x) (lo hi:Option Int):Asc (Txt.slice x lo hi):=fun c hc=>by
 rw [Yk] at hc
 exact h c (List.mem_of_mem_drop (List.mem_of_mem_take hc))
theorem Asc.rep {x:Str} (h:Asc x) (n:Int):Asc (ZV x n):=fun c hc=>by
 rw [VV] at hc
 obtain ⟨l,hl,hc⟩:=List.mem_flatten.mp hc
 rw [(List.mem_replicate.mp hl).2] at hc
 exact h c hc
theorem Asc.num (w:Int):Asc (v7 w):=fun c hc=>by
 have d:∀ (m c:Nat),c∈dg m→c < 128:=fun m c h=>by have:=Yl m c h;lia
 rcases Int.lt_or_le w 0 with h0 | h0
 ·obtain ⟨m,rfl,hm⟩:∃ m:Nat,w=-(m:Int)∧0 < m:=⟨w.natAbs,by lia,by lia⟩
  rw [jp hm] at hc
  rcases List.mem_cons.mp hc with rfl | hc
  ·decide
  ·exact d m c hc
 ·obtain ⟨m,rfl⟩:∃ m:Nat,w=(m:Int):=⟨w.natAbs,by lia⟩
  rw [wx] at hc
  exact d m c hc
theorem Asc.one {c:Nat} (h:c < 128):Asc ⟨#[c]⟩:=fun d hd=>by
 have e:d=c:=by simpa using hd
 lia
theorem zG (x y:Str):(x ++ y).length=x.length + y.length:=Str.length_append x y
end L2
namespace L2
open PySem PySem.Spec PyProof.Rows
section
open PySem.NumText
theorem zbf:∀ {v:Nat} {r:List Nat},dg v=48 :: r→v=0:=by
 intro v
 induction v using Nat.strongRecOn with
 | _ v ih =>
  intro r h
  by_cases hv:v < 10
  ·rw [xA hv] at h
   have:=(List.cons.inj h).1
   lia
  ·rw [qS (by lia)] at h
   cases e:dg (v / 10) with
   | nil=>exact absurd e (VT _)
   | cons a l =>
    rw [e] at h
    have ha:a=48:=(List.cons.inj h).1
    subst ha
    have:=ih (v / 10) (by lia) e
    lia
theorem zbG:∀ (n:Nat) {d:List Nat},d.length=n→AllDigits d→d≠[]→d.head?≠some 48→dg (digitsVal d)=d
 | 0,d,hn,_,h2,_=>absurd (List.eq_nil_of_length_eq_zero hn) h2
 | n + 1,d,hn,h1,h2,h3=>by
  obtain ⟨e,c,rfl⟩:∃ e c,d=e ++ [c]:=⟨d.dropLast,d.getLast h2,(List.dropLast_concat_getLast h2).symm⟩
  have hc:=h1 c (by simp)
  rw [digitsVal_snoc]
  by_cases he:e=[]
  ·subst he
   show dg (0 * 10 + (c - 48))=[c]
   rw [xA (by lia)]
   congr 1
   lia
  ·have hh:e.head?≠some 48:=fun z=>h3 (by rw [List.head?_append,z];rfl)
   have ih:=zbG n (d:=e) (by simpa using hn) (fun x hx=>h1 x (List.mem_append_left _ hx)) he hh
   have h0:digitsVal e≠0:=fun z=>by
    rw [z,xA (by decide)] at ih
    exact hh (by rw [← ih];rfl)
   rw [qS (by lia)]
   have e1:(digitsVal e * 10 + (c - 48)) / 10=digitsVal e:=by lia
   have e2:48 + (digitsVal e * 10 + (c - 48)) % 10=c:=by lia
   rw [e1,e2,ih]
def fig (x:Str):List Nat:=(y9 x).cps.toList
theorem zero_cps:(Str.ofString "0").cps.toList=[48]:=by decide +kernel
theorem zbg {x:Str} (hl:x.length≤1000) (h1:AllDigits (fig x)) (h2:fig x≠[]):wV x=if x=y9 x then (digitsVal (fig x):Int) else -(digitsVal (fig x):Int):=by
 unfold fig at *
 unfold wV
 rcases je x with ⟨cs,e,ef⟩ | ⟨_,ef⟩
 ·rw [ef] at h1 h2
  rw [ef,intText_neg e h1 h2 (by lia),if_neg]
  ·rfl
  ·intro z
   have:=congrArg (fun y:Str=>y.cps.toList.length) z
   simp only [ef] at this
   rw [e,List.length_cons] at this
   lia
 ·rw [ef] at h1 h2
  rw [ef,if_pos rfl,intText_digits h1 h2 (by lia)]
  rfl
theorem zbh {x:Str} (hl:x.length≤1000):xb x=true↔(fig x≠[]∧(fig x).length≤31∧AllDigits (fig x)∧¬ ((fig x).head?=some 48∧x≠"0")∧digitsVal (fig x)≤1000000000000000000000000000000):=by
 have A:xb x=true↔((fig x).length≤31∧(fig x≠[]∧AllDigits (fig x))∧inW (wV x)=true∧v7 (wV x)=x):=by
  unfold xb fig
  rw [Bool.and_eq_true,Bool.and_eq_true,Bool.not_eq_true',Bool.or_eq_false_iff,decide_eq_false_iff_not,decide_eq_true_eq,Bool.not_eq_false',Ym,yK,Nat.not_lt,and_assoc]
 rw [A]
 have key:fig x≠[]→AllDigits (fig x)→((inW (wV x)=true∧v7 (wV x)=x)↔(¬ ((fig x).head?=some 48∧x≠"0")∧digitsVal (fig x)≤1000000000000000000000000000000)):=fun h2 h1=>by
  have hv:=zbg hl h1 h2
  have dgo:(fig x).head?≠some 48→dg (digitsVal (fig x))=fig x:=zbG _ rfl h1 h2
  have dgb:dg (digitsVal (fig x))=fig x→(fig x).head?=some 48→fig x=[48]:=fun e z=>by
   cases hd:fig x with
   | nil=>exact absurd hd h2
   | cons a r =>
    rw [hd] at z
    have:a=48:=by simpa using z
    subst this
    have v0:=zbf (e.trans hd)
    rw [v0,xA (by decide)] at e
    rw [← hd,← e]
  have inw:inW (wV x)=true↔digitsVal (fig x)≤1000000000000000000000000000000:=by
   unfold inW
   rw [decide_eq_true_eq,hv]
   split <;> lia
  rw [inw,and_comm]
  refine and_congr_left fun _=>?_
  unfold fig at *
  rcases je x with ⟨cs,e,ef⟩ | ⟨_,ef⟩
  ·have hne:¬ x=y9 x:=fun z=>by
    have:=congrArg (fun y:Str=>y.cps.toList.length) z
    simp only [ef] at this
    rw [e,List.length_cons] at this
    lia
   rw [hv,if_neg hne]
   rw [ef] at dgo dgb ⊢
   have x0:x≠"0":=fun z=>by
    have:=e.symm.trans ((congrArg (fun y:Str=>y.cps.toList) z).trans zero_cps)
    cases this
   constructor
   ·intro h z
    by_cases v0:digitsVal cs=0
    ·rw [v0] at h
     have:=(wx 0).symm.trans (congrArg (fun y:Str=>y.cps.toList) h)
     rw [e,xA (by decide)] at this
     cases this
    ·have:=(jp (m:=digitsVal cs) (by lia)).symm.trans (congrArg (fun y:Str=>y.cps.toList) h)
     rw [e] at this
     have q:=(List.cons.inj this).2
     have q2:=dgb q z.1
     rw [q2] at v0
     exact v0 rfl
   ·intro h
    have hh:cs.head?≠some 48:=fun z=>h ⟨z,x0⟩
    have q:=dgo hh
    have v0:digitsVal cs≠0:=fun z=>by
     rw [z,xA (by decide)] at q
     exact hh (by rw [← q];rfl)
    exact vE (by rw [jp (by lia),e,q])
  ·rw [hv,if_pos ef.symm]
   rw [ef] at dgo dgb ⊢
   constructor
   ·intro h z
    have:=(wx _).symm.trans (congrArg (fun y:Str=>y.cps.toList) h)
    have q:=dgb this z.1
    exact z.2 (vE (q.trans zero_cps.symm))
   ·intro h
    refine vE ?_
    rw [wx]
    by_cases z:x.cps.toList.head?=some 48
    ·have:x="0":=Classical.not_not.mp fun w=>h ⟨z,w⟩
     rw [this,zero_cps]
     decide +kernel
    ·exact dgo z
 constructor
 ·rintro ⟨a,⟨b,c⟩,d⟩
  have:=(key b c).mp d
  exact ⟨b,a,c,this.1,this.2⟩
 ·rintro ⟨b,a,c,d,e⟩
  exact ⟨a,⟨b,c⟩,(key b c).mpr ⟨d,e⟩⟩
end
end L2
namespace L2
open PySem PySem.Spec PyProof.Rows
section
variable {X:Cx}
abbrev Zd:RC:=fun xs H Q=>∃ b:Bool,xs=[.bl b]∧Q (.int (if b then 1 else 0)) H
theorem VX:Zb X (.type "int") Zd:=by
 intro pins s σ H xs us Q I r h
 obtain ⟨b,rfl,q⟩:=h
 obtain ⟨u,rfl,r1⟩:=ZM r
 cases r1
 exact call_int_bool ⟨.int _,H,I.tok _,⟨_,rfl⟩,q⟩
end
theorem Yn {k:Nat} {A:Around} (r:Room k A):A.units + 64 < cLine:=by have:=r.un;lia
def k6:V→PyData
 | .non=>.none
 | .bl b=>.bool b
 | .int i=>.int i
 | .str x=>.str x
 | _=>.none
def yT:V→Bool
 | .non=>true
 | .bl _=>true
 | .int _=>true
 | .str x=>PyData.strOk x
 | _=>false
theorem Asc.flat {x:Str} (h:Asc x):yT (.str x)=true:=by
 unfold yT PyData.strOk
 rw [Array.all_eq_true]
 intro i hi
 have:=h x.cps[i] (by simp)
 exact decide_eq_true (by lia)
def zca:V→V→Bool
 | .bl _,.int _=>false
 | .int _,.bl _=>false
 | _,_=>true
def kB:List V→List V→Bool
 | x :: xs,y :: ys=>zca x y && kB xs ys
 | _,_=>true
theorem jq:∀ {xs:List V} {us:List Value},xs.all yT=true→Vals xs us→CarriedAll us (xs.map k6)
 | [],_,_,.nil=>.nil
 | x :: r,_,h,.cons rx t=>by
  rw [List.all_cons,Bool.and_eq_true] at h
  refine .cons ?_ (jq h.2 t)
  cases x with
  | non=>cases rx;exact .none
  | bl b=>cases rx;exact .bool b
  | int i=>obtain ⟨t,rfl⟩:=rx;exact .int i t
  | str x=>obtain ⟨t,rfl⟩:=rx;exact .str x t
  | byt b=>exact absurd h.1 (by simp [yT])
  | flt b=>exact absurd h.1 (by simp [yT])
  | ref a=>exact absurd h.1 (by simp [yT])
  | ty n=>exact absurd h.1 (by simp [yT])
theorem Q8 {x y:V} (hx:yT x=true) (hy:yT y=true):PySem.Spec.same (k6 x) (k6 y)=decide (x=y):=by
 cases x <;> cases y <;> simp_all [yT,k6,PySem.Spec.same] <;> (rename_i a b;by_cases e:a=b <;> simp [e])
theorem qj:∀ {xs ys:List V},xs.all yT=true→ys.all yT=true→PySem.Spec.sameAll (xs.map k6) (ys.map k6)=decide (xs=ys)
 | [],[],_,_=>by simp [PySem.Spec.sameAll]
 | [],_ :: _,_,_=>by simp [PySem.Spec.sameAll]
 | _ :: _,[],_,_=>by simp [PySem.Spec.sameAll]
 | x :: r,y :: t,hx,hy=>by
  rw [List.all_cons,Bool.and_eq_true] at hx hy
  rw [List.map_cons,List.map_cons,PySem.Spec.sameAll,Q8 hx.1 hy.1,qj hx.2 hy.2]
  by_cases a:x=y <;> by_cases b:r=t <;> simp [a,b]
theorem Qg {x y:V} (hx:yT x=true) (hy:yT y=true) (h:zca x y=true):SeqAt.noMix (k6 x) (k6 y)=true:=by
 cases x <;> cases y <;> simp_all [yT,k6,SeqAt.noMix,zca]
theorem kC:∀ {xs ys:List V},xs.all yT=true→ys.all yT=true→kB xs ys=true→SeqAt.noMixAll (xs.map k6) (ys.map k6)=true
 | [],[],_,_,_=>by simp [SeqAt.noMixAll]
 | [],_ :: _,_,_,_=>by simp [SeqAt.noMixAll]
 | _ :: _,[],_,_,_=>by simp [SeqAt.noMixAll]
 | x :: r,y :: t,hx,hy,h=>by
  rw [List.all_cons,Bool.and_eq_true] at hx hy
  rw [kB,Bool.and_eq_true] at h
  rw [List.map_cons,List.map_cons,SeqAt.noMixAll,Qg hx.1 hy.1 h.1,kC hx.2 hy.2 h.2]
  rfl
theorem kD {xs:List V} (h:xs.all yT=true):SeqAt.shaped (.list (xs.map k6))=true∧SeqAt.shaped (.tuple (xs.map k6))=true:=by
 have a:∀ x,yT x=true→(k6 x).canLay0=true∧(k6 x).depth=0:=fun x=>by cases x <;> simp [k6,PyData.canLay0,PyData.depth,yT]
 have l:∀ ys:List V,ys.all yT=true→PyData.canLayAll0 (ys.map k6)=true∧PyData.depthAll (ys.map k6)=0:=by
  intro ys
  induction ys with
  | nil=>exact fun _=>⟨rfl,rfl⟩
  | cons y r ih =>
   intro h
   rw [List.all_cons,Bool.and_eq_true] at h
   exact ⟨by rw [List.map_cons,PyData.canLayAll0,(a y h.1).1,(ih h.2).1];rfl,by rw [List.map_cons,PyData.depthAll,(a y h.1).2,(ih h.2).2];rfl⟩
 exact ⟨by simp [SeqAt.shaped,PyData.canLay0,PyData.depth,(l xs h).1,(l xs h).2],by simp [SeqAt.shaped,PyData.canLay0,PyData.depth,(l xs h).1,(l xs h).2]⟩
abbrev W7 (K:PySem.W.Frag) (neg:Bool):R2:=fun x y H Q=>∃ a b xs ys,x=.ref a∧y=.ref b∧SqL K H a xs∧SqL K H b ys∧(xs.all yT=true∧ys.all yT=true∧kB xs ys=true)∧Q (.bl (if neg then !decide (xs=ys) else decide (xs=ys))) H
section
variable {X:Cx}
theorem JN (hu:X.A.units + 64 < cLine):OpR X (compareOp .Eq) (W7 X.K false):=by
 intro pins s σ H x y v u Q I rx ry h
 obtain ⟨a,b,xs,ys,rfl,rfl,ha,hb,⟨f1,f2,f3⟩,q⟩:=h
 cases rx
 cases ry
 obtain ⟨us,r1,p1,_⟩:=I.list ha
 obtain ⟨ws,r2,p2,_⟩:=I.list hb
 refine eq_dataH_same (reads_newData p1.isList (jq f1 r1)) (reads_newData p2.isList (jq f2 r2)) (kD f1).1 (kD f2).1 hu (by rw [SeqAt.noMix];exact kC f1 f2 f3) ?_
 rw [PySem.Spec.same,qj f1 f2]
 exact ⟨.bl _,H,I,rfl,q⟩
theorem zcb (hu:X.A.units + 64 < cLine):OpR X (compareOp .NotEq) (W7 X.K true):=by
 intro pins s σ H x y v u Q I rx ry h
 obtain ⟨a,b,xs,ys,rfl,rfl,ha,hb,⟨f1,f2,f3⟩,q⟩:=h
 cases rx
 cases ry
 obtain ⟨us,r1,p1,_⟩:=I.list ha
 obtain ⟨ws,r2,p2,_⟩:=I.list hb
 refine ne_dataH_same (reads_newData p1.isList (jq f1 r1)) (reads_newData p2.isList (jq f2 r2)) (kD f1).1 (kD f2).1 hu (by rw [SeqAt.noMix];exact kC f1 f2 f3) ?_
 rw [PySem.Spec.same,qj f1 f2]
 exact ⟨.bl _,H,I,rfl,q⟩
abbrev wt (K:PySem.W.Frag):R2:=fun x y H Q=>∃ a b xs,x=.ref a∧y=.ref b∧SqL K H a xs∧SqL K H b []∧Q (.bl (decide (xs=[]))) H
theorem ZW (hu:X.A.units + 64 < cLine):OpR X (compareOp .Eq) (wt X.K):=by
 intro pins s σ H x y v u Q I rx ry h
 obtain ⟨a,b,xs,rfl,rfl,ha,hb,q⟩:=h
 by_cases e:xs=[]
 ·subst e
  exact JN hu pins s σ H _ _ v u Q I rx ry ⟨a,b,[],[],rfl,rfl,ha,hb,⟨rfl,rfl,rfl⟩,q⟩
 ·cases rx
  cases ry
  obtain ⟨us,r1,p1,_⟩:=I.list ha
  obtain ⟨ws,r2,p2,_⟩:=I.list hb
  cases r2
  have e1:=r1.length
  have e2:xs.length≠0:=fun z=>e (List.eq_nil_of_length_eq_zero z)
  refine PySem.SeqAt.eq_list_lengthsAt p1.isList p2.isList (by simp;intro z;rw [z] at e1;exact e2 e1) (by lia) ?_
  rw [decide_eq_false e] at q
  exact ⟨.bl false,H,I,rfl,q⟩
end
end L2
namespace L2
open PySem PySem.Spec PyProof.Rows
abbrev zO:RM:=xx
abbrev wy:RM:=JC
def jw:List V:=[.str "plus",.str "minus",.str "times",.str "over",.str "rest",.str "under",.str "same"]
def isJ (v:V):Bool:=inV v jw
inductive Er where
 | nought | great | stuck
 deriving DecidableEq
def Q9 (w:Str) (a b:Int):Int :=
 if w="plus" then a + b else if w="minus" then a - b else if w="times" then a * b else if w="under" then (if a < b then 1 else 0) else if w="same" then (if a=b then 1 else 0) else if w="over" then a.fdiv b else a.fmod b
def KA (w:Str):Prop:=¬ w="plus"∧¬ w="minus"∧¬ w="times"∧¬ w="under"∧¬ w="same"
instance (w:Str):Decidable (KA w):=by unfold KA;infer_instance
def zbH (w:Str) (a b:Int):Except Er Int:=if KA w∧b=0 then .error .nought else if inW (Q9 w a b)=true then .ok (Q9 w a b) else .error .great
def zcJ (kvs:List (Key × V)):V→Int
 | .int i=>i
 | .str x=>(match vF kvs (.inr x) with | some (.int i)=>i | _=>0)
 | _=>0
def zaa (kvs:List (Key × V)) (st:List Int) (v:V):Except Er (List Int) :=
 if isJ v=true then (match v,st.reverse with | .str w,b :: a :: r=>(match zbH w a b with | .ok c=>.ok (r.reverse ++ [c]) | .error e=>.error e) | _,_=>.error .stuck) else .ok (st ++ [zcJ kvs v])
def zab (kvs:List (Key × V)):List V→List Int→Except Er (List Int)
 | [],st=>.ok st
 | v :: r,st=>match zaa kvs st v with | .ok st'=>zab kvs r st' | .error e=>.error e
section
variable {kvs:List (Key × V)}
def zc8 (kvs:List (Key × V)) (ps:List V) (r:Except Er Int):Prop:=(∀ st,zab kvs ps st=match r with | .ok i=>.ok (st ++ [i]) | .error e=>.error e)∧r≠.error .stuck
end
def W8 (v:V):Prop:=(∃ i,v=.int i∧inW i=true)∨∃ x:Str,v=.str x∧x.length≤1000
def Y7 (kvs:List (Key × V)):Prop:=∀ k v,vF kvs k=some v→∃ i,v=.int i∧inW i=true
theorem zac {kvs:List (Key × V)} (h:Y7 kvs) {v:V} (hv:W8 v):inW (zcJ kvs v)=true:=by
 rcases hv with ⟨i,rfl,hi⟩ | ⟨x,rfl,_⟩
 ·exact hi
 ·show inW (match vF kvs (.inr x) with | some (.int i)=>i | _=>0)=true
  cases e:vF kvs (.inr x) with
  | none=>rfl
  | some u =>
   obtain ⟨i,rfl,hi⟩:=h _ _ e
   exact hi
end L2
namespace L2
open PySem PySem.Spec PyProof.Rows
def Itv (K:PySem.W.Frag) (a:Addr) (xs:List V):It:=⟨fun i H=>i < xs.length∧SqL K H a xs,fun i H x H'=>H'=H∧xs[xs.length - 1 - i]?=some x,fun i _=>xs.length≤i⟩
theorem zad {P:Program} {w:World} {K:PySem.W.Frag} {tg:Expr} (a it:Addr) (xs:List V):K0 P w K tg (Itv K a xs) [it] it (fun i h=>i≤xs.length∧h.IsRevIter it a ((xs.length:Int) - 1 - (i:Int))) where
 mem:=by simp
 obj:=fun i h st b hb=>by
  have e:b=it:=by simpa using hb
  subst e
  obtain ⟨_,o,e,c,d⟩:=st
  exact ⟨o,e,fun v z=>by rw [d] at z;cases z⟩
 keep:=fun i h h' st k=>⟨st.1,st.2.at fun o e=>k it (by simp) o e⟩
 item:=by
  intro X hP hw hK hc i pins s σ H E I hf st hg
  subst hP hw hK
  obtain ⟨hi,hq⟩:=hg
  obtain ⟨its,rv,p,hz⟩:=I.list hq
  have hl:=rv.length
  obtain ⟨u,hu,ru⟩:=rv.get (i:=xs.length - 1 - i) (x:=xs[xs.length - 1 - i]'(by lia)) (List.getElem?_eq_getElem (by lia))
  obtain ⟨f0,f1,f2,f3,f4,f5⟩:=hf it (by simp)
  have st2:=st.2
  have e1:(xs.length:Int) - 1 - (i:Int)=((xs.length - 1 - i:Nat):Int):=by lia
  rw [e1] at st2
  refine wpAny_pyNext_rev_item st2 p.isList (x:=u) (by simpa using hu) fun h' st' sb=>?_
  have I1:Inv X pins σ H { s with heap:=h' }:=I.turned (t':=s.toks) (fun b o hb e=>(sb.2 b hb).trans e) f0 f1 f3 f4 f5
  have e2:((xs.length - 1 - i:Nat):Int) - 1=(xs.length:Int) - 1 - ((i + 1:Nat):Int):=by lia
  rw [e2] at st'
  obtain ⟨o,e,c,d⟩:=id st'
  exact ⟨u,rfl,Kj (s:={ s with heap:=h' }) e c d (by decide) ⟨_,H,I1,ru,⟨rfl,List.getElem?_eq_getElem (by lia)⟩,⟨hi,st'⟩,fun b hb=>(hf b hb).1⟩⟩
 done:=by
  intro X hP hw hK hc i pins s σ H E I hf st hg
  subst hP hw hK
  obtain ⟨f0,f1,f2,f3,f4,f5⟩:=hf it (by simp)
  have hi:i=xs.length:=Nat.le_antisymm st.1 hg
  have st2:=st.2
  rw [hi,show (xs.length:Int) - 1 - (xs.length:Int)=-1 by lia] at st2
  exact wpAny_pyNext_rev_end (I.ok.hd hc) st2 fun h' eb=>⟨rfl,I.turned (t':=s.toks) (fun b o hb e=>eb b o hb e) f0 f1 f3 f4 f5⟩
 self:=fun _ _ _ _ _ st h=>wpAny_pyIter_revIter st.2 h
def Qh (K:PySem.W.Frag) (ta:TA):TI:=fun σ H R=>ta σ H fun vs H1=>∃ a xs,vs=[.ref a]∧SqL K H1 a xs∧R (Itv K a xs) H1
section
variable {X:Cx} {tg:Expr}
theorem zcc {a:Expr} {ta:TA} {p pos:Pos} (hg:Gl X "reversed") (hm:X.mg "reversed"=none) (ha:PA X [a] ta) (hs:starEach [a] X.env=[(false,eval a X.env)]:=by rfl):PI X tg (.Call (.Name "reversed" p) [a] [] pos) (Qh X.K ta):=by
 intro pins s σ H R I h
 refine Call_ (Zh I hg hm VM (PyProof.Rows.callWith_type1 (thn (ha pos pins s σ H _ I h) fun us s1 ⟨vs,H1,I1,r1,q1⟩=>?_) hs rfl))
 obtain ⟨b,xs,e,hq,q⟩:=q1
 subst e
 cases r1 with
 | cons r rr =>
  cases rr
  cases r
  obtain ⟨its,rv,pl,hz⟩:=I1.list hq
  have hl:=rv.length
  refine call_reversed_list pl.isList ?_
  have st:(s1.heap.push (revObj b ((its.toArray.size:Int) - 1))).IsRevIter s1.heap.objs.size b ((xs.length:Int) - 1 - ((0:Nat):Int)):=⟨_,Heap.get?_push_size _ rfl,rfl,by
   show Data.fields _=_
   rw [show ((its.toArray.size:Nat):Int) - 1=(xs.length:Int) - 1 - ((0:Nat):Int) by simp;lia]⟩
  refine wpAny_pyIter_revIter (s:={ s1 with heap:=_ }) st ?_
  refine ⟨s1.heap.objs.size,[s1.heap.objs.size],_,_,H1,rfl,I1.kept (t':=s1.toks) fun b o e=>Heap.get?_push_of_some _ e,zad b _ xs,⟨Nat.zero_le _,st⟩,fun c hc=>?_,q⟩
  have e:c=s1.heap.objs.size:=by simpa using hc
  subst e
  exact I1.fpOk (Nat.le_refl _) (I1.hok.fresh (Nat.le_refl _))
end
section
variable {σ:St} {H:Hp} {nx:St→Hp→Prop} {B:V→St→Hp→(St→Hp→Prop)→Prop}
theorem zae {K:PySem.W.Frag} {a:Addr} (xs:List V) (Pv:Nat→St→Hp→Prop) (h0:Pv 0 σ H) (hl:∀ i σ H,Pv i σ H→SqL K H a xs) (hs:∀ i x σ H,i < xs.length→xs[xs.length - 1 - i]?=some x→Pv i σ H→B x σ H (Pv (i + 1))) (hd:∀ σ H,Pv xs.length σ H→nx σ H) :
  ∃ W:Nat→Nat→St→Hp→Prop,(∃ m,W 0 m σ H)∧∀ i m σ H,W i m σ H→((Itv K a xs).stop i H∧nx σ H)∨((Itv K a xs).go i H∧∃ N:St→Hp→Prop,(∀ σ' H',N σ' H'→∃ m',m' < m∧W (i + 1) m' σ' H')∧∀ x H',(Itv K a xs).yld i H x H'→B x σ H' N):=by
 refine ⟨fun i m σ H=>m=xs.length - i∧i≤xs.length∧Pv i σ H,⟨xs.length,by simp,Nat.zero_le _,h0⟩,?_⟩
 rintro i m σ H ⟨rfl,hi,p⟩
 by_cases hlt:i < xs.length
 ·refine .inr ⟨⟨hlt,hl i σ H p⟩,Pv (i + 1),fun σ' H' p'=>⟨xs.length - (i + 1),by lia,rfl,hlt,p'⟩,?_⟩
  rintro x H' ⟨rfl,y⟩
  exact hs i x σ _ hlt y p
 ·obtain rfl:i=xs.length:=by lia
  exact .inl ⟨Nat.le_refl _,hd σ H p⟩
end
end L2
namespace L2
open PySem PySem.Spec PyProof.Rows
abbrev zd1 (K:PySem.W.Frag):RC:=fun xs H Q=>∃ p ys,xs=[.ref p]∧(SqL K H p ys∨SqT K H p ys)∧∀ l,H l=none→Q (.ref l) (upd H l (.lst ys))
abbrev zd2:RC:=fun xs H Q=>∃ i j,xs=[.int i,.int j]∧Q (.int (if j < i then j else i)) H
def inL (c:Nat):Bool:=!(Builtin.Str.occurrences "abcdefghijklmnopqrstuvwxyz" ⟨#[c]⟩ 0 (Str.length "abcdefghijklmnopqrstuvwxyz") 1).isEmpty
theorem zbi (c:Nat):(!(Builtin.Str.occurrences (Str.ofString "abcdefghijklmnopqrstuvwxyz") ⟨#[c]⟩ 0 (Str.ofString "abcdefghijklmnopqrstuvwxyz").length 1).isEmpty)=inL c:=rfl
def wl:List V:=[.str "take",.str "give",.str "let",.str "say",.str "off",.str "if",.str "else",.str "end",.str "as"]
def zZ (x:Str):Bool:=!(decide (x="") || decide (6 < x.length)) && !(inV (.str x) jw || inV (.str x) wl) && x.cps.toList.all inL
def wW (w:Str):Option V:=if zZ w=true then some (.str w) else if xb w=true then some (.int (wV w)) else none
inductive Tw where
 | leaf (w:Str) | node (w:Str) (a b:Tw)
def pre:Tw→List Str
 | .leaf w=>[w]
 | .node w a b=>w :: (pre a ++ pre b)
def wfT:Tw→Prop
 | .leaf w=>isJ (.str w)=false
 | .node w a b=>isJ (.str w)=true∧wfT a∧wfT b
def okT:Tw→Bool
 | .leaf w=>(wW w).isSome
 | .node _ a b=>okT a && okT b
def pvw (w:Str):V:=(wW w).getD (.str w)
def pst:Tw→List V
 | .leaf w=>[pvw w]
 | .node w a b=>pst a ++ pst b ++ [.str w]
def yA:List Str→Nat→Option Nat
 | _,0=>some 0
 | [],_ + 1=>none
 | w :: r,d + 1=>(yA r (if isJ (.str w)=true then d + 2 else d)).map (· + 1)
theorem Yo:∀ (l:List Str) (d n:Nat),yA l d=some n→∃ Ts:List Tw,Ts.length=d∧(∀ T∈Ts,wfT T)∧l.take n=(Ts.map pre).flatten∧n≤l.length
 | l,0,n,h=>by
  have:n=0:=by cases l <;> (unfold yA at h;cases h;rfl)
  subst this
  exact ⟨[],rfl,(fun _ z=>nomatch z),by simp,Nat.zero_le _⟩
 | [],d + 1,n,h=>by unfold yA at h;cases h
 | w :: r,d + 1,n,h=>by
  unfold yA at h
  obtain ⟨m,hm,rfl⟩:=Option.map_eq_some_iff.mp h
  by_cases hj:isJ (.str w)=true
  ·rw [if_pos hj] at hm
   obtain ⟨Ts,h1,h2,h3,h4⟩:=Yo r (d + 2) m hm
   match Ts,h1,h2,h3 with
   | a :: b :: Ts',h1,h2,h3 =>
    refine ⟨.node w a b :: Ts',by simpa using h1,fun T hT=>?_,?_,by rw [List.length_cons];lia⟩
    ·rcases List.mem_cons.mp hT with rfl | hT
     ·exact ⟨hj,h2 a (by simp),h2 b (by simp)⟩
     ·exact h2 T (List.mem_cons_of_mem _ (List.mem_cons_of_mem _ hT))
    ·rw [List.take_succ_cons,h3]
     simp [pre]
  ·rw [if_neg hj] at hm
   obtain ⟨Ts,h1,h2,h3,h4⟩:=Yo r d m hm
   refine ⟨.leaf w :: Ts,by simpa using h1,fun T hT=>?_,?_,by rw [List.length_cons];lia⟩
   ·rcases List.mem_cons.mp hT with rfl | hT
    ·exact Bool.eq_false_iff.mpr hj
    ·exact h2 T hT
   ·rw [List.take_succ_cons,h3]
    simp [pre]
def wX (st:List (List V)) (w:Str):Except Bool (List (List V)) :=
 if isJ (.str w)=true then (match st.reverse with | a :: b :: r=>.ok (r.reverse ++ [a ++ b ++ [.str w]]) | _=>.error false) else (match wW w with | some v=>.ok (st ++ [[v]]) | none=>.error true)
def vI:List Str→List (List V)→Except Bool (List (List V))
 | [],st=>.ok st
 | w :: r,st=>match wX st w with | .ok st'=>vI r st' | .error e=>.error e
theorem qk:∀ (p q:List Str) (st:List (List V)),vI (p ++ q) st=match vI p st with | .ok st'=>vI q st' | .error e=>.error e
 | [],q,st=>rfl
 | v :: r,q,st=>by
  show (match wX st v with | .ok st'=>vI (r ++ q) st' | .error e=>.error e)=match (match wX st v with | .ok st'=>vI r st' | .error e=>.error e) with | .ok st'=>vI q st' | .error e=>.error e
  cases wX st v with
  | error e=>rfl
  | ok st'=>exact qk r q st'
theorem qU:∀ {T:Tw},wfT T→∀ st,vI (pre T).reverse st=if okT T=true then .ok (st ++ [pst T]) else .error true
 | .leaf w,h,st=>by
  show (match wX st w with | .ok st'=>vI [] st' | .error e=>.error e)=_
  unfold wX okT pst pvw
  rw [if_neg (by rw [show isJ (.str w)=false from h];decide)]
  cases wW w with
  | none=>rfl
  | some v=>rfl
 | .node w a b,h,st=>by
  have e:(pre (.node w a b)).reverse=(pre b).reverse ++ ((pre a).reverse ++ [w]):=by simp [pre]
  rw [e,qk,qU h.2.2,show okT (.node w a b)=(okT a && okT b) from rfl]
  cases hb:okT b with
  | false=>rw [Bool.and_false];rfl
  | true =>
   rw [if_pos rfl]
   show vI ((pre a).reverse ++ [w]) (st ++ [pst b])=_
   rw [qk,qU h.2.1]
   cases ha:okT a with
   | false=>rfl
   | true =>
    rw [if_pos rfl]
    show (match wX (st ++ [pst b] ++ [pst a]) w with | .ok st'=>vI [] st' | .error e=>.error e)=.ok (st ++ [pst (.node w a b)])
    unfold wX
    rw [if_pos h.1]
    simp [vI,pst]
theorem VY {ps:List Str} {i:Nat} {st:List (List V)} {e:Bool} (h:vI (ps.take i) st=.error e):vI ps st=.error e:=by
 have:=qk (ps.take i) (ps.drop i) st
 rw [List.take_append_drop,h] at this
 exact this
theorem zaf {ps:List Str} {i:Nat} {st st0:List (List V)} {v:Str} (h:vI (ps.take i) st0=.ok st) (hv:ps[i]?=some v):vI (ps.take (i + 1)) st0=wX st v:=by
 rw [List.take_add_one,hv]
 show vI (ps.take i ++ [v]) st0=_
 rw [qk,h]
 show (match wX st v with | .ok st'=>vI [] st' | .error e=>.error e)=_
 cases wX st v <;> rfl
def yk (ws:List Str) (at_:Nat):Option (List V × Nat):=match yA (ws.drop at_) 1 with
 | some n=>if n≤60 then (match vI ((ws.drop at_).take n).reverse [] with | .ok [ps]=>some (ps,at_ + n) | _=>none) else none
 | none=>none
theorem kE {ws:List Str} {k n:Nat} (h:yA (ws.drop k) 1=some n):∃ T,wfT T∧(ws.drop k).take n=pre T∧k + n≤ws.length∧(pre T).length=n:=by
 obtain ⟨Ts,h1,h2,h3,h4⟩:=Yo _ _ _ h
 obtain ⟨T,rfl⟩:=List.length_eq_one_iff.mp h1
 have h3':(ws.drop k).take n=pre T:=by rw [h3];simp
 have hn:(pre T).length=n:=by rw [← h3',List.length_take];lia
 have hp:1≤(pre T).length:=by cases T <;> simp [pre]
 rw [List.length_drop] at h4
 exact ⟨T,h2 T (by simp),h3',by lia,hn⟩
theorem jr {ws:List Str} {k n:Nat} {T:Tw} (h:yA (ws.drop k) 1=some n) (hn:n≤60) (hw:wfT T) (ht:(ws.drop k).take n=pre T):yk ws k=if okT T=true then some (pst T,k + n) else none:=by
 unfold yk
 rw [h]
 show (if n≤60 then (match vI ((ws.drop k).take n).reverse [] with | .ok [ps]=>some (ps,k + n) | _=>none) else none)=_
 rw [if_pos hn,ht,qU hw]
 cases okT T <;> rfl
theorem Y8:∀ {T:Tw},wfT T→(okT T=true↔∀ w∈pre T,isJ (.str w)=true∨(wW w).isSome=true)
 | .leaf w,h=>by
  have hj:isJ (.str w)=false:=h
  unfold okT pre
  simp [hj]
 | .node w a b,h=>by
  unfold okT pre
  rw [Bool.and_eq_true,Y8 h.2.1,Y8 h.2.2]
  constructor
  ·rintro ⟨h1,h2⟩ x hx
   rcases List.mem_cons.mp hx with rfl | hx
   ·exact .inl h.1
   ·rcases List.mem_append.mp hx with hx | hx
    ·exact h1 x hx
    ·exact h2 x hx
  ·intro hh
   exact ⟨fun x hx=>hh x (by simp [hx]),fun x hx=>hh x (by simp [hx])⟩
theorem JO {c:Const} {j:Nat} {p:Pos} {es:List Expr} {env:Env}:starEach (.Constant c j p :: es) env=(false,eval (.Constant c j p) env) :: starEach es env:=by
 first | rfl | simp only [starEach]
theorem yv {X:Cx} {es:List Expr} {t:TA} {x:Str} {j:Nat} {p:Pos} (hr:PA X es t):PA X (.Constant (.str x) j p :: es) (zc (tC (.str x)) t):=zb zn hr JO
end L2
namespace L2
open PySem PySem.Spec PyProof.Rows
abbrev zd3:RC:=fun xs H Q=>∃ a kvs,xs=[.ref a]∧H a=some (.dK kvs)∧∀ p,H p=none→Q (.ref p) (upd H p (.dK kvs))
abbrev zd4:R2:=fun x y H Q=>∃ a b kvs,x=.ref a∧y=.ref b∧H a=some (.dK kvs)∧H b=some (.dK kvs)∧(∀ p∈kvs,∃ i,p.2=V.int i)∧Q (.bl false) H
section
variable {X:Cx}
end
end L2
namespace L2
open PySem PySem.Spec PyProof.Rows
section
variable {P:Program} {w:World} {A:Around} {E:Value→Shared→Prop} {s:Shared}
end
section
variable {P:Program} {w:World} {A:Around} {E:Value→Shared→Prop} {s:Shared}
end
section
variable {P:Program} {w:World} {A:Around} {E:Value→Shared→Prop} {s:Shared}
end
theorem Inv.turnedL {X:Cx} {pins:List (Addr × Obj)} {σ:St} {H:Hp} {s:Shared} {h':Heap} {t':Nat} {ch:List Addr} (I:Inv X pins σ H s) (k:∀ b o,b ∉ ch→s.heap.get? b=some o→h'.get? b=some o) (hf:∀ b∈ch,Zj X pins H b) :
  Inv X pins σ H { s with heap:=h',toks:=t' }:=by
 have nit:∀ b u,H b=some u→b ∉ ch:=fun b u e z=>by rw [(hf b z).1] at e;cases e
 refine I.step (g':=s.gens) (d':=s.drawn) (ch:=ch) (fun b hb=>?_) (fun b o _ _ hc e _=>k b o hc e) (fun b o _ _ hc e _=>⟨o.slots,k b o hc e⟩) (fun _ _ _ _ n=>n) (fun b o hc e=>⟨o,k b o hc e⟩) (fun _ _ e=>e) (fun _ _ _ e=>e) (fun b ps e=>⟨#[],by rw [e];simp⟩) (fun m hm=>?_) (fun b u e=>?_) I.bare
 ·obtain ⟨f0,f1,f2,f3,f4,f5⟩:=hf b hb
  exact ⟨f3,f1,f4,f5⟩
 ·obtain ⟨o,es,ep,ho,r⟩:=hm
  exact ⟨o,es,ep,k _ o (fun z=>(hf _ z).2.1 rfl) ho,r⟩
 ·refine (I.hok b u e).stay (fun c v hc q=>k c v ?_ q) (fun _ q=>q) fun _ _ q=>q
  rcases hc with z | z
  ·rw [z];exact nit b u e
  ·exact nit c _ z
def Itz (K:PySem.W.Frag) (p q:Addr) (xs ys:List V):It:=⟨fun i H=>i < xs.length∧SqT K H p xs∧SqT K H q ys,fun i H x H'=>∃ T u v,x=.ref T∧H T=none∧H'=upd H T (.tup [u,v])∧xs[i]?=some u∧ys[i]?=some v,fun i H=>xs.length≤i∧SqT K H p xs∧SqT K H q ys⟩
def zd5 (K:PySem.W.Frag) (ta:TA):TI:=fun σ H R=>ta σ H fun vs H1=>∃ p q xs ys,vs=[.ref p,.ref q]∧SqT K H1 p xs∧SqT K H1 q ys∧xs.length=ys.length∧R (Itz K p q xs ys) H1
section
variable {X:Cx}
end
section
variable {σ:St} {H:Hp} {nx:St→Hp→Prop} {B:V→St→Hp→(St→Hp→Prop)→Prop}
end
abbrev zd6 (K:PySem.W.Frag):RC:=fun xs H Q=>∃ p ys,xs=[.ref p]∧((SqL K H p ys∧∀ l,H l=none→Q (.ref l) (upd H l (.tup ys)))∨(SqT K H p ys∧Q (.ref p) H))
theorem Xs:∀ {T:Tw},wfT T→∀ (r:List Str) (d:Nat),yA (pre T ++ r) (d + 1)=(yA r d).map (· + (pre T).length)
 | .leaf w,h,r,d=>by
  show (yA r (if isJ (.str w)=true then d + 2 else d)).map (· + 1)=_
  rw [if_neg (by rw [show isJ (.str w)=false from h];decide)]
  rfl
 | .node w a b,h,r,d=>by
  have e:pre (.node w a b) ++ r=w :: (pre a ++ (pre b ++ r)):=by simp [pre]
  rw [e]
  show (yA (pre a ++ (pre b ++ r)) (if isJ (.str w)=true then d + 2 else d)).map (· + 1)=_
  rw [if_pos h.1,Xs h.2.1,Xs h.2.2,Option.map_map,Option.map_map]
  refine congrArg (fun f=>Option.map f (yA r d)) (funext fun n=>?_)
  show n + (pre b).length + (pre a).length + 1=n + (pre (.node w a b)).length
  simp [pre];lia
theorem zcd (l:List Str):yA l 0=some 0:=by cases l <;> (unfold yA;rfl)
theorem wJ {A B:List Str} {T:Tw} (hw:wfT T) (ho:okT T=true) (hl:(pre T).length≤60):yk (A ++ pre T ++ B) A.length=some (pst T,A.length + (pre T).length):=by
 have e:(A ++ pre T ++ B).drop A.length=pre T ++ B:=by rw [List.append_assoc,List.drop_left]
 have h:yA ((A ++ pre T ++ B).drop A.length) 1=some (pre T).length:=by
  rw [e,Xs hw,zcd]
  show some (0 + (pre T).length)=_
  rw [Nat.zero_add]
 rw [jr h hl hw (by rw [e,List.take_left]),if_pos ho]
def KB (st:List (List V)) (v:V):Option (List (List V)):=if isJ v=true then (match st.reverse with | b :: a :: r=>some (r.reverse ++ [v :: (a ++ b)]) | _=>none) else some (st ++ [[v]])
def JP:List V→List (List V)→Option (List (List V))
 | [],st=>some st
 | v :: r,st=>(KB st v).bind (JP r)
theorem zag:∀ (p q:List V) (st:List (List V)),JP (p ++ q) st=(JP p st).bind (JP q)
 | [],q,st=>rfl
 | v :: r,q,st=>by
  show (KB st v).bind (JP (r ++ q))=((KB st v).bind (JP r)).bind (JP q)
  cases KB st v with
  | none=>rfl
  | some st'=>exact zag r q st'
end L2
namespace L2
open PySem PySem.W PyProof.Rows
section
variable {α β:Type} {lt:Nat→Nat→Bool} {n:Nat}
def kOk (lt:Nat→Nat→Bool) (n:Nat):KasT α→(α→Prop)→Prop
 | .ret a,R=>R a
 | .ask i j k,R=>i < n∧j < n∧i≠j∧kOk lt n (k (lt i j)) R
theorem zah:∀ {t:KasT α} {f:α→KasT β} {R:β→Prop},kOk lt n t (fun a=>kOk lt n (f a) R)→kOk lt n (t.bind f) R
 | .ret _,_,_,h=>h
 | .ask _ _ _,_,_,h=>⟨h.1,h.2.1,h.2.2.1,zah h.2.2.2⟩
theorem zai:∀ {t:KasT α} {R R':α→Prop},kOk lt n t R→(∀ a,R a→R' a)→kOk lt n t R'
 | .ret _,_,_,h,m=>m _ h
 | .ask _ _ _,_,_,h,m=>⟨h.1,h.2.1,h.2.2.1,zai h.2.2.2 m⟩
structure SO (lt:Nat→Nat→Bool) (n:Nat):Prop where
 irr:∀ i,i < n→lt i i=false
 trans:∀ i j k,i < n→j < n→k < n→lt i j=true→lt j k=true→lt i k=true
 tot:∀ i j,i < n→j < n→i≠j→lt i j=false→lt j i=true
def PP (n:Nat) (p:Array Nat):Prop:=p.Perm (List.range n).toArray
def gt (p:Array Nat) (k:Nat):Nat:=p.getD k 0
theorem zaj {p:Array Nat} {k:Nat} (h:k < p.size):p[k]?=some (gt p k):=by
 unfold gt
 rw [Array.getD_eq_getD_getElem?,Array.getElem?_eq_getElem h]
 rfl
theorem PP.size {p:Array Nat} (h:PP n p):p.size=n:=by
 have:=h.size_eq
 simpa using this
theorem PP.blt {p:Array Nat} (h:PP n p) {k:Nat} (hk:k < n):gt p k < n:=by
 have hs:=h.size
 have m:gt p k∈p:=Array.mem_of_getElem? (zaj (by lia))
 have m2:gt p k∈(List.range n).toArray:=(Array.Perm.mem_iff h).mp m
 simpa using m2
theorem PP.inj {p:Array Nat} (h:PP n p) {i j:Nat} (hi:i < n) (hj:j < n) (e:gt p i=gt p j):i=j:=by
 have hs:=h.size
 have nd:p.toList.Nodup:=by
  have:p.toList.Perm (List.range n):=by
   have:=Array.perm_iff_toList_perm.mp h
   simpa using this
  exact this.nodup_iff.mpr List.nodup_range
 have e1:=zaj (p:=p) (k:=i) (by lia)
 have e2:=zaj (p:=p) (k:=j) (by lia)
 rw [← e] at e2
 have e1':p.toList[i]?=some (gt p i):=by simpa using e1
 have e2':p.toList[j]?=some (gt p i):=by simpa using e2
 obtain ⟨a1,b1⟩:=List.getElem?_eq_some_iff.mp e1'
 obtain ⟨a2,b2⟩:=List.getElem?_eq_some_iff.mp e2'
 exact (List.getElem_inj nd).mp (b1.trans b2.symm)
def zc9 (lt:Nat→Nat→Bool) (p:Array Nat) (m:Nat):Prop:=∀ i j,i < j→j < m→lt (gt p i) (gt p j)=true
theorem VZ (S:SO lt n) {p:Array Nat} (hp:PP n p) {k:Nat} (hk:k < n) (hr:zc9 lt p k):∀ (f l r:Nat),l≤r→r≤k→r - l≤f→(∀ i,i < l→lt (gt p i) (gt p k)=true)→(∀ i,r≤i→i < k→lt (gt p k) (gt p i)=true) →
  kOk lt n (kas_place p k f l r) fun m=>m≤k∧(∀ i,i < m→lt (gt p i) (gt p k)=true)∧∀ i,m≤i→i < k→lt (gt p k) (gt p i)=true
 | 0,l,r,h1,h2,h3,h4,h5=>⟨by lia,h4,fun i hi hik=>h5 i (by lia) hik⟩
 | f + 1,l,r,h1,h2,h3,h4,h5=>by
  unfold kas_place
  by_cases c:l ≥ r
  ·rw [if_pos c]
   exact ⟨by lia,h4,fun i hi hik=>h5 i (by lia) hik⟩
  ·rw [if_neg c]
   refine ⟨hp.blt (by lia),hp.blt (by lia),(fun z=>by have:=hp.inj (by lia) (by lia) z;lia),?_⟩
   show kOk lt n (if lt (gt p k) (gt p ((l + r) / 2))=true then _ else _) _
   by_cases d:lt (gt p k) (gt p ((l + r) / 2))=true
   ·rw [if_pos d]
    refine VZ S hp hk hr f l ((l + r) / 2) (by lia) (by lia) (by lia) h4 fun i hi hik=>?_
    by_cases e:i=(l + r) / 2
    ·rw [e];exact d
    ·exact S.trans _ _ _ (hp.blt (by lia)) (hp.blt (by lia)) (hp.blt (by lia)) d (hr _ i (by lia) hik)
   ·rw [if_neg d]
    have up:lt (gt p ((l + r) / 2)) (gt p k)=true:=S.tot _ _ (hp.blt (by lia)) (hp.blt (by lia)) (fun z=>by have:=hp.inj (by lia) (by lia) z;lia) (Bool.eq_false_iff.mpr d)
    refine VZ S hp hk hr f ((l + r) / 2 + 1) r (by lia) (by lia) (by lia) (fun i hi=>?_) h5
    by_cases e:i=(l + r) / 2
    ·rw [e];exact up
    ·exact S.trans _ _ _ (hp.blt (by lia)) (hp.blt (by lia)) (hp.blt (by lia)) (hr i _ (by lia) (by lia)) up
end
end L2
namespace L2
open PySem PySem.W PyProof.Rows
section
variable {P:Program} {w:World} {A:Around} {E:Value→Shared→Prop} {s:Shared}
end
end L2
namespace L2
open PySem PySem.W PyProof.Rows
def Y9 (a b:Str × Int):Bool:=if a.1=b.1 then decide (a.2 < b.2) else decide (a.1.cps.toList < b.1.cps.toList)
section
variable {P:Program} {w:World} {A:Around} {E:Value→Shared→Prop} {s:Shared}
end
end L2
namespace L2
open PySem
section
variable {P:Program} {w:World} {A:Around} {E:Value→Shared→Prop} {s:Shared}
end
end L2
namespace L2
open PySem PySem.Spec PyProof.Rows
section
open PySem.SeqAt
open PySem.AutoSeq1 (wpAny_loadPart')
open PySem.MeetsSeq PySem.MeetsSeq2 PySem.MeetsSeq3
end
end L2
namespace L2
open PySem PySem.Spec PyProof.Rows
section
variable {P:Program} {w:World} {A:Around} {E:Value→Shared→Prop} {s:Shared}
end
end L2
namespace L2
open PySem PySem.Spec PyProof.Rows
def ZX (q:Str × Int):List Key:=[.inr q.1,.inl q.2]
abbrev zdB:RC:=fun xs H Q=>∃ (a:Addr) (kvs:List (List Key × V)) (qs:List (Str × Int)),xs=[.ref a]∧H a=some (.dT kvs)∧kvs.map (·.1)=qs.map ZX∧kvs.length < 64 ∧
 ∀ (l:Addr) (ps:List (Addr × (Str × Int))),H l=none→(ps.map (·.2)).Perm qs→(ps.map (·.2)).Pairwise (fun a b=>Y9 a b=true)→(∀ n∈ps,H n.1=some (.tup [.str n.2.1,.int n.2.2]))→Q (.ref l) (upd H l (.lst (ps.map fun n=>V.ref n.1)))
theorem JQ {α β:Type} {F:α→β→Prop}:∀ {l₁:List α} {l₂:List β},Paired F l₁ l₂→∀ {i:Nat} {a:α} {b:β},l₁[i]?=some a→l₂[i]?=some b→F a b
 | _,_,.nil,i,a,b,h,_=>by simp at h
 | _,_,.cons x r,0,a,b,h1,h2=>by
  simp only [List.getElem?_cons_zero,Option.some.injEq] at h1 h2
  subst h1 h2
  exact x
 | _,_,.cons x r,i + 1,a,b,h1,h2=>JQ r (by simpa using h1) (by simpa using h2)
section
variable {X:Cx}
end
end L2
namespace L2
open PySem PySem.Spec PyProof.Rows
def Itd (a:Addr) (o:Obj) (kvs:List (List Key × V)):It :=
 ⟨fun i H=>H a=some (.frz o (.dT kvs))∧i < kvs.length,fun i H x H'=>H'=H∧∃ k v p,kvs[i]?=some (k,v)∧x=.ref p∧H p=some (.tup (k.map kV)),fun i H=>H a=some (.frz o (.dT kvs))∧kvs.length≤i⟩
section
variable {X:Cx}
def iDT (tl:TE):TI:=fun σ H R=>tl σ H fun x H1=>∃ a o kvs,x=.ref a∧H1 a=some (.frz o (.dT kvs))∧R (Itd a o kvs) H1
end
section
variable {σ:St} {H:Hp} {nx:St→Hp→Prop} {B:V→St→Hp→(St→Hp→Prop)→Prop}
end
end L2
namespace L2
open PySem PySem.Spec PyProof.Rows
mutual
inductive Dat (K:PySem.W.Frag) (H:Hp):V→PyData→Prop
 | non:Dat K H .non .none
 | bl (b:Bool):Dat K H (.bl b) (.bool b)
 | int (i:Int):Dat K H (.int i) (.int i)
 | str (x:Str):Dat K H (.str x) (.str x)
 | lst {a:Addr} {xs:List V} {ds:List PyData}:SqL K H a xs→DatAll K H xs ds→Dat K H (.ref a) (.list ds)
 | tup {a:Addr} {xs:List V} {ds:List PyData}:SqT K H a xs→DatAll K H xs ds→Dat K H (.ref a) (.tuple ds)
inductive DatAll (K:PySem.W.Frag) (H:Hp):List V→List PyData→Prop
 | nil:DatAll K H [] []
 | cons {x:V} {d:PyData} {xs:List V} {ds:List PyData}:Dat K H x d→DatAll K H xs ds→DatAll K H (x :: xs) (d :: ds)
end
section
variable {X:Cx} {pins:List (Addr × Obj)} {σ:St} {H:Hp} {s:Shared}
mutual
theorem Dat.reads (I:Inv X pins σ H s):∀ {x:V} {d:PyData} {u:Value},Dat X.K H x d→RelV x u→∃ as,Reads s.heap u d as
 | _,_,_,.non,r=>by cases r;exact ⟨_,.none⟩
 | _,_,_,.bl b,r=>by cases r;exact ⟨_,.bool b⟩
 | _,_,_,.int i,r=>by obtain ⟨t,rfl⟩:=r;exact ⟨_,.int i t⟩
 | _,_,_,.str x,r=>by obtain ⟨t,rfl⟩:=r;exact ⟨_,.str x t⟩
 | _,_,_,.lst hq ha,r=>by
  cases r
  obtain ⟨its,rv,⟨o,n,e,c,_,d⟩,_⟩:=I.list hq
  obtain ⟨as,ra⟩:=DatAll.reads I ha rv
  exact ⟨_,.list e c d (by simpa using ra)⟩
 | _,_,_,.tup hq ha,r=>by
  cases r
  obtain ⟨its,rv,⟨o,e,c,n,d⟩,_⟩:=I.tuple hq
  obtain ⟨as,ra⟩:=DatAll.reads I ha rv
  exact ⟨_,.tuple e c d (by simpa using ra)⟩
theorem DatAll.reads (I:Inv X pins σ H s):∀ {xs:List V} {ds:List PyData} {us:List Value},DatAll X.K H xs ds→Vals xs us→∃ as,ReadsAll s.heap us ds as
 | _,_,_,.nil,r=>by cases r;exact ⟨_,.nil⟩
 | _,_,_,.cons hx ht,r=>by
  cases r with
  | cons r1 rr =>
   obtain ⟨as,ra⟩:=Dat.reads I hx r1
   obtain ⟨bs,rb⟩:=DatAll.reads I ht rr
   exact ⟨_,.cons ra rb⟩
end
end
section
variable {K:PySem.W.Frag} {H H':Hp}
theorem SqL.mono {a:Addr} {xs:List V} (k:Same H H') (h:SqL K H a xs):SqL K H' a xs:=by
 rcases h with (h | ⟨o,h⟩) | h
 ·exact .inl (.inl (k _ _ h))
 ·exact .inl (.inr ⟨o,k _ _ h⟩)
 ·exact .inr h
theorem DatAll.of {α:Type} {f:α→V} {g:α→PyData}:∀ {l:List α},(∀ a∈l,Dat K H (f a) (g a))→DatAll K H (l.map f) (l.map g)
 | [],_=>.nil
 | a :: r,h=>.cons (h a List.mem_cons_self) (DatAll.of fun b hb=>h b (List.mem_cons_of_mem _ hb))
end
section
variable {X:Cx} {pins:List (Addr × Obj)} {σ:St} {H:Hp} {s:Shared}
mutual
theorem Dat.inj (I:Inv X pins σ H s):∀ {x:V} {d e:PyData},Dat X.K H x d→Dat X.K H x e→d=e
 | _,_,_,.non,h=>by cases h;rfl
 | _,_,_,.bl b,h=>by cases h;rfl
 | _,_,_,.int i,h=>by cases h;rfl
 | _,_,_,.str x,h=>by cases h;rfl
 | _,_,_,.lst hq ha,h=>by
  cases h with
  | lst hq' ha' =>
   have e:=I.list_inj hq hq'
   subst e
   rw [DatAll.inj I ha ha']
  | tup hq' ha' =>
   obtain ⟨_,_,⟨o,n,e,c,_⟩,_⟩:=I.list hq
   obtain ⟨_,_,⟨o',e',c',_⟩,_⟩:=I.tuple hq'
   rw [e] at e';cases e'
   rw [c] at c';exact absurd c' (by simp)
 | _,_,_,.tup hq ha,h=>by
  cases h with
  | tup hq' ha' =>
   have e:=I.tuple_inj hq hq'
   subst e
   rw [DatAll.inj I ha ha']
  | lst hq' ha' =>
   obtain ⟨_,_,⟨o,e,c,_⟩,_⟩:=I.tuple hq
   obtain ⟨_,_,⟨o',n,e',c',_⟩,_⟩:=I.list hq'
   rw [e] at e';cases e'
   rw [c] at c';exact absurd c' (by simp)
theorem DatAll.inj (I:Inv X pins σ H s):∀ {xs:List V} {ds es:List PyData},DatAll X.K H xs ds→DatAll X.K H xs es→ds=es
 | _,_,_,.nil,h=>by cases h;rfl
 | _,_,_,.cons hx ht,h=>by
  cases h with
  | cons hx' ht'=>rw [Dat.inj I hx hx',DatAll.inj I ht ht']
end
end
mutual
def yc:PyData→Bool
 | .none=>true
 | .int _=>true
 | .str x=>PyData.strOk x
 | .list xs=>wg xs
 | .tuple xs=>wg xs
 | .bool _=>false
 | .dict _=>false
def wg:List PyData→Bool
 | []=>true
 | x :: xs=>yc x && wg xs
end
mutual
theorem Yp:∀ {d:PyData},yc d=true→d.canLay0=true
 | .none,_=>by simp [PyData.canLay0]
 | .int _,_=>by simp [PyData.canLay0]
 | .str x,h=>by simpa [PyData.canLay0,yc] using h
 | .list xs,h=>by rw [PyData.canLay0];exact Zs (by simpa [yc] using h)
 | .tuple xs,h=>by rw [PyData.canLay0];exact Zs (by simpa [yc] using h)
 | .bool _,h=>by simp [yc] at h
 | .dict _,h=>by simp [yc] at h
theorem Zs:∀ {ds:List PyData},wg ds=true→PyData.canLayAll0 ds=true
 | [],_=>by simp [PyData.canLayAll0]
 | x :: xs,h=>by
  rw [wg,Bool.and_eq_true] at h
  rw [PyData.canLayAll0,Yp h.1,Zs h.2];rfl
end
mutual
theorem WC:∀ {d e:PyData},yc d=true→yc e=true→(PyData.eqv d e=true↔d=e)
 | .list xs,.list ys,h,h'=>by
  rw [PyData.eqv,Zt (by simpa [yc] using h) (by simpa [yc] using h'),PyData.list.injEq]
 | .tuple xs,.tuple ys,h,h'=>by
  rw [PyData.eqv,Zt (by simpa [yc] using h) (by simpa [yc] using h'),PyData.tuple.injEq]
 | .bool _,_,h,_=>by simp [yc] at h
 | .dict _,_,h,_=>by simp [yc] at h
 | .none,.bool _,_,h=>by simp [yc] at h
 | .int _,.bool _,_,h=>by simp [yc] at h
 | .str _,.bool _,_,h=>by simp [yc] at h
 | .list _,.bool _,_,h=>by simp [yc] at h
 | .tuple _,.bool _,_,h=>by simp [yc] at h
 | .none,.dict _,_,h=>by simp [yc] at h
 | .int _,.dict _,_,h=>by simp [yc] at h
 | .str _,.dict _,_,h=>by simp [yc] at h
 | .list _,.dict _,_,h=>by simp [yc] at h
 | .tuple _,.dict _,_,h=>by simp [yc] at h
 | .none,.none,_,_ | .none,.int _,_,_ | .none,.str _,_,_ | .none,.list _,_,_ | .none,.tuple _,_,_=>by simp [PyData.eqv]
 | .int _,.none,_,_ | .int _,.int _,_,_ | .int _,.str _,_,_ | .int _,.list _,_,_ | .int _,.tuple _,_,_=>by simp [PyData.eqv]
 | .str _,.none,_,_ | .str _,.int _,_,_ | .str _,.str _,_,_ | .str _,.list _,_,_ | .str _,.tuple _,_,_=>by simp [PyData.eqv]
 | .list _,.none,_,_ | .list _,.int _,_,_ | .list _,.str _,_,_ | .list _,.tuple _,_,_=>by simp [PyData.eqv]
 | .tuple _,.none,_,_ | .tuple _,.int _,_,_ | .tuple _,.str _,_,_ | .tuple _,.list _,_,_=>by simp [PyData.eqv]
theorem Zt:∀ {xs ys:List PyData},wg xs=true→wg ys=true→(PyData.eqvAll xs ys=true↔xs=ys)
 | [],[],_,_=>by simp [PyData.eqvAll]
 | [],_ :: _,_,_=>by simp [PyData.eqvAll]
 | _ :: _,[],_,_=>by simp [PyData.eqvAll]
 | x :: xs,y :: ys,h,h'=>by
  rw [wg,Bool.and_eq_true] at h h'
  rw [PyData.eqvAll,Bool.and_eq_true,WC h.1 h'.1,Zt h.2 h'.2,List.cons.injEq]
end
abbrev zd7 (K:PySem.W.Frag) (neg:Bool):R2:=fun x y H Q=>∃ d e,Dat K H x d∧Dat K H y e∧(yc d=true∧yc e=true∧d.depth≤64∧e.depth≤64)∧∀ b:Bool,(b=true↔d=e)→Q (.bl (if neg then !b else b)) H
section
variable {X:Cx}
end
end L2
namespace L2
open PySem PySem.Spec PyProof.Rows
abbrev zd8:R2:=fun x y H Q=>∃ i j,x=.str i∧y=.str j∧Q (.bl (decide (j.cps.toList < i.cps.toList))) H
abbrev zd9 (neg:Bool):R2:=fun x y H Q=>∃ a o,y=.ref a∧zb0 H a x o∧Q (.bl (if neg then !o.isSome else o.isSome)) H
section
variable {X:Cx}
end
end L2
namespace L2
open PySem
abbrev Pl:=Str × Int
abbrev Row:=Pl × Int
def ZY:List Row→Pl→Option Int
 | [],_=>none
 | r :: t,p=>(ZY t p).or (if r.1=p then some r.2 else none)
def zcK (kvs:List (List Key × V)) (q:Row):List (List Key × V):=YT kvs (ZX q.1) (.int q.2)
def dOf (rows:List Row):List (List Key × V):=rows.foldl zcK []
def OkKv (kvs:List (List Key × V)):Prop:=(kvs.map (·.1)).Nodup∧∀ kv∈kvs,∃ (p:Pl) (w:Int),kv=(ZX p,.int w)
theorem OkKv.put {kvs:List (List Key × V)} (h:OkKv kvs) (p:Pl) (w:Int):OkKv (YT kvs (ZX p) (.int w)):=by
 cases e:vF kvs (ZX p) with
 | none =>
  refine ⟨za8 _ h.1 e,fun kv hk=>?_⟩
  rw [VI _ e] at hk
  rcases List.mem_append.mp hk with hk | hk
  ·exact h.2 kv hk
  ·exact ⟨p,w,List.mem_singleton.mp hk⟩
 | some v =>
  have q:(kvs.any fun kv=>decide (kv.1=ZX p))=true:=by rw [ZP,e];rfl
  unfold YT
  rw [if_pos q]
  constructor
  ·rw [List.map_map]
   have:((fun x:List Key × V=>x.1) ∘ fun kv:List Key × V=>if kv.1=ZX p then (kv.1,V.int w) else kv)=fun x=>x.1:=by
    funext kv
    show (if kv.1=ZX p then (kv.1,V.int w) else kv).1=kv.1
    split <;> rfl
   rw [this];exact h.1
  ·intro kv hk
   obtain ⟨z,hz,rfl⟩:=List.mem_map.mp hk
   by_cases e:z.1=ZX p
   ·exact ⟨p,w,by rw [if_pos e,e]⟩
   ·rw [if_neg e];exact h.2 z hz
def JR (l:List Row):Prop:=l.Pairwise fun a b=>Y9 a.1 b.1=true
def zcL (rows out:List Row):Prop:=JR out∧∀ p w,(p,w)∈out↔ZY rows p=some w∧w≠0
theorem Qi {p:Pl}:∀ {l:List Row},(∀ r∈l,r.1≠p)→ZY l p=none
 | [],_=>rfl
 | r :: t,h=>by
  rw [ZY,Qi fun r hr=>h r (List.mem_cons_of_mem _ hr),if_neg (h r List.mem_cons_self)];rfl
end L2
namespace L2
open PySem PySem.Spec PyProof.Rows
def zcM (K:PySem.W.Frag) (p q:Addr) (xs ys:List V):It:=⟨fun i H=>i < xs.length∧SqL K H p xs∧SqL K H q ys,fun i H x H'=>∃ T u v,x=.ref T∧H T=none∧H'=upd H T (.tup [u,v])∧xs[i]?=some u∧ys[i]?=some v,fun i H=>xs.length≤i∧SqL K H p xs∧SqL K H q ys⟩
def zdC (K:PySem.W.Frag) (ta:TA):TI:=fun σ H R=>ta σ H fun vs H1=>∃ p q xs ys,vs=[.ref p,.ref q]∧SqL K H1 p xs∧SqL K H1 q ys∧xs.length=ys.length∧R (zcM K p q xs ys) H1
section
variable {X:Cx}
end
section
variable {σ:St} {H:Hp} {nx:St→Hp→Prop} {B:V→St→Hp→(St→Hp→Prop)→Prop}
end
end L2
namespace L2
open PySem PySem.Spec PyProof.Rows
section
variable {X:Cx} {A:Around} {R:Result→Shared→Prop}
def zbj (H:Hp) (v:V) (q:Row):Prop:=∃ r p,v=.ref r∧H r=some (.tup [.ref p,.int q.2])∧H p=some (.tup [.str q.1.1,.int q.1.2])
end
end L2
namespace L2
open PySem PySem.Spec PyProof.Rows
section
variable {prog:Program} {w:World} {A:Around} {E:Value→Shared→Prop} {s:Shared} {a:Addr} {o:Obj} {xs:Array Value} {k:Nat}
end
abbrev zdD:RC:=fun vs H Q=>∃ (a:Addr) (xs:List V) (rows:List Row),vs=[.ref a]∧H a=some (.lst xs)∧Paired (zbj H) xs rows∧rows.length≤1000∧∀ p,H p=none→Q (.ref p) (upd H p (.dT (dOf rows)))
section
variable {X:Cx}
end
end L2
namespace L2
open PySem PySem.Spec PyProof.Rows
section
variable {X:Cx} {k:Nat} {f C:Addr} {fd:FuncData} {ps:List Str} {sp:Sp} {m:Str} {pos apos:Pos} {e o:Expr} {es:List Expr} {ta:TE} {t:TA}
def zda (C:Addr) (m:Str) (sp:Sp) (ta:TE) (t:TA) (EX:EXK):TE:=fun σ H Q=>ta σ H fun x H1=>∃ a dx fs,x=.ref a∧H1 a=some (.ins C dx fs)∧fs.lookup m=none ∧
 t σ H1 fun vs H2=>sp (x :: (vs ++ [])) H2 Q fun cls _ H3=>EX cls σ H3
end
def zdE (K:PySem.W.Frag) (tb:EXK→TS) (C1:Addr) (th1:TS):TS:=fun D σ H=>tb (fun cls σ1 H1=>∃ C,cls=.ref C∧PySem.W.exmOne K (.ref C) (.ref C1)=some true∧th1 D σ1 H1) D σ H
def zdb (K:PySem.W.Frag) (tb:EXK→TS) (C1:Addr) (th1:TS) (C2:Addr) (th2:TS):TS:=fun D σ H=>tb (fun cls σ1 H1=>∃ C,cls=.ref C ∧
 ((PySem.W.exmOne K (.ref C) (.ref C1)=some true∧th1 D σ1 H1)∨(PySem.W.exmOne K (.ref C) (.ref C1)=some false∧PySem.W.exmOne K (.ref C) (.ref C2)=some true∧th2 D σ1 H1))) D σ H
section
variable {X:Cx} {st b₀ b₁:Stmt} {suite suite1:List Stmt} {tb:EXK→TS} {th1 th2:TS} {c1 c2:Str} {C1 C2:Addr} {np hpos np2 hpos2 pos:Pos}
end
section
variable {X:Cx} {k:Nat} {f:Addr} {fd:FuncData} {ps:List Str} {sp:Sp} {x:Str} {p pos:Pos} {e:Expr} {es:List Expr} {t:TA}
end
end L2
namespace L2
open PySem
def rk (kvs:List (Key × V)) (ps:List V):Except Er Int:=match zab kvs ps [] with
 | .ok [i]=>.ok i
 | .ok _=>.error .stuck
 | .error e=>.error e
theorem zak {kvs:List (Key × V)} (hs:Y7 kvs) {v:V} (hv:W8 v) {st st':List Int} (h:∀ x∈st,inW x=true) (e:zaa kvs st v=.ok st'):∀ x∈st',inW x=true:=by
 unfold zaa at e
 split at e
 ·split at e
  ·rename_i w b a r hr hj
   unfold zbH at e
   by_cases c1:KA w∧b=0
   ·rw [if_pos c1] at e;cases e
   ·rw [if_neg c1] at e
    by_cases c2:inW (Q9 w a b)=true
    ·rw [if_pos c2] at e
     cases e
     intro x hx
     rcases List.mem_append.mp hx with hx | hx
     ·refine h x (List.mem_reverse.mp ?_)
      rw [hr]
      exact List.mem_cons_of_mem _ (List.mem_cons_of_mem _ (List.mem_reverse.mp hx))
     ·rw [List.mem_singleton.mp hx];exact c2
    ·rw [if_neg c2] at e;cases e
  ·cases e
 ·cases e
  intro x hx
  rcases List.mem_append.mp hx with hx | hx
  ·exact h x hx
  ·rw [List.mem_singleton.mp hx];exact zac hs hv
theorem zbk {kvs:List (Key × V)} (hs:Y7 kvs):∀ {ps:List V} {st st':List Int},(∀ v∈ps,W8 v)→(∀ x∈st,inW x=true)→zab kvs ps st=.ok st'→∀ x∈st',inW x=true
 | [],st,st',_,h,e=>by cases e;exact h
 | v :: r,st,st',hp,h,e=>by
  unfold zab at e
  split at e
  ·rename_i st1 e1
   exact zbk hs (fun v hv=>hp v (List.mem_cons_of_mem _ hv)) (zak hs (hp v List.mem_cons_self) h e1) e
  ·cases e
def Zu (e:List V):Prop:=(∀ kvs,∃ r,zc8 kvs e r)∧(∀ v∈e,W8 v)∧e.length≤1000
mutual
inductive Rw where
 | take (sh:Str) (e:List V) (sl:Str)
 | give (sh:Str) (e f:List V)
 | lt (sl:Str) (e:List V)
 | say (e:List V)
 | off (e:List V)
 | iff (e:List V) (a b:Rws)
inductive Rws where
 | nil
 | cons (r:Rw) (rs:Rws)
end
set_option genSizeOf false in
set_option genInjectivity false in
structure Sta where
 sl:List (Key × V)
 wo:List Row
 sa:List Int
inductive Res where
 | go (s:Sta)
 | off
 | er (e:Er)
mutual
def goR:Rw→Sta→Res
 | .take sh e sl,s=>match rk s.sl e with
  | .ok n=>.go { s with sl:=YT s.sl (.inr sl) (.int ((ZY s.wo (sh,n)).getD 0)) }
  | .error x=>.er x
 | .give sh e f,s=>match rk s.sl e with
  | .ok n=>(match rk s.sl f with
   | .ok w=>.go { s with wo:=s.wo ++ [((sh,n),w)] }
   | .error x=>.er x)
  | .error x=>.er x
 | .lt sl e,s=>match rk s.sl e with
  | .ok n=>.go { s with sl:=YT s.sl (.inr sl) (.int n) }
  | .error x=>.er x
 | .say e,s=>match rk s.sl e with
  | .ok n=>.go { s with sa:=s.sa ++ [n] }
  | .error x=>.er x
 | .off e,s=>match rk s.sl e with
  | .ok n=>if n=0 then .go s else .off
  | .error x=>.er x
 | .iff e a b,s=>match rk s.sl e with
  | .ok n=>if n=0 then zbl b s else zbl a s
  | .error x=>.er x
def zbl:Rws→Sta→Res
 | .nil,s=>.go s
 | .cons r rs,s=>match goR r s with
  | .go s'=>zbl rs s'
  | x=>x
end
mutual
def zdc (F:Addr→Prop) (H:Hp) (v:V):Rw→Prop
 | .take sh e sl=>∃ r te,v=.ref r∧F r∧F te∧H r=some (.tup [.str "take",.str sh,.ref te,.str sl])∧H te=some (.tup e)
 | .give sh e f=>∃ r te tf,v=.ref r∧F r∧F te∧F tf∧H r=some (.tup [.str "give",.str sh,.ref te,.ref tf])∧H te=some (.tup e)∧H tf=some (.tup f)
 | .lt sl e=>∃ r te,v=.ref r∧F r∧F te∧H r=some (.tup [.str "let",.str sl,.ref te])∧H te=some (.tup e)
 | .say e=>∃ r te,v=.ref r∧F r∧F te∧H r=some (.tup [.str "say",.ref te])∧H te=some (.tup e)
 | .off e=>∃ r te,v=.ref r∧F r∧F te∧H r=some (.tup [.str "off",.ref te])∧H te=some (.tup e)
 | .iff e a b=>∃ r te la lb xs ys,v=.ref r∧F r∧F te∧F la∧F lb∧H r=some (.tup [.str "if",.ref te,.ref la,.ref lb])∧H te=some (.tup e)∧H la=some (.lst xs)∧zal F H xs a∧H lb=some (.lst ys)∧zal F H ys b
def zal (F:Addr→Prop) (H:Hp) (vs:List V):Rws→Prop
 | .nil=>vs=[]
 | .cons r rs=>∃ v ws,vs=v :: ws∧zdc F H v r∧zal F H ws rs
end
abbrev W9:Addr→Prop:=fun _=>True
mutual
def zdd:Rw→Prop
 | .take _ e _=>Zu e
 | .give _ e f=>Zu e∧Zu f
 | .lt _ e=>Zu e
 | .say e=>Zu e
 | .off e=>Zu e
 | .iff e a b=>Zu e∧zam a∧zam b
def zam:Rws→Prop
 | .nil=>True
 | .cons r rs=>zdd r∧zam rs
end
mutual
def Rw.deep:Rw→Nat
 | .iff _ a b=>max a.deep b.deep + 1
 | _=>0
def Rws.deep:Rws→Nat
 | .nil=>0
 | .cons r rs=>max r.deep rs.deep
end
mutual
def Rw.cnt:Rw→Nat
 | .iff _ a b=>max a.cnt b.cnt + 1
 | _=>1
def Rws.cnt:Rws→Nat
 | .nil=>0
 | .cons r rs=>r.cnt + rs.cnt
end
end L2
namespace L2
open PySem
section
variable {P:Program} {w:World} {A:Around} {E:Value→Shared→Prop} {s:Shared}
end
end L2
namespace L2
open PySem PySem.Spec PyProof.Rows
def zan (r d:Addr):HO:=.ext fun h=>h.IsItemsView r d
def zde (td:TE):TE:=fun σ H Q=>td σ H fun x H1=>∃ d kvs,x=.ref d∧H1 d=some (.dT kvs)∧∀ r,H1 r=none→Q (.ref r) (upd H1 r (zan r d))
section
variable {X:Cx} {o:Expr} {apos cpos:Pos} {td:TE}
end
def zdf (H:Hp) (v:V) (kv:List Key × V):Prop:=∃ r p,v=.ref r∧H r=some (.tup [.ref p,kv.2])∧H p=some (.tup (kv.1.map kV))
section
variable {X:Cx} {A:Around} {R:Result→Shared→Prop}
end
end L2
namespace L2
open PySem PySem.Spec PyProof.Rows
abbrev zdF:RC:=fun vs H Q=>∃ r d kvs,vs=[.ref r]∧H r=some (zan r d)∧H d=some (.dT kvs)∧kvs.length≤1000∧∀ l ys H',Same H H'→H l=none→H' l=some (.lst ys)→Paired (zdf H') ys kvs→Q (.ref l) H'
section
variable {X:Cx}
end
end L2
namespace L2
open PySem PySem.Spec PyProof.Rows PySem.W
section
variable {X:Cx}
end
section
variable {P:Program} {w:World} {A:Around} {E:Value→Shared→Prop} {s:Shared}
end
end L2
namespace L2
open PySem PySem.Spec PyProof.Rows PySem.W
def d0:Row:=(("",0),0)
abbrev zdG:RC:=fun vs H Q=>∃ r d rows,vs=[.ref r]∧H r=some (zan r d)∧H d=some (.dT (dOf rows))∧(dOf rows).length < 64 ∧
 ∀ l ys srt H',Same H H'→H l=none→H' l=some (.lst ys)→Paired (zbj H') ys srt→JR srt→(∀ p w,(p,w)∈srt↔ZY rows p=some w)→Q (.ref l) H'
section
variable {X:Cx}
end
end L2
namespace L2
open PySem PySem.Spec PyProof.Rows
def zdg (lo c:Int) (n:Nat):It:=⟨fun i _=>i < n,fun i H x H'=>H'=H∧x=.int (lo + i * c),fun i _=>n≤i⟩
def zdh (i j c:Int):Nat:=if i < j then ((j - i - 1) / c + 1).toNat else 0
def zdH (ta:TA):TI:=fun σ H R=>ta σ H fun vs H1=>∃ i j c:Int,vs=[.int i,.int j,.int c]∧(0≤i∧i < 1073741824∧0≤j∧j < 1073741824∧0 < c∧c < 1073741824)∧R (zdg i c (zdh i j c)) H1
section
variable {X:Cx} {tg:Expr}
end
end L2
namespace L2
open PySem
structure StOk (n:Nat) (s:Sta):Prop where
 so:Y7 s.sl
 wo:∀ r∈s.wo,inW r.2=true
 l1:s.sl.length≤n
 l2:s.wo.length≤n
 l3:s.sa.length≤n
theorem StOk.mono {n m:Nat} {s:Sta} (h:StOk n s) (l:n≤m):StOk m s:=⟨h.so,h.wo,Nat.le_trans h.l1 l,Nat.le_trans h.l2 l,Nat.le_trans h.l3 l⟩
theorem zbm {P:Row→Prop} {p:Pl} {w:Int}:∀ {l:List Row},(∀ r∈l,P r)→ZY l p=some w→P (p,w)
 | [],_,h=>by cases h
 | r :: t,hp,h=>by
  rw [ZY] at h
  cases e:ZY t p with
  | some w' =>
   rw [e] at h
   have:w'=w:=by simpa using h
   subst this
   exact zbm (fun r hr=>hp r (List.mem_cons_of_mem _ hr)) e
  | none =>
   rw [e] at h
   by_cases c:r.1=p
   ·rw [if_pos c] at h
    have:r.2=w:=by simpa using h
    rw [← c,← this];exact hp r List.mem_cons_self
   ·rw [if_neg c] at h;cases h
mutual
def zdi (P:Pl→Prop):Rw→Prop
 | .give sh e _=>∀ kvs n,rk kvs e=.ok n→P (sh,n)
 | .iff _ a b=>zao P a∧zao P b
 | _=>True
def zao (P:Pl→Prop):Rws→Prop
 | .nil=>True
 | .cons r rs=>zdi P r∧zao P rs
end
inductive Oc where
 | done (sa:List Int)
 | off (why:Str)
def zcN:Er→Str
 | .great=>"great"
 | _=>"nought"
def zce (rws:Rws) (tab:List Row) (oc:Oc) (out:List Row):Prop:=match zbl rws ⟨[],tab,[]⟩ with
 | .go s=>oc=.done s.sa∧zcL s.wo out
 | .off=>oc=.off "told"∧out=tab
 | .er e=>oc=.off (zcN e)∧out=tab
inductive zcf:List Rws→List Row→List Oc→List Row→Prop
 | nil {tab:List Row}:zcf [] tab [] tab
 | cons {d:Rws} {ds:List Rws} {tab mid out:List Row} {oc:Oc} {ocs:List Oc}:zce d tab oc mid→zcf ds mid ocs out→zcf (d :: ds) tab (oc :: ocs) out
def YR:V→PyData
 | .int i=>.int i
 | .str x=>.str x
 | _=>.none
def plV (v:V):Prop:=(∃ i,v=.int i)∨∃ x,v=.str x∧PyData.strOk x=true
def Xt (e:List V):PyData:=.tuple (e.map YR)
mutual
def rwD:Rw→PyData
 | .take sh e sl=>.tuple [.str "take",.str sh,Xt e,.str sl]
 | .give sh e f=>.tuple [.str "give",.str sh,Xt e,Xt f]
 | .lt sl e=>.tuple [.str "let",.str sl,Xt e]
 | .say e=>.tuple [.str "say",Xt e]
 | .off e=>.tuple [.str "off",Xt e]
 | .iff e a b=>.tuple [.str "if",Xt e,.list (zcg a),.list (zcg b)]
def zcg:Rws→List PyData
 | .nil=>[]
 | .cons r rs=>rwD r :: zcg rs
end
def tmP (e:List V):Prop:=∀ v∈e,plV v
mutual
def zdj:Rw→Prop
 | .take sh e sl=>PyData.strOk sh=true∧tmP e∧PyData.strOk sl=true
 | .give sh e f=>PyData.strOk sh=true∧tmP e∧tmP f
 | .lt sl e=>PyData.strOk sl=true∧tmP e
 | .say e=>tmP e
 | .off e=>tmP e
 | .iff e a b=>tmP e∧zap a∧zap b
def zap:Rws→Prop
 | .nil=>True
 | .cons r rs=>zdj r∧zap rs
end
section
variable {K:PySem.W.Frag} {H:Hp} {F:Addr→Prop}
theorem zaq {v:V} (h:plV v):Dat K H v (YR v):=by
 rcases h with ⟨i,rfl⟩ | ⟨x,rfl,_⟩
 ·exact .int i
 ·exact .str x
theorem Qj:∀ {e:List V},tmP e→DatAll K H e (e.map YR)
 | [],_=>.nil
 | v :: r,h=>.cons (zaq (h v List.mem_cons_self)) (Qj fun u hu=>h u (List.mem_cons_of_mem _ hu))
end
theorem V0:∀ {e:List V},tmP e→wg (e.map YR)=true
 | [],_=>by simp [wg]
 | v :: r,h=>by
  rw [List.map_cons,wg,V0 fun u hu=>h u (List.mem_cons_of_mem _ hu),Bool.and_true]
  rcases h v List.mem_cons_self with ⟨i,rfl⟩ | ⟨x,rfl,hx⟩
  ·rw [YR,yc]
  ·rw [YR,yc];exact hx
theorem JS:∀ (e:List V),PyData.depthAll (e.map YR)=0
 | []=>by simp [PyData.depthAll]
 | v :: r=>by
  rw [List.map_cons,PyData.depthAll,JS r]
  cases v <;> simp [YR,PyData.depth]
def Rws.snoc:Rws→Rw→Rws
 | .nil,x=>.cons x .nil
 | .cons r rs,x=>.cons r (rs.snoc x)
def Rws.app:Rws→Rws→Rws
 | .nil,x=>x
 | .cons r rs,x=>.cons r (rs.app x)
end L2
namespace L2
open PySem PySem.Spec PyProof.Rows
abbrev y0:RM:=fun x xs H Q=>∃ a b,x=.str a∧xs=[.str b]∧(b.length == 0)=false∧a.length≤100000∧(Txt.split a b).length≤100000∧∀ l,H l=none→Q (.ref l) (upd H l (.lst ((Txt.split a b).map V.str)))
theorem ZZ:∀ (l:List (Str × Tok)),Vals ((l.map (·.1)).map V.str) (strValues l)
 | []=>.nil
 | p :: r=>.cons ⟨p.2,rfl⟩ (ZZ r)
section
variable {X:Cx}
theorem Z4:MtM X "str.split" y0:=by
 intro pins s σ H x xs v us Q I rx rs h
 obtain ⟨a,b,rfl,rfl,hb,ha,hl,q⟩:=h
 obtain ⟨t,rfl⟩:=rx
 obtain ⟨u,rfl,t',rfl⟩:=ZM rs
 have hs:sizeLine=16777216:=sizeLine_eq
 have fin:∀ (l:List (Str × Tok)) (tk c:Nat),l.map (·.1)=Txt.split a b→EP X pins σ Q (.ref s.heap.objs.size) { s with heap:=s.heap.push { cls:=.type "list",data:=.seq (strValues l).toArray c },toks:=tk }:=fun l tk c e=>by
  have hn:H s.heap.objs.size=none:=I.hok.fresh (Nat.le_refl _)
  have vv:=ZZ l
  rw [e] at vv
  refine ⟨.ref s.heap.objs.size,_,I.laid (a:=s.heap.objs.size) (o:=.lst ((Txt.split a b).map V.str)) (t':=tk) (fun b u e=>Heap.get?_push_of_some _ e) (Nat.le_refl _) ⟨by rw [List.length_map];lia,strValues l,c,vv,Heap.get?_push_size _ rfl⟩,rfl,q _ hn⟩
 cases h1:(decide (a.length < b.length) || decide (Builtin.Str.strKind a < Builtin.Str.strKind b))
 ·cases hf:(Builtin.Str.occurrences a b 0 a.length (a.length + 1)).isEmpty
  ·have e0:Txt.split a b=Builtin.Str.partsBetween a (Builtin.Str.occurrences a b 0 a.length (a.length + 1)) b.length:=(if_neg (ne_true_of_eq_false h1)).trans (if_neg (ne_true_of_eq_false hf))
   refine call_meets F.slot_str_split (typeIs_str _ _ _) F.entry_str_split (F.args_str_split_2 _ _) (meets_str_split_sep a b t t' h1 hb hf (by lia) (by rw [← e0];lia)) ?_
   rw [strsFrom_eq]
   exact fin (numbered s.toks _) _ _ ((numbered_texts _ _).trans e0.symm)
  ·exact call_meets F.slot_str_split (typeIs_str _ _ _) F.entry_str_split (F.args_str_split_2 _ _) (meets_str_split_not_found a b t t' h1 hb hf)
    (fin [(a,t)] _ _ ((if_neg (ne_true_of_eq_false h1)).trans (if_pos hf)).symm)
 ·exact call_meets F.slot_str_split (typeIs_str _ _ _) F.entry_str_split (F.args_str_split_2 _ _) (meets_str_split_cannot_occur a b t t' h1)
   (fin [(a,t)] _ _ (if_pos h1).symm)
end
def EL (e it p:Addr) (k:Nat) (h:Heap):Prop:=(∃ old,IsEnum h e it (k:Int) old)∧h.IsListIter it p k
def zar (K:PySem.W.Frag) (p:Addr) (xs:List V):It:=⟨fun i H=>i < xs.length∧SqL K H p xs,fun i H x H'=>∃ T u,x=.ref T∧H T=none∧H'=upd H T (.tup [.int i,u])∧xs[i]?=some u,fun i H=>xs.length≤i∧SqL K H p xs⟩
theorem JT {P:Program} {w:World} {K:PySem.W.Frag} {elts:List Expr} {x1} {pos:Pos} {e it p:Addr} {xs:List V} (hei:e≠it) :
  K0 P w K (.Tuple elts x1 pos) (zar K p xs) [e,it] e (EL e it p) where
 mem:=by simp
 obj:=fun k h st c hc=>by
  obtain ⟨⟨old,he⟩,⟨oi,hi,ci,di⟩⟩:=st
  simp only [List.mem_cons,List.not_mem_nil,or_false] at hc
  rcases hc with rfl | rfl
  ·exact ⟨_,he,fun v z=>by cases z⟩
  ·exact ⟨_,hi,fun v z=>by rw [di] at z;cases z⟩
 keep:=fun k h h' st kk=>by
  obtain ⟨⟨old,he⟩,⟨oi,hi,ci⟩⟩:=st
  exact ⟨⟨old,kk e (by simp) _ he⟩,⟨oi,kk it (by simp) _ hi,ci⟩⟩
 item:=by
  intro X hP hw hK hc k pins s σ H E I hf st hg
  subst hP hw hK
  obtain ⟨hlt,h1⟩:=hg
  obtain ⟨us,r1,p1,_⟩:=I.list h1
  obtain ⟨u,hu,ru⟩:=r1.get (i:=k) (x:=xs[k]) (List.getElem?_eq_getElem hlt)
  have old:∀ c∈[e,it],c≠s.heap.objs.size:=fun c hc=>by
   obtain ⟨⟨old,he⟩,⟨oi,hi,ci⟩⟩:=st
   simp only [List.mem_cons,List.not_mem_nil,or_false] at hc
   rcases hc with rfl | rfl
   ·exact Nat.ne_of_lt (Heap.lt_size he)
   ·exact Nat.ne_of_lt (Heap.lt_size hi)
  obtain ⟨⟨o0,he⟩,hi⟩:=st
  refine wpAny_pyNext_enum_item he hi p1.isList (x:=u) (by simpa using hu) hei fun h e8 i5 t5 sz k5=>?_
  have I6:Inv X pins σ (upd H s.heap.objs.size (.tup [.int k,xs[k]])) { s with heap:=s.heap.push { cls:=.type "tuple",data:=.seq #[.int k s.toks,u] },toks:=s.toks + 1 } :=
   I.laid (a:=s.heap.objs.size) (o:=.tup [.int k,xs[k]]) (t':=s.toks + 1) (fun b u e=>Heap.get?_push_of_some _ e) (Nat.le_refl _) ⟨by show 2≤sizeLine;decide,[.int k s.toks,u],.cons ⟨_,rfl⟩ (.cons ru .nil),⟨_,Heap.get?_push_size _ rfl,rfl,_,rfl⟩⟩
  have free:∀ c∈[e,it],upd H s.heap.objs.size (HO.tup [.int k,xs[k]]) c=none:=fun c hc=>by rw [zw (old c hc)];exact (hf c hc).1
  have fz:∀ c∈[e,it],Zj X pins (upd H s.heap.objs.size (HO.tup [.int k,xs[k]])) c:=fun c hc=>⟨free c hc,(hf c hc).2⟩
  refine ⟨.ref s.heap.objs.size,rfl,wpAny_letOwnedTupleGo_enum e8 fun h2 z9 sb2=>?_⟩
  have up:∀ c o,c≠e→h.get? c=some o→h2.get? c=some o:=fun c o hc e=>by
   rw [show h2.get? c=h.get? c from sb2.2 c hc];exact e
  have I7:Inv X pins σ (upd H s.heap.objs.size (.tup [.int k,xs[k]])) { s with heap:=h2,toks:=s.toks + 1 }:=I6.turnedL (s:={ s with heap:=s.heap.push { cls:=.type "tuple",data:=.seq #[.int k s.toks,u] },toks:=s.toks + 1 }) (t':=s.toks + 1) (ch:=[e,it]) (fun c o hc e=>by
   simp only [List.mem_cons,List.not_mem_nil,or_false,not_or] at hc
   refine up c o hc.1 ?_
   rcases Heap.get?_push_cases (show (s.heap.push { cls:=.type "tuple",data:=.seq #[.int k s.toks,u] }).get? c=some o from e) with ⟨rfl,rfl⟩ | e
   ·exact t5
   ·exact k5 c o hc.1 hc.2 e) fun c hc=>fz c hc
  refine ⟨.ref s.heap.objs.size,_,I7,rfl,⟨_,_,rfl,I.hok.fresh (Nat.le_refl _),rfl,List.getElem?_eq_getElem hlt⟩,?_,free⟩
  obtain ⟨oi,hi,ci⟩:=i5
  exact ⟨⟨_,z9⟩,⟨oi,up it _ (Ne.symm hei) hi,ci⟩⟩
 done:=by
  intro X hP hw hK hc k pins s σ H E I hf st hg
  subst hP hw hK
  obtain ⟨hlt,h1⟩:=hg
  obtain ⟨us,r1,p1,_⟩:=I.list h1
  have hl1:=r1.length
  obtain ⟨⟨o0,he⟩,hi⟩:=st
  refine wpAny_pyNext_enum_end (I.ok.hd hc) he hi p1.isList (by simp;lia) fun h hk=>⟨rfl,I.turnedL (t':=s.toks) (ch:=[e,it]) (fun c o hc e=>?_) fun c hc=>hf c hc⟩
  simp only [List.mem_cons,List.not_mem_nil,or_false,not_or] at hc
  exact hk c o hc.2 e
 self:=fun _ _ _ _ _ st h=>by
  obtain ⟨⟨o0,he⟩,hi⟩:=st
  exact wpAny_pyIter_enum he h
def Qk (K:PySem.W.Frag) (ta:TA):TI:=fun σ H R=>ta σ H fun vs H1=>∃ p xs,vs=[.ref p]∧SqL K H1 p xs∧R (zar K p xs) H1
section
variable {X:Cx}
theorem zbn {elts:List Expr} {x1} {tp:Pos} {e1:Expr} {ta:TA} {p pos:Pos} (hg:Gl X "enumerate") (hm:X.mg "enumerate"=none) (ha:PA X [e1] ta) (he:starEach [e1] X.env=(false,eval e1 X.env) :: starEach [] X.env:=by rfl) (hpl:(backTo pos (starEach [] X.env)).any (·.1)=false:=by rfl) :
  PI X (.Tuple elts x1 tp) (.Call (.Name "enumerate" p) [e1] [] pos) (Qk X.K ta):=by
 intro pins s σ H R I h
 refine Call_ (Zh I hg hm WX (PyProof.Rows.callWith_type1 (thn (ha pos pins s σ H _ I h) fun us s1 ⟨vs,H1,I1,r1,q1⟩=>?_) he hpl))
 obtain ⟨a,xs,e,h1,q⟩:=q1
 subst e
 obtain ⟨u1,rfl,ra⟩:=ZM r1
 cases ra
 obtain ⟨us1,r1,p1,_⟩:=I1.list h1
 refine call_enumerate_list p1.isList fun h' e0 i0 _ k=>?_
 refine wpAny_pyIter_enum (s:={ s1 with heap:=h' }) e0 ?_
 generalize hn:s1.heap.objs.size=n at *
 have ne:∀ {x y:Nat},x≠y→(show Addr from x)≠(show Addr from y):=fun h=>h
 refine ⟨_,_,_,_,H1,rfl,I1.kept (t':=s1.toks) k,JT (e:=n + 1) (it:=n) (ne (by lia)),⟨⟨_,e0⟩,i0⟩,fun c hc=>?_,q⟩
 simp only [List.mem_cons,List.not_mem_nil,or_false] at hc
 have hc:n≤c:=by rcases hc with rfl | rfl <;> first | exact Nat.le_add_right _ _ | exact Nat.le_refl _
 exact I1.fpOk (by rw [hn];exact hc) (I1.hok.fresh (by rw [hn];exact hc))
end
section
variable {σ:St} {H:Hp} {nx:St→Hp→Prop} {B:V→St→Hp→(St→Hp→Prop)→Prop}
theorem JU {K:PySem.W.Frag} {p:Addr} (xs:List V) (Pv:Nat→St→Hp→Prop) (h0:Pv 0 σ H) (hl:∀ i σ H,Pv i σ H→SqL K H p xs)
  (hs:∀ i u T σ H,xs[i]?=some u→H T=none→Pv i σ H→B (.ref T) σ (upd H T (.tup [.int i,u])) (Pv (i + 1))) (hd:∀ σ H,Pv xs.length σ H→nx σ H) :
  ∃ W:Nat→Nat→St→Hp→Prop,(∃ m,W 0 m σ H)∧∀ i m σ H,W i m σ H→((zar K p xs).stop i H∧nx σ H)∨((zar K p xs).go i H∧∃ N:St→Hp→Prop,(∀ σ' H',N σ' H'→∃ m',m' < m∧W (i + 1) m' σ' H')∧∀ x H',(zar K p xs).yld i H x H'→B x σ H' N):=by
 refine ⟨fun i m σ H=>m=xs.length - i∧i≤xs.length∧Pv i σ H,⟨xs.length,by simp,Nat.zero_le _,h0⟩,?_⟩
 rintro i m σ H ⟨rfl,hi,pv⟩
 by_cases hlt:i < xs.length
 ·refine .inr ⟨⟨hlt,hl i σ H pv⟩,Pv (i + 1),fun σ' H' p'=>⟨xs.length - (i + 1),by lia,rfl,hlt,p'⟩,?_⟩
  rintro x H' ⟨T,u,rfl,hT,rfl,hu⟩
  exact hs i u T σ H hu hT pv
 ·obtain rfl:i=xs.length:=by lia
  exact .inl ⟨⟨Nat.le_refl _,hl _ σ H pv⟩,hd σ H pv⟩
end
end L2
namespace L2
open PySem PySem.Spec PyProof.Rows
theorem zas {c:Nat}:∀ {a b r s:List Nat},c ∉ a→c ∉ b→a ++ c :: r=b ++ c :: s→a=b∧r=s
 | [],[],r,s,_,_,h=>by simpa using h
 | [],y :: b,r,s,_,hb,h=>by
  simp only [List.nil_append,List.cons_append,List.cons.injEq] at h
  exact absurd h.1 (fun z=>hb (by rw [z];exact List.mem_cons_self))
 | x :: a,[],r,s,ha,_,h=>by
  simp only [List.nil_append,List.cons_append,List.cons.injEq] at h
  exact absurd h.1.symm (fun z=>ha (by rw [z];exact List.mem_cons_self))
 | x :: a,y :: b,r,s,ha,hb,h=>by
  simp only [List.cons_append,List.cons.injEq] at h
  obtain ⟨e1,e2⟩:=zas (fun z=>ha (List.mem_cons_of_mem _ z)) (fun z=>hb (List.mem_cons_of_mem _ z)) h.2
  exact ⟨by rw [h.1,e1],e2⟩
theorem Ql {sep x y:Str} {r:List Str}:Str.join sep (x :: y :: r)=x ++ sep ++ Str.join sep (y :: r):=rfl
theorem xC {c:Nat} {x y:Str} {r:List Str}:(Str.join ⟨#[c]⟩ (x :: y :: r)).cps.toList=x.cps.toList ++ c :: (Str.join ⟨#[c]⟩ (y :: r)).cps.toList:=by
 rw [Ql,W0,W0,List.append_assoc];rfl
theorem V1 {c:Nat}:∀ {a b:List Str},a≠[]→b≠[]→(∀ p∈a,c ∉ p.cps.toList)→(∀ p∈b,c ∉ p.cps.toList)→Str.join ⟨#[c]⟩ a=Str.join ⟨#[c]⟩ b→a=b
 | [],_,h,_,_,_,_=>absurd rfl h
 | _,[],_,h,_,_,_=>absurd rfl h
 | [x],[y],_,_,_,_,e=>by
  have e:x=y:=e
  rw [e]
 | [x],y :: z :: s,_,_,ha,_,e=>by
  have e1:(Str.join ⟨#[c]⟩ _).cps.toList=(Str.join ⟨#[c]⟩ _).cps.toList:=congrArg (fun w:Str=>w.cps.toList) e
  rw [xC] at e1
  have e2:x.cps.toList=y.cps.toList ++ c :: (Str.join ⟨#[c]⟩ (z :: s)).cps.toList:=e1
  exact absurd (by rw [e2];simp) (ha x List.mem_cons_self)
 | x :: z :: r,[y],_,_,_,hb,e=>by
  have e1:(Str.join ⟨#[c]⟩ _).cps.toList=(Str.join ⟨#[c]⟩ _).cps.toList:=congrArg (fun w:Str=>w.cps.toList) e
  rw [xC] at e1
  have e2:x.cps.toList ++ c :: (Str.join ⟨#[c]⟩ (z :: r)).cps.toList=y.cps.toList:=e1
  exact absurd (by rw [← e2];simp) (hb y List.mem_cons_self)
 | x :: z :: r,y :: w :: s,_,_,ha,hb,e=>by
  have e1:(Str.join ⟨#[c]⟩ _).cps.toList=(Str.join ⟨#[c]⟩ _).cps.toList:=congrArg (fun w:Str=>w.cps.toList) e
  rw [xC,xC] at e1
  obtain ⟨e2,e3⟩:=zas (ha x List.mem_cons_self) (hb y List.mem_cons_self) e1
  rw [vE e2,V1 (a:=z :: r) (b:=w :: s) (by simp) (by simp) (fun p hp=>ha p (List.mem_cons_of_mem _ hp)) (fun p hp=>hb p (List.mem_cons_of_mem _ hp)) (vE e3)]
theorem V2 (x y:Str):Txt.split x y≠[]:=by
 unfold Txt.split
 split
 ·simp
 ·split
  ·simp
  ·rw [StrLaws.partsBetween_eq]
   obtain ⟨p,r,e⟩:=StrLaws.partsFrom_ne x y.length 0 (Builtin.Str.occurrences x y 0 x.length (x.length + 1))
   rw [e];simp
theorem JV {c:Nat} {ws:List Str} (h:ws≠[]) (hf:∀ p∈ws,c ∉ p.cps.toList):Txt.split (Str.join ⟨#[c]⟩ ws) ⟨#[c]⟩=ws :=
 V1 (V2 _ _) h (StrLaws.split_free _ c) hf (StrLaws.join_split _ _)
theorem Z5 (sep:Str) (ls:List Str):Ky sep ls=Str.join sep ls:=by
 match ls with
 | []=>exact StrLaws.glued_eq_join sep []
 | [p]=>rfl
 | a :: b :: r=>exact StrLaws.glued_eq_join sep (a :: b :: r)
end L2
namespace L2
open PySem PySem.Spec PyProof.Rows
abbrev zdI (K:PySem.W.Frag):RC:=fun xs H Q=>∃ (x:V) (p:Addr) (t:Value) (Ts:List String) (b:Bool),xs=[x,.ref p]∧Zn K H x t∧H p=some (.tup (Ts.map V.ty))∧PySem.W.kitAny K t (Ts.map Value.type)=some b∧Q (.bl b) H
section
variable {X:Cx}
end
section
variable {prog:Program} {w:World} {A:Around} {E:Value→Shared→Prop} {s:Shared}
theorem V3 {l:Addr} {items:Array Value} {n:Nat} {k:Int} {t:Tok} {v:Value} {Q:Unit→Shared→Prop} (hl:s.heap.get? l=some { cls:=.type "list",data:=.seq items n })
  (h0:k < 0) (h1:-(items.size:Int)≤k) (hfit:-(2 ^ 63)≤k) (hQ:Q () { s with heap:=s.heap.update l (Obj.mapSeq (·.setIfInBounds (k + items.size).toNat v)) }) :
  wpAny (model prog w) A (setItem (.ref l) (.int k t) v) Q E s:=by
 have hL:s.heap.IsList l items:=⟨_,hl,rfl,n,rfl⟩
 unfold setItem
 try with_reducible refine wpAny_holding ?_
 first | refine wpAny_bind (wpAny_pure ?_) | skip
 refine wpAny_bind (wpAny_sequenceKey hL.typeIs (by decide) ?_)
 refine wpAny_bind (wpAny_callSpecial?_slot (name:=Str.ofString "__setitem__") hL.typeIs slot_list_setitem
  (wpAny_call_entry slot_list_setitem hL.typeIs entry_list_setitem ?_ (args_list_setitem _ _ _)))
 show wpAny _ _ (Builtin.List.listSubscript? (.int k t) >>= _) _ _ s
 refine wpAny_bind (wpAny_listSubscript_int (fitsIndex_neg h0 hfit) ?_)
 clear hfit
 have hidx:=seqIndex_neg h0 h1
 have hx:items[(k + items.size).toNat]?=some (items[(k + items.size).toNat]'(by lia)):=Array.getElem?_eq_getElem (by lia)
 obtain ⟨j,rfl⟩:∃ j:Nat,k=Int.negSucc j:=by
  cases k with
  | ofNat n=>exact absurd h0 (Int.not_lt.mpr (Int.ofNat_nonneg n))
  | negSucc n=>exact ⟨n,rfl⟩
 show wpAny _ _ ((Builtin.List.listItems (.ref l) >>= fun xs=>pure ((seqIndex? (Int.negSucc j) xs.size).bind fun i=>xs[i]?.map (i,·))) >>= _) _ _ s
 refine wpAny_bind (wpAny_bind ?_)
 show wpAny _ _ (seqItems? (.ref l) >>= _) _ _ s
 refine wpAny_bind (wpAny_seqItems hl rfl (wpAny_pure (wpAny_pure ?_)))
 rw [hidx]
 simp only [Option.bind_some,hx,Option.map_some]
 refine wpAny_bind (wpAny_setSeqItemAt hl rfl ?_)
 first
  | exact wpAny_bind (wpAny_pure (wpAny_pure ⟨.none,rfl,wpAny_pure hQ⟩))
  | exact wpAny_pure ⟨.none,rfl,wpAny_pure hQ⟩
theorem V4 {l:Addr} {items:Array Value} {n j:Nat} {k:Int} {t:Tok} {v:Value} {Q:Unit→Shared→Prop} (hl:s.heap.get? l=some { cls:=.type "list",data:=.seq items n })
  (h0:0≤k) (hfit:k < 2 ^ 63) (hkj:k.toNat=j) (hn:j < items.size) (hQ:Q () { s with heap:=s.heap.update l (Obj.mapSeq (·.setIfInBounds j v)) }) :
  wpAny (model prog w) A (setItem (.ref l) (.int k t) v) Q E s:=by
 have hL:s.heap.IsList l items:=⟨_,hl,rfl,n,rfl⟩
 unfold setItem
 try with_reducible refine wpAny_holding ?_
 first | refine wpAny_bind (wpAny_pure ?_) | skip
 refine wpAny_bind (wpAny_sequenceKey hL.typeIs (by decide) ?_)
 refine wpAny_bind (wpAny_callSpecial?_slot (name:=Str.ofString "__setitem__") hL.typeIs slot_list_setitem
  (wpAny_call_entry slot_list_setitem hL.typeIs entry_list_setitem ?_ (args_list_setitem _ _ _)))
 show wpAny _ _ (Builtin.List.listSubscript? (.int k t) >>= _) _ _ s
 refine wpAny_bind (wpAny_listSubscript_int (fitsIndex_of h0 hfit) ?_)
 clear hfit
 obtain ⟨j',rfl⟩:=Int.eq_ofNat_of_zero_le h0
 have hkj:j'=j:=hkj
 subst hkj
 have hx':items[j']?=some items[j']:=Array.getElem?_eq_getElem hn
 show wpAny _ _ ((seqItemAt l j' >>= fun r=>pure (r.map (j',·))) >>= _) _ _ s
 refine wpAny_bind (wpAny_bind (wpAny_seqItemAt hl rfl (wpAny_pure ?_)))
 rw [hx']
 refine wpAny_bind (wpAny_setSeqItemAt hl rfl ?_)
 first
  | exact wpAny_bind (wpAny_pure (wpAny_pure ⟨.none,rfl,wpAny_pure hQ⟩))
  | exact wpAny_pure ⟨.none,rfl,wpAny_pure hQ⟩
end
def zat (td ty tv:TE):TS:=fun D σ H=>tv σ H fun v H1=>td σ H1 fun x H2=>ty σ H2 fun y H3=>∃ a xs i j,x=.ref a∧y=.int i∧H3 a=some (.lst xs)∧ixN xs.length i=some j∧(-1000≤i∧i≤1000)∧D.nx σ (upd H3 a (.lst (xs.set j v)))
theorem V5 {v:V} {u:Value} (r:RelV v u):∀ {xs:List V} {us:List Value},Vals xs us→∀ j:Nat,Vals (xs.set j v) (us.set j u)
 | _,_,.nil,_=>.nil
 | _,_,.cons _ t,0=>.cons r t
 | _,_,.cons a t,j + 1=>.cons a (V5 r t j)
section
variable {X:Cx} {o i value:Expr} {pos pos':Pos} {td ty tv:TE}
theorem zbo (ho:PE X o td) (hi:PE X i ty) (hv:PE X value tv) (hs:swapsWith value (some (.Subscript o i pos')) pos.line X.env=pure false) :
  PS X (.Assign [.Subscript o i pos'] value pos) (zat td ty tv):=by
 intro pins s σ H D I h
 refine wpAny_Assign_Subscript (thn (hv pins s σ H _ I h) fun r s1 ⟨v,H1,I1,rv,q1⟩=>thn (ho pins s1 σ H1 _ I1 q1) fun u s2 ⟨x,H2,I2,rx,q2⟩=>thn (hi pins s2 σ H2 _ I2 q2) fun iv s3 ⟨y,H3,I3,ry,a,xs,k,j,ex,ey,ea,hj,hk,q3⟩=>?_) hs
 subst ex ey
 obtain rfl:u=Value.ref a:=rx
 obtain ⟨t,rfl⟩:=ry
 obtain ⟨z,its,n,rl,hl,e⟩:=I3.lstM ea
 have fin:SP X pins D .next { s3 with heap:=s3.heap.update a (Obj.mapSeq (·.setIfInBounds j r)) }:=⟨σ,_,I3.lset (its':=its.set j r) (t':=s3.toks) ea e (by simp) (V5 rv rl _) (by rw [List.length_set];exact z),q3⟩
 unfold ixN at hj
 by_cases h0:0≤k
 ·rw [if_pos h0] at hj
  split at hj
  ·rename_i h1
   cases hj
   exact V4 e h0 (by lia) rfl (by rw [List.size_toArray,← hl];lia) fin
  ·cases hj
 ·rw [if_neg h0] at hj
  split at hj
  ·rename_i h1
   cases hj
   refine V3 e (by lia) (by rw [List.size_toArray,← hl];exact h1) (by lia) ?_
   rw [List.size_toArray,← hl]
   exact fin
  ·cases hj
end
section
variable {X:Cx} {st:Stmt} {hs:List ExceptHandler} {pos:Pos} {tb:TS}
end
end L2
namespace L2
open PySem PySem.Spec PyProof.Rows
def zdJ (K:PySem.W.Frag) (ta:TA):TI:=fun σ H R=>ta σ H fun vs H1=>∃ p q xs ys,vs=[.ref p,.ref q]∧xs.length=ys.length∧((SqL K H1 p xs∧SqL K H1 q ys∧R (zcM K p q xs ys) H1)∨(SqT K H1 p xs∧SqT K H1 q ys∧R (Itz K p q xs ys) H1))
section
variable {X:Cx}
abbrev y6 (K:PySem.W.Frag):R2:=fun x y H Q=>∃ a b xs,x=.ref a∧y=.ref b∧SqL K H a xs∧SqL K H b []∧Q (.bl (!decide (xs=[]))) H
theorem kg (hu:X.A.units + 64 < cLine):OpR X (compareOp .NotEq) (y6 X.K):=by
 intro pins s σ H x y v u Q I rx ry h
 obtain ⟨a,b,xs,rfl,rfl,ha,hb,q⟩:=h
 by_cases e:xs=[]
 ·subst e
  exact zcb hu pins s σ H _ _ v u Q I rx ry ⟨a,b,[],[],rfl,rfl,ha,hb,⟨rfl,rfl,rfl⟩,q⟩
 ·cases rx
  cases ry
  obtain ⟨us,r1,p1,_⟩:=I.list ha
  obtain ⟨ws,r2,p2,_⟩:=I.list hb
  cases r2
  have e1:=r1.length
  have e2:xs.length≠0:=fun z=>e (List.eq_nil_of_length_eq_zero z)
  rw [decide_eq_false e] at q
  exact PySem.SeqAt.RcNeAt.lists_lengths p1.isList p2.isList (by simp;intro z;rw [z] at e1;exact e2 e1) (by lia) X.prog X.w X.xe _ ⟨.bl true,H,I,rfl,q⟩
end
mutual
inductive zau (H:Hp):V→PyData→Prop
 | int (i:Int):zau H (.int i) (.int i)
 | str (x:Str):zau H (.str x) (.str x)
 | lst {a:Addr} {xs:List V} {ds:List PyData}:H a=some (.lst xs)→V6 H xs ds→zau H (.ref a) (.list ds)
 | tup {a:Addr} {xs:List V} {ds:List PyData}:H a=some (.tup xs)→V6 H xs ds→zau H (.ref a) (.tuple ds)
inductive V6 (H:Hp):List V→List PyData→Prop
 | nil:V6 H [] []
 | cons {x:V} {d:PyData} {xs:List V} {ds:List PyData}:zau H x d→V6 H xs ds→V6 H (x :: xs) (d :: ds)
end
end L2
namespace L2
open PySem
end L2
namespace L2
open PySem
abbrev zbI:RM:=za6
end L2
namespace L2
open PySem PySem.Spec PyProof.Rows
abbrev zch:RM:=zbZ
abbrev zdK (K:PySem.W.Frag):RC:=fun xs H Q=>∃ a,∃ ns:List Int,xs=[.ref a]∧SqL K H a (ns.map V.int)∧Q (.int ns.sum) H
abbrev zdL (K:PySem.W.Frag):RC:=fun xs H Q=>∃ a,∃ ns:List Int,xs=[.ref a]∧SqL K H a (ns.map V.int)∧0 < ns.length∧∀ M,M∈ns→(∀ x∈ns,x≤M)→Q (.int M) H
section
variable {X:Cx}
end
end L2
namespace L2
open PySem PySem.Spec PyProof.Rows
abbrev zdM:RC:=fun xs H Q=>∃ i j,xs=[.int i,.int j]∧Q (.int (if j > i then j else i)) H
abbrev V7 (K:PySem.W.Frag) (neg:Bool):R2:=fun x y H Q=>∃ (p:Addr) (xs:List V) (d:PyData) (ds:List PyData),y=.ref p∧(SqL K H p xs∨SqT K H p xs)∧Dat K H x d∧DatAll K H xs ds∧(yc d=true∧d.depth≤50∧∀ e∈ds,yc e=true) ∧
 ∀ b:Bool,(b=true↔d∈ds)→Q (.bl (if neg then !b else b)) H
section
variable {X:Cx}
open Classical in
noncomputable def Va (K:PySem.W.Frag) (H:Hp) (d:PyData) (u:Value):Bool:=decide (∃ x,RelV x u∧Dat K H x d)
open Classical in
theorem Xu {K:PySem.W.Frag} {H:Hp} {d:PyData} {u:Value}:Va K H d u=true↔∃ x,RelV x u∧Dat K H x d:=by
 unfold Va
 exact decide_eq_true_iff
theorem DatAll.find {K:PySem.W.Frag} {H:Hp}:∀ {xs:List V} {ds:List PyData} {us:List Value} {u:Value},DatAll K H xs ds→Vals xs us→u∈us→∃ x d,RelV x u∧Dat K H x d∧d∈ds
 | _,_,_,_,.nil,.nil,h=>by cases h
 | _,_,_,u,.cons hx ht,.cons r t,h=>by
  rcases List.mem_cons.mp h with rfl | h
  ·exact ⟨_,_,r,hx,List.mem_cons_self⟩
  ·obtain ⟨x,d,a,b,c⟩:=DatAll.find ht t h
   exact ⟨x,d,a,b,List.mem_cons_of_mem _ c⟩
theorem DatAll.back {K:PySem.W.Frag} {H:Hp}:∀ {xs:List V} {ds:List PyData} {us:List Value} {d:PyData},DatAll K H xs ds→Vals xs us→d∈ds→∃ x u,RelV x u∧Dat K H x d∧u∈us
 | _,_,_,_,.nil,.nil,h=>by cases h
 | _,_,_,u,.cons hx ht,.cons r t,h=>by
  rcases List.mem_cons.mp h with rfl | h
  ·exact ⟨_,_,r,hx,List.mem_cons_self⟩
  ·obtain ⟨x,d,a,b,c⟩:=DatAll.back ht t h
   exact ⟨x,d,a,b,List.mem_cons_of_mem _ c⟩
theorem zav {pins:List (Addr × Obj)} {σ:St} {H:Hp} {s:Shared} {A:Around} {x:V} {v:Value} {xs:List V} {us:List Value} {d:PyData} {ds:List PyData} (I:Inv X pins σ H s) (rx:RelV x v) (hd:Dat X.K H x d) (r:Vals xs us) (hds:DatAll X.K H xs ds)
  (pd:yc d=true) (ld:d.depth≤50) (ps:∀ e∈ds,yc e=true) (hu:A.units + 50 < cLine):∀ u∈us,SeqAt.EqAt A s u v (Va X.K H d u):=fun u hm=>by
 obtain ⟨y,e,ry,hy,me⟩:=hds.find r hm
 obtain ⟨as,ra⟩:=hy.reads I ry
 obtain ⟨bs,rb⟩:=hd.reads I rx
 have key:=SeqAt.eqAt_reads e d A s u v as bs ra rb (Yp (ps e me)) (Yp pd) (by omega)
 have:PyData.eqv e d=Va X.K H d u:=by
  rw [Bool.eq_iff_iff,WC (ps e me) pd]
  rw [Xu]
  constructor
  ·rintro rfl;exact ⟨y,ry,hy⟩
  ·rintro ⟨z,rz,hz⟩
   cases ry.inj rz
   exact Dat.inj I hy hz
 rw [← this];exact key
theorem KC {pins:List (Addr × Obj)} {σ:St} {H:Hp} {s:Shared} {xs:List V} {us:List Value} {d:PyData} {ds:List PyData} (I:Inv X pins σ H s) (r:Vals xs us) (hds:DatAll X.K H xs ds):us.toArray.any (Va X.K H d)=true↔d∈ds:=by
 rw [show us.toArray.any (Va X.K H d)=us.any (Va X.K H d) by simp,List.any_eq_true]
 constructor
 ·rintro ⟨u,hm,h⟩
  rw [Xu] at h
  obtain ⟨z,rz,hz⟩:=h
  obtain ⟨y,e,ry,hy,me⟩:=hds.find r hm
  cases ry.inj rz
  rw [Dat.inj I hz hy];exact me
 ·intro hm
  obtain ⟨y,u,ry,hy,me⟩:=hds.back r hm
  refine ⟨u,me,?_⟩
  rw [Xu]
  exact ⟨y,ry,hy⟩
theorem zaw (hu:X.A.units + 64 < cLine):OpR X (compareOp .In) (V7 X.K false):=by
 intro pins s σ H x y v u Q I rx ry h
 obtain ⟨p,xs,d,ds,rfl,hq,hd,hds,⟨pd,ld,ps⟩,q⟩:=h
 cases ry
 have un:X.A.in1.units + 50 < cLine:=by have e:X.A.in1.units=X.A.units + 1:=rfl;omega
 rcases hq with hq | hq
 ·obtain ⟨its,r,pl,hz⟩:=I.list hq
  exact SeqAt.in_listAt (Va X.K H d) pl.isList (fun w hw=>zav I rx hd r hds pd ld ps un w (by simpa using hw)) ⟨.bl _,H,I,rfl,q _ (KC I r hds)⟩
 ·obtain ⟨its,r,pl,hz⟩:=I.tuple hq
  exact SeqAt.in_tupleAt (Va X.K H d) pl (fun w hw=>zav I rx hd r hds pd ld ps un w (by simpa using hw)) ⟨.bl _,H,I,rfl,q _ (KC I r hds)⟩
end
abbrev zdN (K:PySem.W.Frag):RC:=fun vs H Q=>∃ r xs its,vs=[.ref r]∧SqL K H r xs∧Paired (zbj H) xs its∧(its.map (·.1)).Nodup∧its.length < 64 ∧
 ∀ l ys srt H',Same H H'→H l=none→H' l=some (.lst ys)→Paired (zbj H') ys srt→JR srt→srt.Perm its→Q (.ref l) H'
section
variable {X:Cx}
end
def Cb (i:Int):Prop:=Builtin.Int.intBits i≤1048576
section
variable {X:Cx}
end
open Att PySem.W PySem.Calls in
theorem zax {l:PySem.W.OpenLaw} {n k:Nat} {q:Program} {loose:List Str} {XP:(Str→Option Value)→Heap→Prop} {YP:World→Heap→Prop} {d:DefRec} {K:Params→PySem.W.Frag} {CX:World→CXT} {sp:World→Sp} {x:Str}
  (hn:l.most=some n) (hn2:n≤sizeLine) (hdf:d.params.defaults=[]) (hr:Room k callerA) (hY:∀ (w:World) (h:Heap),YP w h→(K w.params).In h)
  (F:∀ (w:World) (mg:Str→Option Value) (fa:Addr) (h:Heap),(K w.params).In h→h.Ns mainGlobals mg→mg d.name=some (.ref fa) →
   ∃ fd:FuncData,(∀ (s:Shared) (u:Value),BindsTo s fd ⟨[u],[]⟩ [(x,u)]) ∧
    ∀ base:Heap,(K w.params).In base→base.Ns mainGlobals mg→FnOk l.prog w (K w.params) mg base (CX w) k fa fd [x] (sp w))
  (hsp:∀ (w:World) (H:Hp) (a:Addr) (ns:List Int),ns.length≤n→(∀ i∈ns,Cb i)→JD H→SqL (K w.params) H a (ns.map V.int)→sp w [.ref a] H (fun v _=>v=.bl true) fun _ _ _=>False)
  (hCX:∀ (w:World) (H:Hp) (s:Shared) (e:Value) (s':Shared),CX w [] H s (fun _ _ _=>False) e s'→False) :
  PySem.W.WalkO q loose XP YP l.row.toRowW d [] (fun f vs=>PySem.call f vs):=by
 intro w s₀ s₁ mg mb G Y fa o pm cd doc dV kV ho hd hcd hD hmg hg args vals as hpre hlay hrd hwl hlo
 obtain rfl:dV=.none:=Dflts.none hD hdf
 obtain rfl:kV=.none:=Dflts.noKw hD
 obtain ⟨a,vs,ns,rfl,rfl,hobj,hints,hlen⟩:=Wt hn hpre hwl
 have hb:∀ i∈ns,Cb i:=fun i hi=>intBits_le_of_layable (layable_of_mem (lay0_int (layableW_item (layableW_arg hlay _ List.mem_cons_self) _ (List.mem_map.mpr ⟨i,hi,rfl⟩))) List.mem_cons_self)
 have KX:=hY w _ Y
 obtain ⟨fd,hbd,hF⟩:=F w mg fa _ KX G.T.g hmg
 refine enter_call (codeAny_mono (VJ KX G.T.g G.T.b G.T.builtins G.T.nolimit hg hobj hints (Nat.le_trans hlen hn2) hr hF hbd (fun H hO hS=>hsp w H a ns hlen hb hO hS) fun H e s'=>hCX w H s₁ e s') fun r s' hq=>?_)
 obtain ⟨rfl,h2,h3,h4⟩:=hq
 exact ⟨.inl ⟨.bool true,.bool true,[],rfl,fun _=>rfl,.bool true,Wu l _,fun _=>⟨List.Pairwise.nil,fun _ hm=>(nomatch hm)⟩⟩,h2,h3,h4⟩
theorem zcA {l:PySem.W.OpenLaw} {n k:Nat} {q:Program} {loose:List Str} {XP:(Str→Option Value)→Heap→Prop} {YP:World→Heap→Prop} {d:DefRec} {K:Params→PySem.W.Frag} {sp:PySem.W.Frag→Sp} {x:Str}
  (hn:l.most=some n) (hn2:n≤sizeLine) (hdf:d.params.defaults=[]) (hr:Room k callerA) (hY:∀ (w:World) (h:Heap),YP w h→(K w.params).In h)
  (F:∀ (w:World) (mg:Str→Option Value) (fa:Addr) (h:Heap),(K w.params).In h→h.Ns mainGlobals mg→mg d.name=some (.ref fa) →
   ∃ fd:FuncData,(∀ (s:Shared) (u:Value),BindsTo s fd ⟨[u],[]⟩ [(x,u)]) ∧
    ∀ base:Heap,(K w.params).In base→base.Ns mainGlobals mg→FnOk l.prog w (K w.params) mg base (CX1 l.prog w) k fa fd [x] (sp (K w.params)))
  (hsp:∀ (K:PySem.W.Frag) (H:Hp) (a:Addr) (ns:List Int),ns.length≤n→(∀ i∈ns,Cb i)→JD H→SqL K H a (ns.map V.int)→sp K [.ref a] H (fun v _=>v=.bl true) fun _ _ _=>False) :
  PySem.W.WalkO q loose XP YP l.row.toRowW d [] (fun f vs=>PySem.call f vs) :=
 zax (K:=K) (CX:=fun w=>CX1 l.prog w) (sp:=fun w=>sp (K w.params)) hn hn2 hdf hr hY F (fun w H a ns h1 hb h2 h3=>hsp (K w.params) H a ns h1 hb h2 h3) fun _ _ _ _ _ z=>by
  obtain ⟨_,_,_,_,_,_,_,_,_,_,y⟩:=z
  exact y
end L2
namespace L2
open PySem PySem.Spec PyProof.Rows
def Itk (a:Addr) (o:Obj) (kvs:List (Key × V)):It :=
 ⟨fun i H=>H a=some (.frz o (.dK kvs))∧i < kvs.length,fun i H x H'=>H'=H∧∃ k v,kvs[i]?=some (k,v)∧x=kV k,fun i H=>H a=some (.frz o (.dK kvs))∧kvs.length≤i⟩
section
variable {X:Cx}
def iDK (tl:TE):TI:=fun σ H R=>tl σ H fun x H1=>∃ a o kvs,x=.ref a∧H1 a=some (.frz o (.dK kvs))∧R (Itk a o kvs) H1
end
section
variable {σ:St} {H:Hp} {nx:St→Hp→Prop} {B:V→St→Hp→(St→Hp→Prop)→Prop}
end
end L2
namespace L2
open PySem PySem.Spec PyProof.Rows
def zcO (H:Hp) (v:V) (q:Pl):Prop:=∃ p,v=.ref p∧H p=some (.tup [.str q.1,.int q.2])
abbrev zdO (K:PySem.W.Frag):RC:=fun vs H Q=>∃ r xs its,vs=[.ref r]∧SqL K H r xs∧Paired (zcO H) xs its∧its.Nodup∧its.length < 64 ∧
 ∀ l ys srt H',Same H H'→H l=none→H' l=some (.lst ys)→Paired (zcO H') ys srt→srt.Pairwise (fun a b=>Y9 a b=true)→srt.Perm its→Q (.ref l) H'
section
variable {X:Cx}
end
end L2
namespace L2
open PySem PySem.Spec PyProof.Rows
section
variable {K:Type} [DecidableEq K]
end
section
variable {prog:Program} {w:World} {K:Type} [DecidableEq K] {knd:HeapKind prog w K} {A:Around} {E:Value→Shared→Prop} {s:Shared} {d a:Addr} {xs:List (K × Addr × Value)} {k:K}
end
section
variable {X:Cx} {pins:List (Addr × Obj)} {σ:St} {H:Hp} {s:Shared} {a b:Addr} {kvs:List (List Key × V)} {k:List Key} {A:Around} {E:Value→Shared→Prop}
end
def zdk (td ty:TE):TE:=fun σ H Q=>td σ H fun x H1=>∃ a,x=.ref a∧IsD H1 a∧ty σ H1 fun y H2=>∃ kvs k b v,H2 a=some (.dT kvs)∧y=.ref b∧H2 b=some (.tup (k.map kV))∧vF kvs k=some v∧Q v (upd H2 a (.dT (Ws kvs k)))
def zdl (td ty tx:TE):TE:=fun σ H Q=>td σ H fun x H1=>∃ a,x=.ref a∧IsD H1 a∧ty σ H1 fun y H2=>tx σ H2 fun z H3=>∃ kvs k b,H3 a=some (.dT kvs)∧y=.ref b∧H3 b=some (.tup (k.map kV))∧kvs.length < sizeLine ∧
 (∀ v,vF kvs k=some v→Q v H3)∧(vF kvs k=none→Q z (upd H3 a (.dT (YT kvs k z))))
section
variable {X:Cx} {o e f:Expr} {apos cpos:Pos} {td ty tx:TE}
end
abbrev zbJ:RM:=fun x vs H Q=>∃ (l:Addr) (xs:List V) (k:Nat) (y:V),x=.ref l∧vs=[.int k,y]∧H l=some (.lst xs)∧k≤xs.length∧xs.length < 1000000∧Q .non (upd H l (.lst (xs.take k ++ y :: xs.drop k)))
abbrev zbK:RM:=fun x vs H Q=>∃ (l:Addr) (ns:List Int) (i:Int),x=.ref l∧vs=[.int i]∧H l=some (.lst (ns.map V.int))∧i∈ns∧Q .non (upd H l (.lst ((ns.erase i).map V.int)))
section
variable {X:Cx}
end
def zdm (H:Hp) (y:V) (kv:List Key × V):Prop:=∃ p,y=.ref p∧H p=some (.tup (kv.1.map kV))
abbrev zdP:RC:=fun vs H Q=>∃ a kvs,vs=[.ref a]∧H a=some (.dT kvs)∧∀ l ys,H l=none→Paired (zdm H) ys kvs→Q (.ref l) (upd H l (.lst ys))
abbrev zdQ:RC:=fun vs H Q=>∃ a kvs,vs=[.ref a]∧H a=some (.dT kvs)∧Q (.int (kvs.length:Nat)) H
section
variable {X:Cx}
end
end L2
namespace L2
open PySem PySem.Spec PyProof.Rows
section
variable {X:Cx} {c:Expr} {s₁ s₂:Stmt} {tc:TT} {t1 t2:EXK→TS} {pos:Pos}
end
section
variable {X:Cx} {e:Expr} {te:TE} {a b:Str} {j k:Nat} {p1 p2 p3 p4:Pos}
end
end L2
namespace L2
open PySem PySem.Spec PyProof.Rows
section
variable {P:Program} {w:World} {K:PySem.W.Frag} {mg:Str→Option Value} {base:Heap} {x qual:Str} {st:Stmt} {f:Addr} {fd:FuncData} {N ps:List Str} {k:Nat} {sp:Sp}
end
section
variable {X:Cx} {o value:Expr} {f:Str} {pos pos':Pos} {ta:TE} {tx:EXK→TE}
def zdR (K:PySem.W.Frag) (ta:TE) (tx:EXK→TE) (f:Str) (EX:EXK):TS:=YS K ta (tx EX) f
end
def zdS (K:PySem.W.Frag) (tb:EXK→TS) (C1 C2:Addr) (th:TS):TS:=fun D σ H=>tb (fun cls σ1 H1=>∃ C,cls=.ref C∧PySem.W.exmAny K (.ref C) [.ref C1,.ref C2]=some true∧th D σ1 H1) D σ H
section
variable {X:Cx} {st b₀:Stmt} {suite:List Stmt} {tb:EXK→TS} {th:TS} {c1 c2:Str} {C1 C2:Addr} {np np2 hpos tpos pos:Pos} {x1:Nat}
end
section
variable {X:Cx} {CX:CXT} {k:Nat} {f C:Addr} {fd:FuncData} {ps:List Str} {sp:Sp} {dvs:List V} {E:XK} {m:Str} {pos apos:Pos} {o:Expr} {ta:TE}
end
end L2
namespace L2
open PySem PySem.Spec PyProof.Rows
abbrev zea:R2:=fun x y H Q=>∃ a b p r,x=.ref a∧y=.ref b∧H a=some (.tup [.str p.1,.int p.2])∧H b=some (.tup [.str r.1,.int r.2])∧Q (.bl (Y9 p r)) H
section
variable {X:Cx}
open PySem.SeqAt
open PySem.AutoSeq1 (wpAny_loadPart')
open PySem.MeetsSeq PySem.MeetsSeq2 PySem.MeetsSeq3
end
end L2
namespace L2
open PySem PySem.Spec PyProof.Rows
def zdn (C:Addr):TE:=fun _ H Q=>∀ x dx,H x=none→H dx=none→dx≠x→Q (.ref x) (upd (upd H dx (.own x)) x (.ins C dx []))
section
variable {X:Cx} {C:Addr} {x:Str} {p pos:Pos}
end
def zdo (L:List (Addr × Sp)) (m:Str) (E:XK) (ta:TE) (t:TA):TE:=fun σ H Q=>ta σ H fun x H1=>∃ a dx fs C sp,x=.ref a∧H1 a=some (.ins C dx fs)∧fs.lookup m=none∧(C,sp)∈L∧t σ H1 fun vs H2=>sp (x :: vs) H2 Q E
section
variable {X:Cx} {CX:CXT} {E:XK} {m:Str} {pos apos:Pos} {e o:Expr} {es:List Expr} {ta:TE} {t:TA} {L:List (Addr × Sp)} {C:Addr} {sp:Sp}
end
structure zdp (K:PySem.W.Frag) (C:Addr):Prop where
 cl:Cls K C
 ha:PySem.W.findIn K (.ref C) "__class__"=some (some (.builtin "object.__class__"))
 hn:PySem.W.specialIn K (.builtin "object.__class__") "__get__"=some (some (.builtin "getset_descriptor.__get__"))
 tk:PySem.W.takesIn K (.builtin "object.__class__")=some true
 hm:PySem.W.mroIn K C (.type "object")=some true
abbrev zeb (K:PySem.W.Frag):RC:=fun xs H Q=>∃ a C dx fs D b,xs=[.ref a,.ref D]∧H a=some (.ins C dx fs)∧zdp K C∧PySem.W.kitOne K (.ref C) (.ref D)=some b∧Q (.bl b) H
section
variable {X:Cx}
end
end L2
namespace L2
open PySem PySem.Spec PyProof.Rows
abbrev zec (K:PySem.W.Frag):RC:=fun xs H Q=>∃ (a:Addr) (bs:List Bool),xs=[.ref a]∧SqL K H a (bs.map V.bl)∧Q (.bl (bs.any id)) H
section
variable {X:Cx}
end
def zdT (te ts:TE):TE:=fun σ H Q=>te σ H fun x H1=>ts σ H1 fun k H2=>∃ z y,x=.str z∧k=.int (-1)∧z.length≤sizeLine∧(∀ u,Txt.sliceBy z none none (-1,u)=y)∧Q (.str y) H2
section
variable {X:Cx} {e st:Expr} {p2 pos:Pos} {te ts:TE}
end
section
variable {P:Program} {w:World} {A:Around} {E:Value→Shared→Prop} {s:Shared}
end
def zdU (K:PySem.W.Frag) (ta:TA):TE:=fun σ H Q=>ta σ H fun vs H1=>∃ a xs,vs=[.ref a]∧SqL K H1 a xs∧∀ l,H1 l=none→Q (.ref l) (upd H1 l (.lst xs.reverse))
section
variable {X:Cx} {a:Expr} {ta:TA} {p p2 pos pos2:Pos}
end
end L2
namespace L2
open PySem PySem.Spec PyProof.Rows
abbrev zdV:RC:=fun vs H Q=>∃ a kvs,vs=[.ref a]∧H a=some (.dK kvs)∧Q (.int (kvs.length:Nat)) H
section
variable {X:Cx}
end
end L2
namespace L2
open PySem PySem.Spec PyProof.Rows
section
variable {X:Cx} {CX:CXT} {k:Nat} {f C:Addr} {fd:FuncData} {ps:List Str} {sp:Sp} {dvs:List V} {E:XK} {x:Str} {p pos:Pos} {e:Expr} {es:List Expr} {t:TA}
end
section
variable {X:Cx} {e:Expr} {te:TE} {a:Str} {j:Nat} {p1 p2 p3:Pos}
end
section
variable {X:Cx} {st b₀:Stmt} {suite:List Stmt} {tb:EXK→TS} {th1:TS} {c1:Str} {C1:Addr} {np hpos pos:Pos}
end
end L2
namespace L2
open PySem PySem.Spec PyProof.Rows
section
variable {X:Cx} {tg:Expr}
def zed (K:PySem.W.Frag) (tl:TE):TI:=fun σ H R=>tl σ H fun x H1=>∃ a,x=.ref a∧(((∃ xs,SqL K H1 a xs)∧R (Itl K a) H1)∨((∃ xs,SqT K H1 a xs)∧R (Itt K a) H1))
end
end L2
namespace HT
open PySem PySem.Spec PyProof.Rows
section
variable {prog:Program} {w:World} {A:Around} {E:Value→Shared→Prop} {s:Shared}
end
end HT
namespace L2
open PySem PySem.Spec PyProof.Rows
section
variable {X:Cx}
def zdW (K:PySem.W.Frag):V→Option Int→Option Int→Hp→VK→Prop:=fun x lo hi H Q=>∃ a xs,x=.ref a∧SqT K H a xs ∧
 ((HT.sIx xs.length 0 lo=0∧HT.sIx xs.length xs.length hi=xs.length)→Q (.ref a) H)∧(¬ (HT.sIx xs.length 0 lo=0∧HT.sIx xs.length xs.length hi=xs.length)→∀ p,H p=none→Q (.ref p) (upd H p (.tup (qY xs lo hi))))
end
end L2
namespace L2
open PySem PySem.Spec PyProof.Rows
def Z6:List Value→Bool
 | .ref _ :: r=>Z6 r
 | l=>l == YQ
theorem JW (self:Value):∀ (l:List Value),Z6 l=true→refuseLoop self "__setattr__" l=pure ():=by
 intro l
 induction l with
 | nil=>intro h;exact absurd h (by decide)
 | cons a r ih =>
  intro h
  unfold Z6 at h
  split at h
  ·rename_i e;cases e;rw [refuseLoop_ref];exact ih h
  ·rw [beq_iff_eq.mp h];exact PySem.F.store_ValueError.passes self
structure ExS (K:PySem.W.Frag) (C:Addr):Prop extends ExC K C where
 sa:PySem.W.findIn K (.ref C) "__setattr__"=some (some (.builtin "object.__setattr__"))
 ov:((PySem.W.clsIn K C).any fun cd=>Z6 cd.mro)=true
 hd:PySem.W.hasDictIn K C=true
abbrev jP (C:Addr) (od:Option Addr) (t:Addr):Obj:={ cls:=.ref C,dict:=od,data:=.fields #[.ref t,.none,.none,.none,.bool false,.none] }
section
variable {prog:Program} {w:World} {A:Around} {E:Value→Shared→Prop} {K:PySem.W.Frag} {x C t:Addr} {s:Shared} {name:Str} {v:Value}
open PySem.Builtin PySem.Builtin.ObjectAttr in
theorem zbp {Q:Unit→Shared→Prop} (X:K.In s.heap) (c:ExS K C) (n:NoAttr K C name) (hx:s.heap.get? x=some (jP C none t))
  (h:∀ h',h'.get? x=some (jP C (some s.heap.objs.size) t)→h'.Ns1 s.heap.objs.size (fun y=>if y=name then some v else none)→(∀ b o,b≠x→s.heap.get? b=some o→h'.get? b=some o)→Q () { s with heap:=h',toks:=s.toks + 2 }) :
  wpAny (model prog w) A (setAttr (.ref x) name v) Q E s:=by
 have J:PySem.W.InstAt s.heap x (jP C none t) C none:=⟨hx,rfl,rfl,trivial⟩
 refine PySem.W.set_plain X J c.sa ?_
 have SF:=PySem.F.store_object
 obtain ⟨cd,hc,ho⟩:=PySem.W.any_some c.ov
 obtain ⟨cd',hc',hd'⟩:=PySem.W.any_some c.hd
 obtain rfl:cd=cd':=Option.some.inj (hc.symm.trans hc')
 have sub:PySem.W.Looks (model prog w) s.heap (isInstance (.ref x) (.type "object")) true:=J.type.andThen (PySem.W.looks_mroIn X c.ob)
 have hm:PySem.W.Looks (model prog w) s.heap (mroOf (.ref C)) cd.mro:=(PySem.W.looks_clsIn X hc).andThen .now
 refine codeAny_call_builtin SF.slot.plain SF.entry (@PySem.W.check_slot (model prog w) _ _ { s with toks:=s.toks + 1 } "object.__setattr__" "object" "__setattr__" (.ref x) [.str name s.toks,v] [] _ SF.kind SF.split sub (SF.args (.ref x) (.str name s.toks) v) ?_)
 rw [PySem.W.osa_eq,refuse_eq]
 refine wpAny_bind (wpAny_bind (PySem.W.Looks.here (s:={ s with toks:=s.toks + 1 }) J.type (wpAny_bind (PySem.W.Looks.here (s:={ s with toks:=s.toks + 1 }) hm ?_))))
 rw [JW _ _ ho]
 refine wpAny_pure (wpAny_bind (PySem.W.Looks.here (s:={ s with toks:=s.toks + 1 }) J.type (wpAny_bind (PySem.W.Looks.here (s:={ s with toks:=s.toks + 1 }) (PySem.W.looks_findIn X n) (wpAny_bind (wpAny_pure ?_))))))
 show wpAny _ _ (storeInOwnDict (.ref x) (.ref C) (.str name s.toks) name v _) _ _ _
 refine wpAny_bind (wpAny_pure (wpAny_bind (wpAny_bind (wpAny_loadPart hx (wpAny_bind (PySem.W.Looks.here (s:={ s with toks:=s.toks + 1 }) (PySem.W.looks_clsIn X hc) ?_))))))
 rw [hd']
 have xs:x≠s.heap.objs.size:=Nat.ne_of_lt (Heap.lt_size hx)
 have x1:(s.heap.push { cls:=.type "dict",data:=.dict #[] }).get? x=some (jP C none t):=Heap.get?_push_of_some _ hx
 refine wpAny_bind (wpAny_alloc' (wpAny_bind (wpAny_update' x1 (wpAny_pure ?_))))
 have gd:((s.heap.push { cls:=.type "dict",data:=.dict #[] }).update x fun o=>{ o with dict:=some s.heap.objs.size }).get? s.heap.objs.size=some { cls:=.type "dict",data:=.dict #[] } :=
  (Heap.get?_update_ne _ _ _ _ xs.symm).trans (Heap.get?_push_at rfl rfl)
 have nd:((s.heap.push { cls:=.type "dict",data:=.dict #[] }).update x fun o=>{ o with dict:=some s.heap.objs.size }).Ns s.heap.objs.size (fun _=>none):=⟨_,#[],_,gd,rfl,fun e he=>absurd he (by simp),fun _=>rfl⟩
 show wpAny _ _ (storeInDict s.heap.objs.size (.str name s.toks) name v) _ _ _
 unfold storeInDict newKeyGuard
 refine wpAny_bind (wpAny_pure (wpAny_bind (wpAny_nsSet1 (Heap.Ns1.of_empty nd) fun h' hn hs=>?_)))
 obtain ⟨oD,esD,epD,hoD,hdD,hcD⟩:=hn.count (Within.cons name v Within.nil)
 refine wpAny_bind (wpAny_lookBehind hoD (by rw [hdD];exact pastItsLine_dict (Nat.le_trans hcD (by rw [List.length_cons,List.length_nil,sizeLine_eq];omega))) (wpAny_pure (h h' ?_ hn fun b o nb q=>?_)))
 ·exact (hs.2 x xs).trans (Heap.get?_update_self _ x1 rfl)
 ·exact (hs.2 b (Nat.ne_of_lt (Heap.lt_size q))).trans ((Heap.get?_update_ne _ _ _ _ nb).trans (Heap.get?_push_of_some _ q))
theorem KD {ox od:Obj} {ex:Bool} {Q:Value→Shared→Prop} (X:K.In s.heap) (c:ExS K C) (n:NoAttr K C name) (J:PySem.W.InstAt s.heap x ox C (some od)) (hl:PySem.W.lookIn name od=some (some v)) (hv:PySem.W.handedIn v=true)
  (hq:Q v { s with toks:=s.toks + 1 }):wpAny (model prog w) A (getAttr (.ref x) name ex) Q E s:=by
 obtain ⟨hh,gs,dr,tt,os⟩:=s
 have t0:=J.type (M:=model prog w)
 have t1:=PySem.W.looks_findIn (M:=model prog w) X c.ga
 have t2:=PySem.W.looks_findIn (M:=model prog w) X c.gx
 have t3:=PySem.W.looks_mroIn (M:=model prog w) X c.be
 have t4:=PySem.W.looks_find (M:=model prog w) X J (PySem.W.findObj_own c.hd n rfl hl)
 have t6:bindSpecial (.builtin "BaseException.__getattribute__") (.ref x)=pure (.builtin "BaseException.__getattribute__",[.ref x]):=F.excAttr_ValueError.ga.bind (.ref x)
 have b2:(Value.builtin "BaseException.__getattribute__" == Value.builtin "object.__getattribute__")=false:=by decide +kernel
 unfold getAttr getAttrBy
 refine wpAny_bind (wpAny_mkText (wpAny_holding (wpAny_bind (t0.at (wpAny_bind (t1.at ?_))))))
 simp only [b2,Bool.and_false,Bool.false_eq_true,if_false]
 unfold getAttrByItsOwn hookBefore
 refine wpAny_bind (t2.at ?_)
 unfold callGetattribute boundAndCalled
 have b3:onTheHeap (.builtin "BaseException.__getattribute__")=false:=rfl
 simp only [b3,Bool.and_false,Bool.false_eq_true,if_false,Option.toList,t6]
 refine wpAny_bind (wpAny_attempt (wpAny_holding (wpAny_bind (wpAny_pure (wpAny_call ?_)))))
 refine codeAny_call_builtin F.excAttr_ValueError.ga.plain F.entry_bexc_ga ?_
 have k1:builtinKind "BaseException.__getattribute__"=some .slot:=by decide +kernel
 have k2:splitId "BaseException.__getattribute__"=some ("BaseException","__getattribute__"):=by decide +kernel
 have k3:=F.args_bexc_ga (.ref x) (.str name tt)
 simp only [checkBuiltinCall,k1,k2]
 refine wpAny_bind (?_:wpAny _ _ (isInstance (.ref x) (.type "BaseException")) _ _ _)
 have k4:PySem.W.Looks (model prog w) hh (isInstance (.ref x) (.type "BaseException")) true:=t0.andThen t3
 refine k4.at ?_
 simp only [Bool.not_true,Bool.false_eq_true,if_false,List.cons_append,List.nil_append]
 refine wpAny_of_eq (show _=pure () from k3) ?_
 refine wpAny_bind (wpAny_pure (wpAny_bind (wpAny_pure (wpAny_bind (t0.at (wpAny_bind (t4.at (wpAny_pure ?_))))))))
 exact PySem.W.handed_on hv hq
end
def exN (e C:Addr):HO:=.ext fun h=>∃ t,h.get? e=some (jP C none t)
def exM (e C d:Addr):HO:=.ext fun h=>∃ t,h.get? e=some (jP C (some d) t)
def exF (e C d:Addr):HO:=.ext fun h=>∃ o vs,h.get? e=some o∧o.cls=.ref C∧o.dict=some d∧o.data=.fields vs
theorem Yq {H:Hp} {e d:Addr} {a b c:HO}:upd (upd (upd H e a) d b) e c=upd (upd H d b) e c:=by
 funext x
 by_cases h:x=e
 ·subst h;rw [zd,zd]
 ·rw [zw h,zw h]
  by_cases h2:x=d
  ·subst h2;rw [zd,zd]
  ·rw [zw h2,zw h2,zw h]
section
variable {X:Cx} {pins:List (Addr × Obj)} {σ:St} {H:Hp} {s:Shared} {a C d:Addr} {f:Str}
theorem Inv.setN {h':Heap} {y:V} {u:Value} {t t':Addr} (I:Inv X pins σ H s) (ea:H a=some (exN a C)) (hd:d=s.heap.objs.size) (hx:h'.get? a=some (jP C (some d) t)) (hn:h'.Ns1 d (fun z=>if z=f then some u else none)) (ry:RelV y u)
  (kp:∀ b o,b≠a→s.heap.get? b=some o→h'.get? b=some o):Inv X pins σ (upd (upd H d (.xd [(f,y)])) a (exM a C d)) { s with heap:=h',toks:=t' }:=by
 obtain ⟨φ,ep⟩:∃ φ,exN a C=.ext φ:=⟨_,rfl⟩
 rw [ep] at ea
 have hd0:H d=none:=by rw [hd];exact I.fresh
 have nd:∀ b o,s.heap.get? b=some o→b≠d:=fun b o q z=>by rw [z,hd] at q;exact absurd (Heap.lt_size q) (Nat.lt_irrefl _)
 have hH:∀ b u,H b=some u→b≠a→upd (upd H d (.xd [(f,y)])) a (exM a C d) b=some u:=fun b u q n=>by
  rw [zw n,zw (fun z=>by rw [z,hd0] at q;cases q)];exact q
 refine I.un (h':=h') (t':=t') ⟨fun b o q n _ _=>kp b o (fun z=>by rw [z,ea] at n;cases n) q,fun b o q n _ _=>⟨o.slots,kp b o (fun z=>by rw [z,ea] at n;cases n) q⟩,fun b o q n _=>?_,fun b o q _=>?_,fun b xs q=>hH b _ q (fun z=>by rw [z,ea] at q;cases q),fun b o u q=>hH b _ q (fun z=>by rw [z,ea] at q;cases q),fun b ps q=>⟨#[],by rw [Array.append_empty];exact hH b _ q (fun z=>by rw [z,ea] at q;cases q)⟩⟩ fun b u q=>?_
 ·rw [zw (fun z=>by rw [z,ea] at n;cases n),zw (nd b o q)];exact n
 ·by_cases hb:b=a
  ·subst hb;exact ⟨_,hx⟩
  ·exact ⟨o,kp b o hb q⟩
 ·by_cases hb:b=a
  ·subst hb
   rw [zd] at q;cases q
   exact ⟨⟨t,hx⟩,⟨_,hx⟩,fun h1 h2 ⟨t,z⟩ k=>⟨t,k _ z⟩⟩
  ·rw [zw hb] at q
   by_cases hb2:b=d
   ·subst hb2
    rw [zd] at q;cases q
    refine ⟨_,hn,fun g=>?_⟩
    by_cases hg:g=f
    ·subst hg;rw [if_pos rfl,List.lookup_cons_self];exact ry
    ·rw [if_neg hg]
     show RelO (match g == f with | true=>some y | false=>List.lookup g []) none
     rw [show (g == f)=false from beq_eq_false_iff_ne.mpr hg]
     trivial
   ·rw [zw hb2] at q
    refine (I.hok b u q).stay (fun c v hc z=>kp c v ?_ z) (fun c z=>hH c _ z fun w=>by rw [w,ea] at z;cases z) fun c xs z=>hH c _ z fun w=>by rw [w,ea] at z;cases z
    rcases hc with rfl | hc
    ·exact hb
    ·intro w;rw [w,ea] at hc;cases hc
theorem Inv.untrack {e:Addr} {φ:Heap→Prop} (I:Inv X pins σ (upd H e (.ext φ)) s) (hn:H e=none):Inv X pins σ H s:=by
 have B:=I.base
 have no:∀ b,upd H e (.ext φ) b=none→H b=none:=fun b q=>by
  by_cases hb:b=e
  ·rw [hb];exact hn
  ·rw [zw hb] at q;exact q
 have so:∀ b u,upd H e (.ext φ) b=some u→(∀ ψ,u≠.ext ψ)→H b=some u:=fun b u q n=>by
  by_cases hb:b=e
  ·subst hb;rw [zd] at q;cases q;exact absurd rfl (n φ)
  ·rw [zw hb] at q;exact q
 refine ⟨I.ok,I.os,I.bare,⟨B.keep,B.slot,fun b o q n x=>no b (B.free b o q n x),B.there,fun b xs q=>so b _ (B.tups b xs q) (fun _ z=>by cases z),fun b o u q=>so b _ (B.frzs b o u q) (fun _ z=>by cases z),fun b ps q=>?_⟩,I.loc,I.cell,no _ I.free,fun x c q=>no _ (I.freeC x c q),fun p q=>?_,fun b u q=>?_,I.len⟩
 ·obtain ⟨m,z⟩:=B.tbls b ps q
  exact ⟨m,so b _ z fun _ z=>by cases z⟩
 ·obtain ⟨z1,z2,z3,z4,z5⟩:=I.pin p q
  exact ⟨z1,no _ z2,z3,z4,z5⟩
 ·have hb:b≠e:=fun z=>by rw [z,hn] at q;cases q
  exact (I.hok b u (by rw [zw hb];exact q)).stay (fun c v _ z=>z) (fun c z=>so c _ z fun _ z=>by cases z) fun c xs z=>so c _ z fun _ z=>by cases z
end
section
variable {X:Cx} {o e value:Expr} {f:Str} {pos pos':Pos} {ta tv:TE} {C:Addr}
def zay (C:Addr) (ta tv:TE) (f:Str):TS:=fun D σ H=>tv σ H fun y H1=>ta σ H1 fun x H2=>∃ a,x=.ref a∧H2 a=some (exN a C)∧∀ d,H2 d=none→d≠a→D.nx σ (upd (upd H2 d (.xd [(f,y)])) a (exM a C d))
theorem KG (c:ExS X.K C) (n:NoAttr X.K C f) (ha:PE X o ta) (hv:PE X value tv) (hs:swapsWith value (some (.Attribute o f pos')) pos.line X.env=pure false):PS X (.Assign [.Attribute o f pos'] value pos) (zay C ta tv f):=by
 intro pins s σ H D I h
 refine plainObj_wpAny_Assign_Attribute (thn (hv pins s σ H _ I h) fun u s1 ⟨y,H1,I1,ry,q⟩=>thn (ha pins s1 σ H1 _ I1 q) fun ov s2 ⟨x,H2,I2,rx,a,ex,ea,q2⟩=>?_) hs
 subst ex
 obtain rfl:ov=Value.ref a:=rx
 obtain ⟨⟨t,hx⟩,_⟩:=I2.hok a _ ea
 exact zbp I2.kIn c n hx fun h' hx' hn kp=>⟨σ,_,I2.setN ea rfl hx' hn ry kp,q2 _ I2.fresh fun z=>absurd (Heap.lt_size hx) (by rw [← z];exact Nat.lt_irrefl _)⟩
def zaz (K:PySem.W.Frag) (ta:TE) (f:Str):TE:=fun σ H Q=>ta σ H fun x H1=>∃ a C d fs v,x=.ref a∧H1 a=some (exF a C d)∧ExS K C∧NoAttr K C f∧H1 d=some (.xd fs)∧fs.lookup f=some v∧Q v H1
theorem zbq (he:PE X e ta) (hb:attributeBase e f X.env (eval e X.env)=eval e X.env):PE X (.Attribute e f pos) (zaz X.K ta f):=by
 intro pins s σ H Q I h
 refine WO hb (thn (he pins s σ H _ I h) fun u s1 ⟨x,H1,I1,rx,a,C,d,fs,v,ex,ea,c,n,ed,l,q⟩=>?_)
 subst ex
 obtain rfl:u=Value.ref a:=rx
 obtain ⟨⟨o,vs,z1,z2,z3,z4⟩,_⟩:=I1.hok a _ ea
 obtain ⟨mA,ns,r⟩:=I1.hok d _ ed
 obtain ⟨od,ho,hl⟩:=Yg ns
 obtain ⟨u,hu,ru⟩:=RelO.some_of (v:=v) (o:=mA f) (by rw [← l];exact r f)
 obtain ⟨oc,odi,oda,osl⟩:=o
 cases z2;cases z3;cases z4
 exact KD I1.kIn c n ⟨z1,rfl,rfl,ho⟩ (by rw [hl,hu]) (Yi ru) ⟨v,H1,I1.tok _,ru,q⟩
end
section
variable {prog:Program} {w:World} {A:Around} {E:Value→Shared→Prop} {h:Heap} {g:Array GenState} {d:Drawn} {t:Nat} {os:OsState}
variable {nm qn:Str} {C N:Addr} {bs bm bmB:List Value} {hdct:Bool} {sn:List Str} {sub:List Value} {ab:Bool} {col:Option Bool} {dd:Option Addr} {k0 k1 k2 k3 k5:Option Value} {B nid iid:String}
abbrev jt (h:Heap) (C:Addr) (rest:List Value):Heap:=(h.push { cls:=.type "tuple",data:=.seq rest.toArray }).push (jP C none h.objs.size)
theorem zaA (F:ExcBaseFacts B nid iid bmB) (T:OwnTail h bmB bm) {mN:Str→Option Value} {rest:List Value} {fI:Addr} {oI:Obj} {Q:Fin→Shared→Prop} (hC:h.get? C=some (excClassObj nm qn C N bs bm hdct sn sub ab col dd k0 k1 k2 k3 k5 nid)) (hn:h.Ns N mN) (hi:mN "__init__"=some (.ref fI))
  (hf:h.get? fI=some oI) (hc:oI.cls=.type "function") (hz:rest.length≤sizeLine) (hq:wpAny (model prog w) A (call (.ref fI) (.ref (h.objs.size + 1) :: rest)) (fun r s'=>r=.none∧Q (.done (.ret (.ref (h.objs.size + 1)))) s') E ⟨jt h C rest,g,d,t,os⟩) :
  wpAny (model prog w) A (Builtin.«type.__call__» ⟨.ref C :: rest,[]⟩) Q E ⟨h,g,d,t,os⟩:=by
 repeat (first | with_reducible refine wpAny_loadPart_at hC ?_ | with_reducible refine wpAny_madeBy_exc hC ?_ | wp_step)
 refine codeAny_call_builtin_code (Code.quiet_builtin _ F.quiet) (wpAny_check_new_subT F T hC (codeAny_exc_new_subT F T hC ?_ hz));show wpAny _ _ _ _ _ _
 have kp:∀ b o,h.get? b=some o→(jt h C rest).get? b=some o:=fun b o q=>Heap.get?_push_of_some _ (Heap.get?_push_of_some _ q)
 have C1:=kp _ _ hC
 have n1:(jt h C rest).Ns N mN:=let ⟨o,es,ep,q,r⟩:=hn;⟨o,es,ep,kp _ _ q,r⟩
 have ge:(jt h C rest).get? (h.objs.size + 1)=some (jP C none h.objs.size):=by heap_get
 have cc:(Value.ref C :: bm).contains (.ref C)=true:=by simp
 have T1:=T.keeps kp
 unfold isInstance;repeat (first | with_reducible refine wpAny_loadPart_at ge ?_ | (with_reducible refine wpAny_isSubtype_exc C1 ?_;rw [cc]) | wp_step)
 show wpAny _ _ (typeLookup (.ref C) _) _ _ _
 refine wpAny_typeLookup_tail C1 n1 T1 F.mroIs F.init.lookup ?_;rw [hi]
 refine wpAny_holding (wpAny_bind ?_);unfold bindSpecial
 refine wpAny_bind (wpAny_typeOf (T:="function") ⟨_,kp _ _ hf,hc⟩ ?_);rw [if_pos (by decide)]
 refine wpAny_pure (wpAny_bind (wpAny_mono hq (fun r s' hr=>?_) fun _ _ x=>x))
 obtain ⟨rfl,hQ⟩:=hr
 wp_walk
 exact hQ
theorem Xv (F:ExcBaseFacts B nid iid bmB) (T:OwnTail h bmB bm) {mN:Str→Option Value} {rest:List Value} {fI:Addr} {oI:Obj} {Q:Value→Shared→Prop} (hC:h.get? C=some (excClassObj nm qn C N bs bm hdct sn sub ab col dd k0 k1 k2 k3 k5 nid)) (hn:h.Ns N mN) (hi:mN "__init__"=some (.ref fI))
  (hf:h.get? fI=some oI) (hc:oI.cls=.type "function") (hz:rest.length≤sizeLine) (hq:wpAny (model prog w) (A.under (.builtin "type.__call__" ⟨.ref C :: rest,[]⟩)) (call (.ref fI) (.ref (h.objs.size + 1) :: rest)) (fun r s'=>r=.none∧Q (.ref (h.objs.size + 1)) s') E ⟨jt h C rest,g,d,t,os⟩) :
  wpAny (model prog w) A (call (.ref C) rest) Q E ⟨h,g,d,t,os⟩:=by
 have f1:=tc_lookup;have f2:=tc_bind (.ref C)
 have hT:(⟨h,g,d,t,os⟩:Shared).TypeIs (.ref C) "type":=⟨_,hC,rfl⟩
 refine wpAny_call (codeAny_of_tree ?_);show wpAny _ _ (callAny (.ref C) _) _ _ _
 repeat (any_goals (first | assumption | with_reducible refine wpAny_loadPart_at hC ?_ | wp_step))
 refine ⟨rfl,codeAny_call_builtin_at (Code.quiet_builtin _ (by decide +kernel)) entry_typeCall (wpAny_check_type_call_sub hC (zaA F T hC hn hi hf hc hz ?_))⟩
 exact hq
theorem Qm {env:Env} {s:Shared} {x:Sem Value} {M:Model} {Q:Flow→Shared→Prop} (hb:bm.contains (.type "BaseException")=true) (hh:A.handled=none)
  (hx:wpAny M A x (fun v s1=>∃ e t od,v=.ref e∧s1.heap.get? C=some (excClassObj nm qn C N bs bm hdct sn sub ab col dd k0 k1 k2 k3 k5 nid)∧s1.heap.get? e=some (jP C od t)∧E (.ref e) s1) E s):wpAny M A (raiseStmt env (some x) none) Q E s:=by
 have cB:(Value.ref C :: bm).contains (.type "BaseException")=true:=by rw [List.contains_cons,hb,Bool.or_true]
 unfold raiseStmt;refine wpAny_bind (wpAny_mono hx (fun v s1 z=>?_) fun _ _ x=>x)
 obtain ⟨e,t,od,rfl,hC,he,hE⟩:=z
 obtain ⟨hp,g,d,tk,os⟩:=s1
 repeat (first | with_reducible refine wpAny_loadPart_at he ?_ | with_reducible refine wpAny_loadPart_at hC ?_ | (with_reducible refine wpAny_isSubtype_exc hC ?_;rw [cB]) | wp_step)
 exact wpAny_raiseNew_none hh hE
end
theorem zcP {K:PySem.W.Frag} {h:Heap} {N:Addr} {mg:Str→Option Value} {n:Str} {v:Value} (X:K.In h) (G:h.Ns N mg) (e:PySem.W.nsIn K N n=some (some v)):mg n=some v:=by
 obtain ⟨o,es,ep,ho,hd,_,hf⟩:=G;unfold PySem.W.nsIn at e;split at e
 ·rename_i c d es' n' sl q;have z:=X _ _ q;rw [ho] at z;cases z;cases hd;split at e
  ·rename_i en he;cases e;rw [← hf];unfold nsFind findBy;rw [← Array.find?_toList,he];rfl
  ·split at e <;> cases e
 ·cases e
theorem JX {K:PySem.W.Frag} {h:Heap} {f:Addr} (X:K.In h) (q:PySem.W.isFn K (.ref f)=true):∃ o,h.get? f=some o∧o.cls=.type "function":=by
 have e:=beq_iff_eq.mp q
 obtain ⟨o,z,w⟩:=Option.map_eq_some_iff.mp (show (K.lookup f).map (·.cls)=some (.type "function") from e)
 exact ⟨o,X _ _ z,w⟩
def Xw (K:PySem.W.Frag) (C fI:Addr):Bool:=match K.lookup C with
 | some ⟨.type "type",_,.cls c,k⟩=>(match c.mro,k.toList with
  | .ref C' :: bm,[_,_,_,_,some (.builtin n),_]=>C' == C && n == vP && !c.hasDel && PySem.W.tailIn K YQ bm && PySem.W.nsOkIn K c.ns && PySem.W.nsIn K c.ns "__init__" == some (some (.ref fI))
  | _,_=>false)
 | _=>false
theorem Vb {K:PySem.W.Frag} {h:Heap} {C fI:Addr} (X:K.In h) (q:Xw K C fI=true) :
  ∃ bm N nm qn bs hdct sn sub ab col dd k0 k1 k2 k3 k5 mN,h.get? C=some (excClassObj nm qn C N bs bm hdct sn sub ab col dd k0 k1 k2 k3 k5 vP)∧h.Ns N mN∧mN "__init__"=some (.ref fI)∧OwnTail h YQ bm:=by
 unfold Xw at q
 split at q
 case h_2=>cases q
 rename_i dd cd sl ho
 split at q
 case h_2=>cases q
 rename_i C' bm k0 k1 k2 k3 n k5 hm hs
 rw [Bool.and_eq_true,Bool.and_eq_true,Bool.and_eq_true,Bool.and_eq_true,Bool.and_eq_true] at q
 obtain ⟨⟨⟨⟨⟨q1,q2⟩,q3⟩,q4⟩,q5⟩,q6⟩:=q
 obtain rfl:C'=C:=by simpa using q1
 obtain rfl:n=vP:=by simpa using q2
 obtain ⟨nm,bs,mro,ns,qn,hd,sn,sub,ab,col,del⟩:=cd
 have hdel:del=false:=by simpa using q3
 have hm':mro=.ref C' :: bm:=hm
 subst hdel hm'
 have hsl:sl=#[k0,k1,k2,k3,some (.builtin vP),k5]:=by
  apply Array.ext'
  exact hs
 subst hsl
 have G:h.Ns ns (h.nsMap ns):=.of_isNs (PySem.W.isNs_of_in X q5)
 exact ⟨bm,ns,nm,qn,bs,hd,sn,sub,ab,col,dd,k0,k1,k2,k3,k5,_,X _ _ ho,G,zcP X G (by simpa using q6),PySem.W.tail_of_in X q4⟩
def Vc (X:Cx) (E:XK):Prop:=∀ (pins:List (Addr × Obj)) (σ:St) (H:Hp) (s:Shared) (e:Addr) (oe:Obj) (vs:Array Value) (a0:Value),Inv X pins σ H s→s.heap.get? e=some oe→oe.data=.fields vs→vs[1]?=some .none→vs[0]?=some a0→(oe.dict=none→vs[2]?=some .none)→H e=none→X.s₀.heap.get? e=none→E oe.cls oe.dict H→X.xe (.ref e) s
theorem xQ {P:Program} {w:World} {K:PySem.W.Frag} {mg:Str→Option Value} {base:Heap} {N:List Str} {qual:Str} {scope:Scope} {f:Addr} {cd:Value} {A:Around} {outer:List Env} {s₀:Shared} {H₀:Hp} {E:XK} :
  Vc (v6 (CX1 P w) P w K mg base N qual scope f cd A outer s₀ H₀ E) E:=by
 intro pins σ H s e oe vs a0 I h1 h2 h3 h4 hv h5 h6 h7
 exact Wz (X:=v6 (CX1 P w) P w K mg base N qual scope f cd A outer s₀ H₀ E) ⟨rfl,rfl⟩ rfl I h1 h2 h3 h4 hv h5 h6 h7
def Zv (C:Addr) (f:Str):Sp:=fun vs H Q _=>∃ x y,vs=[.ref x,y]∧H x=some (exN x C)∧∀ d,H d=none→d≠x→Q .non (upd (upd H d (.xd [(f,y)])) x (exM x C d))
def yj (C:Addr) (f:Str) (ta:TA) (E:XK):TS:=fun _ σ H=>ta σ H fun vs H1=>∃ y,vs=[y]∧∀ d,H1 d=none→E (.ref C) (some d) (upd H1 d (.xd [(f,y)]))
section
variable {X:Cx} {x f:Str} {C fI:Addr} {fd:FuncData} {ps:List Str} {k:Nat} {np cpos pos:Pos} {e₀:Expr} {ta:TA} {E:XK}
theorem xD (hc:X.calm=true) (q:Xw X.K C fI=true) (kp:PySem.W.keepIn X.K (.ref C)=true) (fn:PySem.W.isFn X.K (.ref fI)=true) (F:FnOk X.prog X.w X.K X.mg X.base (CX1 X.prog X.w) k fI fd ps (Zv C f)) (hr:Room (k + 1) X.A) (hb:Binds X.K fd ps [])
  (hx:Vc X E) (hg:Gl X x) (hm:X.mg x=some (.ref C)) (ha:PA X [e₀] ta)
  (he:starEach [e₀] X.env=[(false,eval e₀ X.env)]:=by rfl) (hp:(backTo cpos (starEach ([]:List Expr) X.env)).any (·.1)=false:=by rfl) (hd:(x == ("__debug__":Str))=false:=by decide) :
  PS X (.Raise (some (.Call (.Name x np) [e₀] [] cpos)) none pos) (yj C f ta E):=by
 intro pins s σ H D I h
 obtain ⟨tl,N,nm,qn,bs,hdct,sn,sub,ab,col,dd,k0,k1,k2,k3,k5,mN,hC,hN,hi,T⟩:=Vb I.ok.mod.kin q
 rw [arm_exec_Raise]
 refine wpAny_bind (wpAny_standAt (Qm (C:=C) (nm:=nm) (qn:=qn) (N:=N) (bs:=bs) (bm:=tl) (hdct:=hdct) (sn:=sn) (sub:=sub) (ab:=ab) (col:=col) (dd:=dd) (k0:=k0) (k1:=k1) (k2:=k2) (k3:=k3) (k5:=k5) (nid:=vP)
  (T.hasType PySem.F.excBase_ValueError.hasBase) (I.ok.hd hc) (wpAny_bind (wpAny_mono (wpAny_Call_Name_kw (x9 I hg hm ?_ hd)) (fun v s3 z=>wpAny_bind (wpAny_standAt (wpAny_pure z))) fun _ _ z=>z))))
 refine PySem.W.callWith_K (h₀:=X.base) I.ok.mod.kin kp (thn (ha cpos pins s σ H _ I h) fun us s1 ⟨vs,H1,I1,r,y,ev,q1⟩=>⟨I1.kIn,?_⟩) he hp
 subst ev
 obtain ⟨u,rfl,ru⟩:∃ u,us=[u]∧RelV y u:=by
  cases r with
  | cons a b=>cases b;exact ⟨_,rfl,a⟩
 obtain ⟨oI,hfI,hfc⟩:=JX I1.kIn fn
 obtain ⟨hh,gs,dr,tt,os⟩:=s1
 refine Xv PySem.F.excBase_ValueError (T.keeps I1.bk) (I1.bk _ _ hC) (hN.keeps I1.bk) hi hfI hfc (by simp [sizeLine_eq]) ?_
 have ge:(jt hh C [u]).get? (hh.objs.size + 1)=some (jP C none hh.objs.size):=by heap_get
 have he1:H1 (hh.objs.size + 1)=none:=I1.hok.fresh (Nat.le_succ _)
 have I2:Inv X pins σ (upd H1 (hh.objs.size + 1) (exN (hh.objs.size + 1) C)) ⟨jt hh C [u],gs,dr,tt,os⟩ :=
  I1.laid (a:=hh.objs.size + 1) (o:=exN (hh.objs.size + 1) C) (t':=tt) (fun b o q=>Heap.get?_push_of_some _ (Heap.get?_push_of_some _ q)) (Nat.le_succ _) ⟨⟨_,ge⟩,⟨_,ge⟩,fun h1 h2 ⟨t,z⟩ k=>⟨t,k _ z⟩⟩
 have hsp:Zv C f [.ref (hh.objs.size + 1),y] (upd H1 (hh.objs.size + 1) (exN (hh.objs.size + 1) C)) (fun v H2=>v=.non∧∃ d,H1 d=none∧d≠hh.objs.size + 1∧H2=upd (upd (upd H1 (hh.objs.size + 1) (exN (hh.objs.size + 1) C)) d (.xd [(f,y)])) (hh.objs.size + 1) (exM (hh.objs.size + 1) C d)) E0 :=
  ⟨_,y,rfl,zd,fun d h1 h2=>⟨rfl,d,by rw [zw h2] at h1;exact h1,h2,rfl⟩⟩
 have r2:Vals [V.ref (hh.objs.size + 1),y] [Value.ref (hh.objs.size + 1),u]:=.cons rfl (.cons ru .nil)
 have hl:([Value.ref (hh.objs.size + 1),u] ++ []).length=ps.length:=by rw [← F.len _ _ _ _ hsp];rfl
 refine wpAny_call (codeAny_mono (F.run _ X.stack _ _ ⟨[Value.ref (hh.objs.size + 1),u],[]⟩ [Value.ref (hh.objs.size + 1),u] _ _ E0 (hr.make C [u] []) (I2.env0.make C [u] []) (hb _ [Value.ref (hh.objs.size + 1),u] I2.kIn hl) r2 hsp) fun r s' hq=>?_)
 cases r with
 | error ev=>obtain ⟨_,_,_,_,_,_,_,_,_,_,z⟩:=hq;exact z.elim
 | ok fl =>
  cases fl with
  | ret u' =>
   obtain ⟨v,H',I3,rv,ev,d,hd0,dn,eH⟩:=I2.after hq
   subst ev eH
   obtain rfl:u'=Value.none:=rv
   rw [Yq] at I3
   have n3:upd H1 d (.xd [(f,y)]) (hh.objs.size + 1)=none:=by rw [zw (Ne.symm dn)];exact he1
   obtain ⟨⟨t,ht⟩,_⟩:=I3.hok (hh.objs.size + 1) _ zd
   refine ⟨rfl,_,t,some d,rfl,I3.bk _ _ hC,ht,?_⟩
   exact hx pins σ _ s' _ _ _ (.ref t) (I3.untrack n3) ht rfl rfl rfl (fun z=>nomatch z) n3 (Heap.get?_none_of_le (Nat.le_trans I1.sz (Nat.le_succ _))) (q1 d hd0)
  | next=>exact False.elim hq
  | brk=>exact False.elim hq
  | cont=>exact False.elim hq
end
abbrev EXD:=Value→Option Addr→St→Hp→Prop
def PXD (X:Cx) (pins:List (Addr × Obj)) (EX:EXD):Value→Shared→Prop:=fun ev s'=>∃ e cls σ s1 H1 H' od,ev=.ref e∧Inv X pins σ H1 s1∧Inv X pins σ H' s'∧XF s1.heap s'.heap H' e cls od∧EX cls od σ H'
def zci (X:Cx) (ex:Expr) (t:EXD→TE):Prop :=
 ∀ (pins:List (Addr × Obj)) (s:Shared) (σ:St) (H:Hp) (Q:VK) (EX:EXD),Inv X pins σ H s→t EX σ H Q→wpAny (model X.prog X.w) X.A (eval ex X.env) (EP X pins σ Q) (PXD X pins EX) s
def zbr (X:Cx) (st:Stmt) (t:EXD→TS):Prop :=
 ∀ (pins:List (Addr × Obj)) (s:Shared) (σ:St) (H:Hp) (D:ke) (EX:EXD),Inv X pins σ H s→t EX D σ H→wpAny (model X.prog X.w) X.A (exec st X.env) (SP X pins D) (PXD X pins EX) s
section
variable {X:Cx} {k:Nat} {f:Addr} {fd:FuncData} {ps:List Str} {sp:Sp} {x:Str} {p pos:Pos} {e:Expr} {es:List Expr} {t:TA}
def Z7 (sp:Sp) (ta:TA) (EX:EXD):TE:=fun σ H Q=>ta σ H fun vs H1=>sp (vs ++ []) H1 Q fun cls od H2=>EX cls od σ H2
theorem WD (F:FnOk X.prog X.w X.K X.mg X.base (CX1 X.prog X.w) k f fd ps sp) (hr:Room k X.A) (hg:Gl X x) (hm:X.mg x=some (.ref f)) (hk:PySem.W.keepIn X.K (.ref f)=true) (hb:Binds X.K fd ps []) (ha:PA X.nox (e :: es) t)
  (hdb:(x == ("__debug__":Str))=false:=by decide) (he:starEach (e :: es) X.env=(false,eval e X.env) :: starEach es X.env:=by rfl) (hpl:(backTo pos (starEach es X.env)).any (·.1)=false:=by rfl):zci X (.Call (.Name x p) (e :: es) [] pos) (Z7 sp t):=by
 intro pins s σ H Q EX I h
 refine wpAny_Call_Name_kw (x9 I hg hm ?_ hdb)
 refine PySem.W.callWith_K (h₀:=X.base) I.ok.mod.kin hk (wpAny_mono (ha pos pins s σ H _ (I.wish _) h) (fun us s1 ⟨vs,H1,I1',r,q⟩=>⟨I1'.kIn,?_⟩) fun _ _ z=>False.elim z) he hpl
 have I1:=I1'.unwish
 have r2:Vals (vs ++ []) (us ++ []):=r.append .nil
 have hl:(us ++ []).length=ps.length:=by rw [← r2.length];exact F.len _ _ _ _ q
 refine wpAny_call (codeAny_mono (F.run X.A X.stack s1 H1 ⟨us,[]⟩ (us ++ []) (vs ++ []) _ _ hr I1.env0 (hb s1 us I1.kIn hl) r2 q) fun r s' hq=>?_)
 cases r with
 | error ev =>
  obtain ⟨e,cls,od,H',rfl,os,bare,un,hok,xf,hE⟩:=hq
  exact ⟨e,cls,σ,s1,H1,H',od,rfl,I1,I1.call' (ch:=[]) os un hok bare (fun b z=>nomatch z),xf,hE⟩
 | ok fl =>
  cases fl with
  | ret u=>exact I1.after hq
  | next=>exact False.elim hq
  | brk=>exact False.elim hq
  | cont=>exact False.elim hq
end
section
variable {X:Cx} {st b₀:Stmt} {suite:List Stmt} {tb:EXD→TS} {th:TS} {c n:Str} {C0:Addr} {i:Nat} {np hpos pos:Pos} {ex:Expr} {tx:EXD→TE}
def Vd (tx:EXD→TE) (EX:EXD):TS:=fun D σ H=>tx EX σ H fun _ H1=>D.nx σ H1
theorem Qn (he:zci X ex tx) (hs:swapsWith ex none pos.line X.env=pure false:=by rfl):zbr X (.Expr ex pos) (Vd tx):=by
 intro pins s σ H D EX I h
 exact wpAny_Expr_any (thn (he pins s σ H _ EX I h) fun v s1 ⟨x,H1,I1,r1,q1⟩=>⟨σ,H1,I1,q1⟩) I.quiet hs
def zaB (K:PySem.W.Frag) (tb:EXD→TS) (C0:Addr) (i:Nat) (th:TS):TS:=fun D σ H=>tb (fun cls od σ1 H1=>∃ C d,cls=.ref C∧od=some d∧PySem.W.exmOne K (.ref C) (.ref C0)=some true ∧
 ∀ e,H1 e=none→th (zb5 i D) (σ1.set i (some (.ref e))) (upd H1 e (exF e C d))) D σ H
theorem zbs (hst:X.stack=X.env :: X.outer∧X.env.frame=some X.env.locals) (hex:X.ex=[]) (hN:X.N.Nodup) (hb:zbr X st tb) (hg:Gl X c) (hm:X.mg c=some (.ref C0)) (hi:X.N[i]?=some n) (hl:X.env.scope.names.lookup n=some .local)
  (hs:∀ e,PSs (X.sub e) (b₀ :: suite) th) (hdb:(c == ("__debug__":Str))=false:=by decide):PS X (.Try [st] [.ExceptHandler (some (.Name c np)) (some n) (b₀ :: suite) hpos] [] [] pos) (zaB X.K tb C0 i th):=by
 intro pins s σ H D I h
 refine wpAny_Try_except (wpAny_execs_cons (wpAny_mono (hb pins s σ H D _ I h) (fun f s1 q=>?_) fun ev s1 q=>?_))
 ·cases f with
  | next=>exact wpAny_execs_nil (wpAny_execs_nil q)
  | ret v=>exact q
  | brk=>exact q
  | cont=>exact q
 obtain ⟨e,cls,σ1,s0,H0,H1,od,rfl,I0,I1,xf,C,d,rfl,rfl,hx,hth⟩:=q
 obtain ⟨oe,vs,a0,T,oT,ts,h1,h2,h3,h4,h5,h6,h7,h8,h9,h10,h11,h12,h13⟩:=xf
 have fr:s1.heap.FunFrames (PySem.W.hideAll s1.heap (frs X.stack ++ [e,T])) (X.env :: X.outer):=by
  have q:=PySem.W.funFrames_hide (as:=frs X.stack ++ [e,T]) I1.stack fun env he a ha=>List.mem_append_left _ (List.mem_filterMap.mpr ⟨env,he,ha⟩)
  rw [hst.1] at q ⊢
  exact q
 have two:∀ b∈[e,T],s0.heap.get? b=none∧H1 b=none:=fun b z=>by
  have z':b=e∨b=T:=by simpa using z
  rcases z' with rfl | rfl
  ·exact ⟨h9,h11⟩
  ·exact ⟨h10,h12⟩
 have hcs:∀ b∈[e,T],H1 b=none∧X.s₀.heap.get? b=none:=fun b z=>⟨(two b z).2,jc (I0.there0 hex) (two b z).1⟩
 have hcp:∀ b∈[e,T],∀ p∈X.pn ++ pins,p.1≠b:=fun b z p hp q=>by
  have:=(I0.pin p hp).1
  rw [q,(two b z).1] at this;cases this
 refine JH (base:=PySem.W.hideAll s1.heap (frs X.stack ++ [e,T])) (by rw [I1.ok.frames,hst.1]) fr hst.2 ⟨oe,vs,T,oT,ts,h1,⟨h2,h13⟩,h3,h4,PySem.W.hideAll_none _ (List.mem_append_right _ (by simp)),h5,h6,h7,h8⟩ (fun b o q=>PySem.W.of_hideAll _ q) (PySem.W.hideAll_none _ (List.mem_append_right _ (by simp))) fun g4 ⟨a1,a2,a3,sm4⟩=>?_
 refine QU (s:={ s1 with heap:=g4 }) a1 a2 a3 fun g5 ⟨b1,b2,b3,sm5⟩=>?_
 have hB:∀ {g:Heap},(PySem.W.hideAll s1.heap (frs X.stack ++ [e,T])).StaysIn g→∀ b o,s1.heap.get? b=some o→b ∉ frs X.stack→b ∉ [e,T]→g.get? b=some o :=
  fun {g} k b o q n1 n2=>k b o (PySem.W.hideAll_get _ q fun z=>(List.mem_append.mp z).elim n1 n2)
 have I5:Inv X pins σ1 H1 { s1 with heap:=g5 }:=I1.land hex hcs hcp (hB b1) (sm4.trans sm5)
 have K5:=I5.kIn
 refine wpAny_handleBy_cons (codeAny_handlers_test ?_) (by intro q;cases q)
 refine x9 (X:=X.sub e) (I5.toSub (e:=e)) hg hm ?_ hdb
 have ty5:PySem.W.Looks (model X.prog X.w) g5 (typeOf (.ref e)) (.ref C):=by
  obtain ⟨o,_,_,_,_,p1,p2,_⟩:=b3
  exact p2.1.1 ▸ (PySem.W.Looks.ld p1).andThen .now
 refine (PySem.W.exm_one K5 ty5 hx).here ?_
 refine codeAny_handlers_suite_as ?_
 refine QU (s:={ s1 with heap:=g5 }) b1 b2 b3 fun g6 ⟨c1,c2,c3,sm6⟩=>?_
 have I6:Inv X pins σ1 H1 { s1 with heap:=g6 }:=I1.land hex hcs hcp (hB c1) ((sm4.trans sm5).trans sm6)
 have neL:e≠X.env.locals:=fun z=>by
  obtain ⟨m,⟨o,_,_,ho,_⟩,_⟩:=I0.loc
  rw [← z,h9] at ho;cases ho
 have neC:∀ x c,X.env.cells.lookup x=some c→c≠e:=fun x c q z=>by
  obtain ⟨v,o,ho,_⟩:=I0.cell x c q
  rw [z,h9] at ho;cases ho
 obtain ⟨o6,vs6,_,_,_,p6,q6,r6,_⟩:=c3
 have I7:Inv X pins σ1 (upd H1 e (exF e C d)) { s1 with heap:=g6 }:=I6.track h11 (hcs e (by simp)).2 hex neL neC (hcp e (by simp))
  ⟨⟨o6,vs6,p6,q6.1.1,q6.2.1,r6⟩,⟨o6,p6⟩,fun a b ⟨o,vs,z1,z2⟩ k=>⟨o,vs,k o z1,z2⟩⟩
 refine kc (X:=X) (v:=.ref e) I7 hN hi (.inl hl) rfl (fun s8 I8=>?_) (.inr hl)
 refine wpAny_mono (hs e pins s8 _ _ _ I8.toSub (hth e h11)) (fun f s9 q=>?_) fun _ _ z=>False.elim z
 have hcls:(X.env.scope.kind == .class || (X.env.scope.kind == .module && X.env.locals != X.env.globals))=false:=by rw [I.ok.kind];rfl
 have go:∀ {σ9:St} {H9:Hp} {R:Shared→Prop},Inv (X.sub e) pins σ9 H9 s9→(∀ s',Inv X pins (σ9.set i none) H9 s'→R s') →
   wpAny (model X.prog X.w) X.A (do bindName X.env n .none;unbindBehindTheSuite X.env n hpos) (fun _ s3=>R s3) X.xe s9:=fun {σ9 H9 R} J k=>by
  have J':Inv X pins σ9 H9 s9:=Inv.ofSub (J:=I) J
  obtain ⟨m,hm9,hl9⟩:=J'.loc
  exact wpAny_nameGoes_keeps (Q:=fun _ s3=>R s3) hl hm9 hcls fun h' v a b=>k _ (J'.forget hN hi hm9 hl9 a b)
 cases f with
 | next =>
  obtain ⟨σ9,H9,J,z⟩:=q
  exact go (R:=fun s3=>SP X pins D .next s3) J fun s' J'=>⟨_,_,J',z⟩
 | brk =>
  obtain ⟨σ9,H9,J,z⟩:=q
  exact go (R:=fun s3=>SP X pins D .brk s3) J fun s' J'=>⟨_,_,J',z⟩
 | cont =>
  obtain ⟨σ9,H9,J,z⟩:=q
  exact go (R:=fun s3=>SP X pins D .cont s3) J fun s' J'=>⟨_,_,J',z⟩
 | ret u =>
  obtain ⟨v,σ9,H9,J,r,z⟩:=q
  exact go (R:=fun s3=>SP X pins D (.ret u) s3) J fun s' J'=>⟨v,_,_,J',r,z⟩
end
def zdq (K:PySem.W.Frag):R2:=fun x y H Q=>∃ a b xs ys,x=.ref a∧y=.ref b∧SqT K H a xs∧SqT K H b ys∧xs.length + ys.length≤sizeLine∧(xs=[]→Q (.ref b) H)∧(xs≠[]→ys=[]→Q (.ref a) H)∧(xs≠[]→ys≠[]→∀ p,H p=none→Q (.ref p) (upd H p (.tup (xs ++ ys))))
section
variable {X:Cx}
end
end L2
namespace L2
open PySem PySem.Spec PySem.W PyProof.Rows
theorem X6:entryFor table "proto.unchain"=some Builtin.«proto.unchain»:=entryFor_of_fast (by kernel_rfl)
theorem X7:plainId "proto.unchain"=true:=by decide +kernel
abbrev zcj (C:Addr) (od:Option Addr) (t h:Addr):Obj:={ cls:=.ref C,dict:=od,data:=.fields #[.ref t,.none,.ref h,.none,.bool true,.none] }
section
variable {prog:Program} {w:World} {A:Around} {E:Value→Shared→Prop}
variable {nm qn:Str} {C N:Addr} {bs bm:List Value} {hdct:Bool} {sn:List Str} {sub:List Value} {ab:Bool} {col:Option Bool} {dd:Option Addr} {k0 k1 k2 k3 k5:Option Value} {nid:String}
theorem JY {env:Env} {s:Shared} {x c:Sem Value} {h:Addr} {Q:Flow→Shared→Prop} (hb:bm.contains (.type "BaseException")=true) (hh:A.handled=some (.ref h))
  (hc:∀ (s:Shared) (R:Value→Shared→Prop),R .none s→wpAny (model prog w) A c R E s)
  (hx:wpAny (model prog w) A x (fun v s1=>∃ e t od oh vh,v=.ref e∧s1.heap.get? C=some (excClassObj nm qn C N bs bm hdct sn sub ab col dd k0 k1 k2 k3 k5 nid)∧s1.heap.get? e=some (jP C od t)∧h≠e∧s1.heap.get? h=some oh∧oh.data=.fields vh∧vh[2]?=some .none ∧
   ∀ g:Heap,g.get? e=some (zcj C od t h)→(∀ b o,b≠e→s1.heap.get? b=some o→g.get? b=some o)→E (.ref e) { s1 with heap:=g }) E s):wpAny (model prog w) A (raiseStmt env (some x) (some c)) Q E s:=by
 have cB:(Value.ref C :: bm).contains (.type "BaseException")=true:=by rw [List.contains_cons,hb,Bool.or_true]
 unfold raiseStmt
 refine wpAny_bind (wpAny_mono hx (fun v s1 z=>?_) fun _ _ x=>x)
 obtain ⟨e,t,od,oh,vh,rfl,hC,he,hhe,ho,hd,v2,hE⟩:=z
 obtain ⟨hp,g,d,tk,os⟩:=s1
 dsimp only
 refine wpAny_bind (wpAny_holding (hc _ _ (wpAny_bind (wpAny_pure ?_))))
 refine wpAny_bind (wpAny_holding ?_)
 unfold excFromValue
 repeat (first | with_reducible refine wpAny_loadPart_at he ?_ | with_reducible refine wpAny_loadPart_at hC ?_ | (with_reducible refine wpAny_isSubtype_exc hC ?_;rw [cB]) | wp_step)
 have hCe:C≠e:=fun z=>by rw [z] at hC;rw [he] at hC;cases hC
 generalize hg1:(hp.update e (Obj.mapFields fun x=>x.setIfInBounds 3 Value.none)).update e (Obj.mapFields fun x=>x.setIfInBounds 4 (Value.bool true))=g1
 have e1:g1.get? e=some { cls:=.ref C,dict:=od,data:=.fields #[.ref t,.none,.none,.none,.bool true,.none] }:=by
  rw [← hg1]
  have a1:=Heap.get?_update_self (Obj.mapFields (·.setIfInBounds 3 Value.none)) he rfl
  exact Heap.get?_update_self (Obj.mapFields (·.setIfInBounds 4 (Value.bool true))) a1 rfl
 have k1:∀ b o,b≠e→hp.get? b=some o→g1.get? b=some o:=fun b o n q=>by
  rw [← hg1]
  exact (Heap.get?_update_other _ _ (Ne.symm n)).trans ((Heap.get?_update_other _ _ (Ne.symm n)).trans q)
 have hC1:=k1 _ _ hCe hC
 refine wpAny_loadPart_at hC1 ?_
 refine wpAny_pure ?_
 rw [if_pos (by rfl)]
 refine wpAny_pure (wpAny_bind ?_)
 unfold setFlight
 refine wpAny_bind (wpAny_field (s:=⟨g1,g,d,tk,os⟩) (x:=Value.none) e1 rfl rfl ?_)
 rw [if_neg (by decide)]
 refine wpAny_pure ?_
 unfold raiseNew
 refine wpAny_bind (wpAny_handled ?_)
 rw [hh]
 dsimp only
 rw [if_pos (by simp [hhe])]
 refine wpAny_bind (wpAny_holding (wpAny_runValue (codeAny_builtin X6 ?_)))
 rw [Around.under_plainId X7 _]
 have ho1:=k1 _ _ hhe ho
 show wpAny _ _ (Builtin.«proto.unchain» ⟨[.ref e,.ref h,.ref h,.bool false],[]⟩) _ _ _
 unfold Builtin.«proto.unchain»
 dsimp only
 refine wpAny_bind (wpAny_field (s:=⟨g1,g,d,tk,os⟩) ho1 hd v2 ?_)
 rw [if_pos (by rfl)]
 refine wpAny_pure ?_
 show wpAny (model prog w) A (do updateField e 2 (Value.ref h);throw (Value.ref e)) Q E ⟨g1,g,d,tk,os⟩
 refine wpAny_bind (wpAny_setField (s:=⟨g1,g,d,tk,os⟩) (a:=e) (i:=2) (x:=Value.ref h) e1 rfl (by show 2 < 6;decide) ?_)
 refine wpAny_throw (hE _ ?_ fun b o n q=>?_)
 ·exact Heap.get?_update_self (Obj.mapFields (·.setIfInBounds 2 (Value.ref h))) e1 rfl
 ·exact (Heap.get?_update_other _ _ (Ne.symm n)).trans (k1 b o n q)
end
structure FnM (P:Program) (w:World) (K:PySem.W.Frag) (mg:Str→Option Value) (base:Heap) (k:Nat) (f:Addr) (fd:FuncData) (ps:List Str) (sp:Sp):Prop where
 len:∀ vs H Q E,sp vs H Q E→vs.length=ps.length
 run:∀ (B:Around) (h:Addr) (outer:List Env) (s:Shared) (H:Hp) (args:Args) (us:List Value) (vs:List V) (Q:VK),Room k B→Env0 P w K mg base (B.mark (some (.ref h))) outer s H→BindsTo s fd args (ps.zip us)→Vals vs us→sp vs H Q E0 →
  codeAny (model P w) (B.mark (some (.ref h))) (.call (.ref f) args) (CR CX0 outer P w H s Q E0) s
theorem zck {P:Program} {w:World} {K:PySem.W.Frag} {mg:Str→Option Value} {base:Heap} {k:Nat} {f:Addr} {name qual:Str} {params:Arguments} {body:List Stmt} {scope:Scope} {dV kV doc pm cdv ct oc:Value} {an od:Option Addr}
  {osl:Array (Option Value)} {N ps:List Str} {sp:Sp} (lk:K.lookup f=some ⟨oc,od,.func (PySem.W.fnOf name qual params body scope dV kV doc pm an cdv ct),osl⟩) (hcd:PySem.W.codeIn K cdv qual=true) (S:zL N ps scope)
  (len:∀ vs H Q E,sp vs H Q E→vs.length=ps.length)
  (hbody:∀ (A:Around) (h:Addr) (outer:List Env) (s:Shared) (H:Hp) (vs:List V) (Q:VK),Room k (A.deeper (envOfC qual scope s.heap.objs.size f cdv))→sp vs H Q E0 →
   ∃ t,PSs ((v6 CX0 P w K mg base N qual scope f cdv A outer s H E0).sub h) body t∧t { nx:=fun _ H'=>Q .non H',rt:=Q } (start N vs) H) :
  FnM P w K mg base (k + 1) f (PySem.W.fnOf name qual params body scope dV kV doc pm an cdv ct) ps sp:=by
 refine ⟨len,fun B h outer s H args us vs Q hr e1 hb r hsp=>?_⟩
 have e0:Env0 P w K mg base B outer s H:=⟨e1.frames,e1.mod,e1.bs,e1.bsz,e1.funs,e1.frf,e1.hok,e1.bare⟩
 have hl:=len _ _ _ _ hsp
 have KX:K.In s.heap:=e0.mod.kin.keeps fun b o e=>(e0.bs b o e).1
 have lim:s.heap.NoLimit:=e0.mod.nolimit.keeps fun b o e=>(e0.bs b o e).1
 have hkind:∀ y∈ps.zip us,scope.names.lookup y.1=some .local∨(scope.names.lookup y.1=some .cell∧((cellsFrom (s.heap.objs.size + 1) scope.names []).lookup y.1).isSome=true):=fun ⟨n,v⟩ hy=>by
  rcases S.par n (List.of_mem_zip hy).1 with q | q
  ·exact .inl q
  ·exact .inr ⟨q,PySem.W.cellsFrom_some _ _ _ (.inl q)⟩
 refine codeAny_call_function (A:=B.mark (some (.ref h))) hr.depth (KX _ _ lk) rfl S.co S.gen rfl (PySem.W.codeRec_of KX hcd) (hb _ _ _ _ ?_)
 refine wpAny_newFunctionEnv_cells S.kind hkind fun env he s1 x=>?_
 subst he
 refine ⟨lim.keeps x.toInCall.keep,codeAny_func ?_⟩
 obtain ⟨t,ht,hq⟩:=hbody B h outer s H vs Q (hr.deeper _) hsp
 have I:Inv ((v6 CX0 P w K mg base N qual scope f cdv B outer s H E0).sub h) [] (start N vs) H s1:=(Wq S hr.hd e0 hl r x).toSub
 refine wpAny_mono (ht [] s1 (start N vs) H _ I hq) (fun fl s' hs=>?_) fun e s' hs=>False.elim hs
 have fin:∀ {σ':St} {H':Hp} {v:V} {u:Value},Inv ((v6 CX0 P w K mg base N qual scope f cdv B outer s H E0).sub h) [] σ' H' s'→RelV v u→Q v H'→CE outer P w H s Q u s' :=
  fun {σ' H' v u} J rv q=>⟨v,H',J.os,J.bare,J.base,J.hok,rv,q⟩
 cases fl with
 | ret u =>
  obtain ⟨v,σ',H',J,rv,q⟩:=hs
  exact fin J rv q
 | next =>
  obtain ⟨σ',H',J,q⟩:=hs
  exact fin (v:=V.non) (u:=Value.none) J rfl q
 | brk =>
  obtain ⟨_,_,_,q⟩:=hs
  exact False.elim q
 | cont =>
  obtain ⟨_,_,_,q⟩:=hs
  exact False.elim q
theorem Fun.okM {P:Program} {w:World} {K:PySem.W.Frag} {mg:Str→Option Value} {base:Heap} {x qual:Str} {st:Stmt} {f:Addr} {fd:FuncData} {N ps:List Str} {k:Nat} {sp:Sp} (F:Fun K x qual st f fd) (S:zL N ps (zm st)) (len:∀ vs H Q E,sp vs H Q E→vs.length=ps.length)
  (hbody:∀ (cdv:Value) (A:Around) (h:Addr) (outer:List Env) (s:Shared) (H:Hp) (vs:List V) (Q:VK),Room k (A.deeper (envOfC qual (zm st) s.heap.objs.size f cdv))→sp vs H Q E0 →
   ∃ t,PSs ((v6 CX0 P w K mg base N qual (zm st) f cdv A outer s H E0).sub h) (zJ st) t∧t { nx:=fun _ H'=>Q .non H',rt:=Q } (start N vs) H):FnM P w K mg base (k + 1) f fd ps sp:=by
 obtain ⟨oc,od,kV,doc,pm,an,cdv,ct,osl,rfl,lk,hcd⟩:=F.ex
 exact zck lk hcd S len fun A h outer s H vs Q hr hsp=>hbody cdv A h outer s H vs Q hr hsp
section
variable {X:Cx} {st:Stmt} {tb:EXD→TS} {c1 x f y:Str} {C1 C fI:Addr} {fd:FuncData} {ps:List Str} {k i jn:Nat} {np np2 cpos rpos hpos pos pos' pn:Pos} {e₀ ex:Expr} {ta:TA} {tx:EXD→TE} {E:XK}
def JZ (tx:EXD→TE) (i:Nat) (EX:EXD):TS:=fun D σ H=>tx EX σ H fun v H1=>D.nx (σ.set i (some v)) H1
theorem zaC (hN:X.N.Nodup) (hi:X.N[i]?=some y) (hx:Loc X.env.scope y) (he:zci X ex tx) (hs:swapsWith ex (some (.Name y pos')) pos.line X.env=pure false:=by rfl) (hf:X.fn y=true∨X.env.scope.names.lookup y=some .local:=by first | exact .inl rfl | exact .inr rfl | assumption) :
  zbr X (.Assign [.Name y pos'] ex pos) (JZ tx i):=by
 intro pins s σ H D EX I h
 refine wpAny_Assign_Name (thn (he pins s σ H _ EX I h) fun v s1 ⟨x,H1,I1,r1,q1⟩=>?_) hs
 exact kc I1 hN hi hx r1 (fun s2 I2=>⟨_,H1,I2,q1⟩) hf
def zaD (K:PySem.W.Frag) (tb:EXD→TS) (C1 C:Addr) (f:Str) (ta:TA) (E:XK):TS:=fun D σ H=>tb (fun cls od σ1 H1=>∃ B,cls=.ref B∧od=none∧PySem.W.exmOne K (.ref B) (.ref C1)=some true ∧
 ta σ1 H1 fun vs H2=>∃ y,vs=[y]∧∀ d,H2 d=none→E (.ref C) (some d) (upd H2 d (.xd [(f,y)]))) D σ H
theorem zbt (hst:X.stack=X.env :: X.outer∧X.env.frame=some X.env.locals) (hex:X.ex=[]) (hb:zbr X st tb) (hg1:Gl X c1) (hm1:X.mg c1=some (.ref C1))
  (qi:Xw X.K C fI=true) (kp:PySem.W.keepIn X.K (.ref C)=true) (fn:PySem.W.isFn X.K (.ref fI)=true) (F:FnM X.prog X.w X.K X.mg X.base k fI fd ps (Zv C f)) (hr:Room (k + 1) X.A) (hbd:Binds X.K fd ps [])
  (hx:Vc X E) (ho:∀ e:Addr,PassesOwnAt (model X.prog X.w) (X.A.mark (some (.ref e))) X.A X.env X.xe) (hg:Gl X x) (hm:X.mg x=some (.ref C)) (ha:∀ e,PA (X.sub e) [e₀] ta)
  (hdb1:(c1 == ("__debug__":Str))=false:=by decide) (he:starEach [e₀] X.env=[(false,eval e₀ X.env)]:=by rfl) (hp:(backTo cpos (starEach ([]:List Expr) X.env)).any (·.1)=false:=by rfl) (hd:(x == ("__debug__":Str))=false:=by decide) :
  PS X (.Try [st] [.ExceptHandler (some (.Name c1 np)) none [.Raise (some (.Call (.Name x np2) [e₀] [] cpos)) (some (.Constant .none jn pn)) rpos] hpos] [] [] pos) (zaD X.K tb C1 C f ta E):=by
 intro pins s σ H D I h
 refine wpAny_Try_except (wpAny_execs_cons (wpAny_mono (hb pins s σ H D _ I h) (fun f s1 q=>?_) fun ev s1 q=>?_))
 ·cases f with
  | next=>exact wpAny_execs_nil (wpAny_execs_nil q)
  | ret v=>exact q
  | brk=>exact q
  | cont=>exact q
 obtain ⟨e,cls,σ1,s0,H0,H1,od,rfl,I0,I1,xf,B,rfl,rfl,hx1,hth⟩:=q
 obtain ⟨oe,vs,a0,T,oT,ts,h1,h2,h3,h4,h5,h6,h7,h8,h9,h10,h11,h12,h13⟩:=xf
 have fr:s1.heap.FunFrames (PySem.W.hideAll s1.heap (frs X.stack ++ [e,T])) (X.env :: X.outer):=by
  have q:=PySem.W.funFrames_hide (as:=frs X.stack ++ [e,T]) I1.stack fun env he a ha=>List.mem_append_left _ (List.mem_filterMap.mpr ⟨env,he,ha⟩)
  rw [hst.1] at q ⊢
  exact q
 have two:∀ b∈[e,T],s0.heap.get? b=none∧H1 b=none:=fun b z=>by
  have z':b=e∨b=T:=by simpa using z
  rcases z' with rfl | rfl
  ·exact ⟨h9,h11⟩
  ·exact ⟨h10,h12⟩
 have hcs:∀ b∈[e,T],H1 b=none∧X.s₀.heap.get? b=none:=fun b z=>⟨(two b z).2,jc (I0.there0 hex) (two b z).1⟩
 have hcp:∀ b∈[e,T],∀ p∈X.pn ++ pins,p.1≠b:=fun b z p hp q=>by
  have:=(I0.pin p hp).1
  rw [q,(two b z).1] at this;cases this
 refine JH (base:=PySem.W.hideAll s1.heap (frs X.stack ++ [e,T])) (by rw [I1.ok.frames,hst.1]) fr hst.2 ⟨oe,vs,T,oT,ts,h1,⟨h2,h13⟩,h3,h4,PySem.W.hideAll_none _ (List.mem_append_right _ (by simp)),h5,h6,h7,h8⟩ (fun b o q=>PySem.W.of_hideAll _ q) (PySem.W.hideAll_none _ (List.mem_append_right _ (by simp))) fun g4 ⟨a1,a2,a3,sm4⟩=>?_
 refine QU (s:={ s1 with heap:=g4 }) a1 a2 a3 fun g5 ⟨b1,b2,b3,sm5⟩=>?_
 have hB:∀ {g:Heap},(PySem.W.hideAll s1.heap (frs X.stack ++ [e,T])).StaysIn g→∀ b o,s1.heap.get? b=some o→b ∉ frs X.stack→b ∉ [e,T]→g.get? b=some o :=
  fun {g} k b o q n1 n2=>k b o (PySem.W.hideAll_get _ q fun z=>(List.mem_append.mp z).elim n1 n2)
 have I5:Inv X pins σ1 H1 { s1 with heap:=g5 }:=I1.land hex hcs hcp (hB b1) (sm4.trans sm5)
 have K5:=I5.kIn
 refine wpAny_handleBy_cons (codeAny_handlers_test ?_) (by intro q;cases q)
 refine x9 (X:=X.sub e) (I5.toSub (e:=e)) hg1 hm1 ?_ hdb1
 have ty5:PySem.W.Looks (model X.prog X.w) g5 (typeOf (.ref e)) (.ref B):=by
  obtain ⟨o,_,_,_,_,p1,p2,_⟩:=b3
  exact p2.1.1 ▸ (PySem.W.Looks.ld p1).andThen .now
 refine (PySem.W.exm_one K5 ty5 hx1).here ?_
 refine codeAny_handlers_suite ?_
 refine QU (s:={ s1 with heap:=g5 }) b1 b2 b3 fun g6 ⟨c1,c2,c3,sm6⟩=>?_
 have I6:Inv X pins σ1 H1 { s1 with heap:=g6 }:=I1.land hex hcs hcp (hB c1) ((sm4.trans sm5).trans sm6)
 obtain ⟨o6,vs6,_,_,_,p6,q6,r6,_⟩:=c3
 have v26:=q6.2.2 rfl
 have eF:e ∉ X.fs:=fun z=>by
  have z':e∈frs X.stack:=by
   rw [hst.1];unfold frs;rw [List.filterMap_cons]
   split
   ·exact z
   ·exact List.mem_cons_of_mem _ z
  obtain ⟨o,z1,_⟩:=I0.stackFields z'
  rw [h9] at z1;cases z1
 have neL:e≠X.env.locals:=fun z=>by
  obtain ⟨m,⟨o,_,_,ho,_⟩,_⟩:=I0.loc
  rw [← z,h9] at ho;cases ho
 have Ip:Inv X (pins ++ [(e,o6)]) σ1 H1 { s1 with heap:=g6 }:=I6.pins_of fun p hp=>by
  rcases List.mem_append.mp hp with z | z
  ·exact I6.pin p (List.mem_append_right _ z)
  ·obtain rfl:=List.mem_singleton.mp z
   exact ⟨p6,h11,neL,eF,fun v w=>by rw [r6] at w;cases w⟩
 refine wpAny_mono (Q:=fun _ _=>False) (E:=X.xe) (wpAny_execs_cons ?_) (fun _ _ z=>z.elim) (ho e)
 obtain ⟨tl,N,nm,qn,bs,hdct,sn,sub,ab,col,dd,k0,k1,k2,k3,k5,mN,hC,hN,hi,T⟩:=Vb I.ok.mod.kin qi
 rw [arm_exec_Raise]
 refine wpAny_bind (wpAny_standAt (JY (h:=e) (C:=C) (nm:=nm) (qn:=qn) (N:=N) (bs:=bs) (bm:=tl) (hdct:=hdct) (sn:=sn) (sub:=sub) (ab:=ab) (col:=col) (dd:=dd) (k0:=k0) (k1:=k1) (k2:=k2) (k3:=k3) (k5:=k5) (nid:=vP)
  (T.hasType PySem.F.excBase_ValueError.hasBase) rfl (fun s R hR=>?_) (wpAny_bind (wpAny_mono (wpAny_Call_Name_kw (x9 (X:=X.sub e) Ip.toSub hg hm ?_ hd)) (fun v s3 z=>wpAny_bind (wpAny_standAt (wpAny_pure z))) fun _ _ z=>z))))
 ·exact wpAny_bind (Constant_none (wpAny_bind (wpAny_standAt (wpAny_pure hR))))
 refine PySem.W.callWith_K (h₀:=X.base) I.ok.mod.kin kp (wpAny_mono (ha e cpos _ _ σ1 H1 _ Ip.toSub hth) (fun us s3 ⟨vs,H2,J1,r,y,ev,q1⟩=>⟨J1.kIn,?_⟩) fun _ _ z=>False.elim z) he hp
 subst ev
 obtain ⟨u,rfl,ru⟩:∃ u,us=[u]∧RelV y u:=by
  cases r with
  | cons a b=>cases b;exact ⟨_,rfl,a⟩
 obtain ⟨oI,hfI,hfc⟩:=JX J1.kIn fn
 obtain ⟨hh,gs,dr,tt,os⟩:=s3
 refine Xv PySem.F.excBase_ValueError (T.keeps J1.bk) (J1.bk _ _ hC) (hN.keeps J1.bk) hi hfI hfc (by simp [sizeLine_eq]) ?_
 have ge:(jt hh C [u]).get? (hh.objs.size + 1)=some (jP C none hh.objs.size):=by heap_get
 have he1:H2 (hh.objs.size + 1)=none:=J1.hok.fresh (Nat.le_succ _)
 have J2:Inv (X.sub e) (pins ++ [(e,o6)]) σ1 (upd H2 (hh.objs.size + 1) (exN (hh.objs.size + 1) C)) ⟨jt hh C [u],gs,dr,tt,os⟩ :=
  J1.laid (a:=hh.objs.size + 1) (o:=exN (hh.objs.size + 1) C) (t':=tt) (fun b o q=>Heap.get?_push_of_some _ (Heap.get?_push_of_some _ q)) (Nat.le_succ _) ⟨⟨_,ge⟩,⟨_,ge⟩,fun h1 h2 ⟨t,z⟩ k=>⟨t,k _ z⟩⟩
 have hsp:Zv C f [.ref (hh.objs.size + 1),y] (upd H2 (hh.objs.size + 1) (exN (hh.objs.size + 1) C)) (fun v H3=>v=.non∧∃ d,H2 d=none∧d≠hh.objs.size + 1∧H3=upd (upd (upd H2 (hh.objs.size + 1) (exN (hh.objs.size + 1) C)) d (.xd [(f,y)])) (hh.objs.size + 1) (exM (hh.objs.size + 1) C d)) E0 :=
  ⟨_,y,rfl,zd,fun d h1 h2=>⟨rfl,d,by rw [zw h2] at h1;exact h1,h2,rfl⟩⟩
 have r2:Vals [V.ref (hh.objs.size + 1),y] [Value.ref (hh.objs.size + 1),u]:=.cons rfl (.cons ru .nil)
 have hl:([Value.ref (hh.objs.size + 1),u] ++ []).length=ps.length:=by rw [← F.len _ _ _ _ hsp];rfl
 refine wpAny_call (codeAny_mono (F.run (X.A.under (.builtin "type.__call__" ⟨.ref C :: [u],[]⟩)) e X.stack _ _ ⟨[Value.ref (hh.objs.size + 1),u],[]⟩ [Value.ref (hh.objs.size + 1),u] _ _ (hr.make C [u] []) (J2.env0.make C [u] []) (hbd _ [Value.ref (hh.objs.size + 1),u] J2.kIn hl) r2 hsp) fun r s' hq=>?_)
 cases r with
 | error ev=>exact False.elim hq
 | ok fl =>
  cases fl with
  | ret u' =>
   obtain ⟨v,H',J3,rv,ev,d,hd0,dn,eH⟩:=J2.after hq
   subst ev eH
   obtain rfl:u'=Value.none:=rv
   rw [Yq] at J3
   have n3:upd H2 d (.xd [(f,y)]) (hh.objs.size + 1)=none:=by rw [zw (Ne.symm dn)];exact he1
   obtain ⟨⟨t,ht⟩,_⟩:=J3.hok (hh.objs.size + 1) _ zd
   have J4:Inv X (pins ++ [(e,o6)]) σ1 _ s':=Inv.ofSub (J:=Ip) (J3.untrack n3)
   have pe:=(J4.pin (e,o6) (by simp)).1
   have ne1:e≠hh.objs.size + 1:=fun z=>absurd (Heap.lt_size (J1.pin (e,o6) (by simp)).1) (by rw [z];exact Nat.not_lt.mpr (Nat.le_succ _))
   have x0:X.s₀.heap.get? (hh.objs.size + 1)=none:=Heap.get?_none_of_le (Nat.le_trans J1.sz (Nat.le_succ _))
   refine ⟨rfl,_,t,some d,o6,vs6,rfl,J3.bk _ _ hC,ht,ne1,pe,r6,v26,fun g z1 z2=>?_⟩
   have J5:Inv X (pins ++ [(e,o6)]) σ1 (upd H2 d (.xd [(f,y)])) { s' with heap:=g }:=J4.land hex (cs:=[hh.objs.size + 1]) (fun b z=>by rw [List.mem_singleton.mp z];exact ⟨n3,x0⟩)
    (fun b z p hp w=>?_) (fun b o q _ n=>z2 b o (fun w=>n (by rw [w];simp)) q) fun b o q n=>⟨o.slots,z2 b o (fun w=>?_) q⟩
   ·exact hx _ σ1 _ _ _ _ _ (.ref t) J5 z1 rfl rfl rfl (fun z=>nomatch z) n3 x0 (q1 d hd0)
   ·rw [List.mem_singleton.mp z] at w
    exact absurd (Heap.lt_size (J1.pin p hp).1) (by rw [w];exact Nat.not_lt.mpr (Nat.le_succ _))
   ·rw [w,ht] at q;cases q;exact n _ rfl
  | next=>exact False.elim hq
  | brk=>exact False.elim hq
  | cont=>exact False.elim hq
end
section
variable {X:Cx} {x f:Str} {C fI:Addr} {fd:FuncData} {ps:List Str} {k:Nat} {np cpos pos:Pos} {e₀:Expr} {ta:TA}
def zcl (C:Addr) (f:Str) (ta:TA):TE:=fun σ H Q=>ta σ H fun vs H1=>∃ y,vs=[y]∧∀ d e,H1 d=none→H1 e=none→d≠e→Q y (upd (upd H1 d (.xd [(f,y)])) e (exM e C d))
theorem zcm (es:ExS X.K C) (nx:NoAttr X.K C f) (q:Xw X.K C fI=true) (kp:PySem.W.keepIn X.K (.ref C)=true) (fn:PySem.W.isFn X.K (.ref fI)=true) (F:FnOk X.prog X.w X.K X.mg X.base (CX1 X.prog X.w) k fI fd ps (Zv C f)) (hr:Room (k + 1) X.A) (hb:Binds X.K fd ps [])
  (hg:Gl X x) (hm:X.mg x=some (.ref C)) (ha:PA X [e₀] ta)
  (he:starEach [e₀] X.env=[(false,eval e₀ X.env)]:=by rfl) (hp:(backTo cpos (starEach ([]:List Expr) X.env)).any (·.1)=false:=by rfl) (hd:(x == ("__debug__":Str))=false:=by decide) (hab:attributeBase (.Call (.Name x np) [e₀] [] cpos) f X.env (eval (.Call (.Name x np) [e₀] [] cpos) X.env)=eval (.Call (.Name x np) [e₀] [] cpos) X.env:=by rfl) :
  PE X (.Attribute (.Call (.Name x np) [e₀] [] cpos) f pos) (zcl C f ta):=by
 intro pins s σ H Q I h
 obtain ⟨tl,N,nm,qn,bs,hdct,sn,sub,ab,col,dd,k0,k1,k2,k3,k5,mN,hC,hN,hi,T⟩:=Vb I.ok.mod.kin q
 refine WO hab (wpAny_Call_Name_kw (x9 I hg hm ?_ hd))
 refine PySem.W.callWith_K (h₀:=X.base) I.ok.mod.kin kp (thn (ha cpos pins s σ H _ I h) fun us s1 ⟨vs,H1,I1,r,y,ev,q1⟩=>⟨I1.kIn,?_⟩) he hp
 subst ev
 obtain ⟨u,rfl,ru⟩:∃ u,us=[u]∧RelV y u:=by
  cases r with
  | cons a b=>cases b;exact ⟨_,rfl,a⟩
 obtain ⟨oI,hfI,hfc⟩:=JX I1.kIn fn
 obtain ⟨hh,gs,dr,tt,os⟩:=s1
 refine Xv PySem.F.excBase_ValueError (T.keeps I1.bk) (I1.bk _ _ hC) (hN.keeps I1.bk) hi hfI hfc (by simp [sizeLine_eq]) ?_
 have ge:(jt hh C [u]).get? (hh.objs.size + 1)=some (jP C none hh.objs.size):=by heap_get
 have he1:H1 (hh.objs.size + 1)=none:=I1.hok.fresh (Nat.le_succ _)
 have I2:Inv X pins σ (upd H1 (hh.objs.size + 1) (exN (hh.objs.size + 1) C)) ⟨jt hh C [u],gs,dr,tt,os⟩ :=
  I1.laid (a:=hh.objs.size + 1) (o:=exN (hh.objs.size + 1) C) (t':=tt) (fun b o q=>Heap.get?_push_of_some _ (Heap.get?_push_of_some _ q)) (Nat.le_succ _) ⟨⟨_,ge⟩,⟨_,ge⟩,fun h1 h2 ⟨t,z⟩ k=>⟨t,k _ z⟩⟩
 have hsp:Zv C f [.ref (hh.objs.size + 1),y] (upd H1 (hh.objs.size + 1) (exN (hh.objs.size + 1) C)) (fun v H2=>v=.non∧∃ d,H1 d=none∧d≠hh.objs.size + 1∧H2=upd (upd (upd H1 (hh.objs.size + 1) (exN (hh.objs.size + 1) C)) d (.xd [(f,y)])) (hh.objs.size + 1) (exM (hh.objs.size + 1) C d)) E0 :=
  ⟨_,y,rfl,zd,fun d h1 h2=>⟨rfl,d,by rw [zw h2] at h1;exact h1,h2,rfl⟩⟩
 have r2:Vals [V.ref (hh.objs.size + 1),y] [Value.ref (hh.objs.size + 1),u]:=.cons rfl (.cons ru .nil)
 have hl:([Value.ref (hh.objs.size + 1),u] ++ []).length=ps.length:=by rw [← F.len _ _ _ _ hsp];rfl
 refine wpAny_call (codeAny_mono (F.run _ X.stack _ _ ⟨[Value.ref (hh.objs.size + 1),u],[]⟩ [Value.ref (hh.objs.size + 1),u] _ _ E0 (hr.make C [u] []) (I2.env0.make C [u] []) (hb _ [Value.ref (hh.objs.size + 1),u] I2.kIn hl) r2 hsp) fun r s' hq=>?_)
 cases r with
 | error ev=>obtain ⟨_,_,_,_,_,_,_,_,_,_,z⟩:=hq;exact z.elim
 | ok fl =>
  cases fl with
  | ret u' =>
   obtain ⟨v,H',I3,rv,ev,d,hd0,dn,eH⟩:=I2.after hq
   subst ev eH
   obtain rfl:u'=Value.none:=rv
   rw [Yq] at I3
   obtain ⟨⟨t,ht⟩,_⟩:=I3.hok (hh.objs.size + 1) _ zd
   obtain ⟨mA,ns,r⟩:=I3.hok d (.xd [(f,y)]) (by rw [zw dn,zd])
   obtain ⟨od,ho,hl⟩:=Yg ns
   obtain ⟨u2,hu,ru2⟩:=RelO.some_of (v:=y) (o:=mA f) (by have:=r f;rw [List.lookup_cons_self] at this;exact this)
   exact ⟨rfl,KD I3.kIn es nx ⟨ht,rfl,rfl,ho⟩ (by rw [hl,hu]) (Yi ru2) ⟨y,_,I3.tok _,ru2,q1 d _ hd0 he1 dn⟩⟩
  | next=>exact False.elim hq
  | brk=>exact False.elim hq
  | cont=>exact False.elim hq
end
theorem FnM.mono {P:Program} {w:World} {K:PySem.W.Frag} {mg:Str→Option Value} {base:Heap} {j k:Nat} {f:Addr} {fd:FuncData} {ps:List Str} {sp:Sp} (F:FnM P w K mg base j f fd ps sp) (h:j≤k):FnM P w K mg base k f fd ps sp :=
 ⟨F.len,fun B e outer s H args us vs Q hr=>F.run B e outer s H args us vs Q (hr.mono h)⟩
theorem zdr {P:Program} {w:World} {K:PySem.W.Frag} {mg:Str→Option Value} {base:Heap} {N:List Str} {qual:Str} {scope:Scope} {f:Addr} {cd:Value} {A:Around} {outer:List Env} {s₀:Shared} {H₀:Hp} {E:XK} (e:Addr) :
  PassesOwnAt (model P w) ((v6 (CX1 P w) P w K mg base N qual scope f cd A outer s₀ H₀ E).A.mark (some (.ref e))) (v6 (CX1 P w) P w K mg base N qual scope f cd A outer s₀ H₀ E).A (v6 (CX1 P w) P w K mg base N qual scope f cd A outer s₀ H₀ E).env (v6 (CX1 P w) P w K mg base N qual scope f cd A outer s₀ H₀ E).xe:=PassesOwnAt.leaving
theorem ExS.exk {K:PySem.W.Frag} {C:Addr} (c:ExS K C):ExK K C:=⟨c.toExC,by obtain ⟨cd,h,_⟩:=PySem.W.any_some c.ov;rw [h];rfl⟩
end L2
namespace K14
open PySem L2
theorem jqa {α:Type} {a:α} {l m:List α}:a :: l ++ m=a :: (l ++ m):=rfl
theorem jqb {α:Type} (l:List α):[] ++ l=l:=rfl
theorem jqc {α:Type} (l:List α):l ++ []=l:=List.append_nil l
theorem jqd {α:Type} {a:α} {l:List α}:(a :: l)[0]?=some a:=rfl
theorem jqe {α:Type} {a:α} {l:List α} {i:Nat}:(a :: l)[i + 1]?=l[i]?:=rfl
theorem jqf {α:Type} (a b:α):(some a=some b)=(a=b):=Option.some.injEq a b
theorem jqg {α:Sort _} {p:α→Prop} {a:α}:(∃ x,a=x∧p x)↔p a:=exists_eq_left'
theorem jqh {α:Sort _} {p:α→Prop} {a:α}:(∃ x,x=a∧p x)↔p a:=exists_eq_left
theorem jqi (a b:Int):(V.int a=V.int b)=(a=b):=V.int.injEq a b
theorem jqj (a b:Addr):(V.ref a=V.ref b)=(a=b):=V.ref.injEq a b
theorem jqk (a b:Str):(V.str a=V.str b)=(a=b):=V.str.injEq a b
theorem jql (a b:Bool):(V.bl a=V.bl b)=(a=b):=V.bl.injEq a b
theorem jqm (a b:String):(V.ty a=V.ty b)=(a=b):=V.ty.injEq a b
theorem jqn {α:Type} (a:α) (l:List α) (b:α) (m:List α):(a :: l=b :: m)=(a=b∧l=m):=List.cons.injEq a l b m
theorem jqo {α:Sort _} {p:α→Prop} {b:Prop}:(∃ x,b∧p x)↔b∧(∃ x,p x):=exists_and_left
theorem jqp {α:Type} {x:α} {l:List α} {a:α}:(x :: l).set 0 a=a :: l:=rfl
theorem jqq {α:Type} {x:α} {l:List α} {i:Nat} {a:α}:(x :: l).set (i + 1) a=x :: l.set i a:=rfl
theorem jqr {p:Prop} [Decidable p]:(decide p=true)=p:=decide_eq_true_eq
theorem jqs (b:Bool):((!b)=true)=(b=false):=Bool.not_eq_true' b
theorem jqt {p:Prop} {_:Decidable p}:decide p=false↔¬p:=decide_eq_false_iff_not
theorem jqu:(false=true)=False:=Bool.false_eq_true
def top (i:Nat):Stmt:=PySem.Challenge.pw_forerun_k14_the_first_bad_row.main.body.getD i (.Pass ⟨0,0,0,0⟩)
abbrev xr:Stmt:=top 43
abbrev wK:Stmt:=top 45
abbrev wL:Stmt:=top 46
abbrev wj:Stmt:=top 42
abbrev vf:Stmt:=top 47
abbrev wk:Stmt:=top 48
abbrev xt:Stmt:=top 41
abbrev yx:Stmt:=top 51
abbrev wM:Stmt:=top 49
abbrev vg:Stmt:=top 50
abbrev wN:Stmt:=top 52
abbrev yL:Stmt:=top 44
abbrev vi:Stmt:=top 53
abbrev wO:Stmt:=top 54
abbrev xE:Stmt:=top 55
abbrev xu:Stmt:=we (top 38) 0
abbrev yW:Stmt:=we (top 4) 0
abbrev xg:Stmt:=we (top 38) 4
abbrev xh:Stmt:=we (top 38) 5
abbrev yy:Stmt:=we (top 38) 2
abbrev yX:Stmt:=we (top 38) 3
abbrev xi:Stmt:=we (top 38) 1
abbrev xj:Stmt:=we (top 34) 0
abbrev yl:Stmt:=we (top 34) 1
abbrev vj:Stmt:=top 26
abbrev ym:Stmt:=we (top 34) 3
abbrev xF:Stmt:=top 28
abbrev vk:Stmt:=top 15
abbrev xy:Stmt:=top 17
abbrev jf:Stmt:=top 16
abbrev wm:Stmt:=top 18
abbrev vm:Stmt:=top 19
abbrev jg:Stmt:=top 27
abbrev wP:Stmt:=top 29
abbrev yn:Stmt:=we (top 34) 4
abbrev yD:Stmt:=we (top 34) 2
abbrev wp:Stmt:=top 35
abbrev wQ:Stmt:=top 36
abbrev yz:Stmt:=we (top 34) 5
abbrev kh:Stmt:=top 37
abbrev Yr:Stmt:=top 39
abbrev xv:Stmt:=top 56
abbrev WE:Stmt:=top 57
theorem sc__law_is_name:zL ["word","sign"] ["word"] (zm xr):=⟨rfl,rfl,rfl,by decide +kernel,rfl,by decide +kernel,by decide +kernel⟩
theorem sc__law_name:zL ["number","letters","word","k"] ["number"] (zm wK):=⟨rfl,rfl,rfl,by decide +kernel,rfl,by decide +kernel,by decide +kernel⟩
theorem sc__law_term:zL ["number","leaf","doers"] ["number"] (zm wL):=⟨rfl,rfl,rfl,by decide +kernel,rfl,by decide +kernel,by decide +kernel⟩
theorem sc__law_mixed:zL ["cell","k","number"] ["cell","k"] (zm wj):=⟨rfl,rfl,rfl,by decide +kernel,rfl,by decide +kernel,by decide +kernel⟩
theorem sc__law_row:zL ["cell","head","term","name"] ["cell"] (zm vf):=⟨rfl,rfl,rfl,by decide +kernel,rfl,by decide +kernel,by decide +kernel⟩
theorem sc__law_lines:zL ["cells","lines","turned","cell","kind","left"] ["cells"] (zm wk):=⟨rfl,rfl,rfl,by decide +kernel,rfl,by decide +kernel,by decide +kernel⟩
theorem YV:zL ["script","k"] ["script","k"] (zm xt):=⟨rfl,rfl,rfl,by decide +kernel,rfl,by decide +kernel,by decide +kernel⟩
theorem sc__law_signs_turned:zL ["line","number","some","sign","at"] ["line","number"] (zm yx):=⟨rfl,rfl,rfl,by decide +kernel,rfl,by decide +kernel,by decide +kernel⟩
theorem Ve:zL ["many"] ["many"] (zm wM):=⟨rfl,rfl,rfl,by decide +kernel,rfl,by decide +kernel,by decide +kernel⟩
theorem sc__law_odd:zL ["number","some"] ["number"] (zm vg):=⟨rfl,rfl,rfl,by decide +kernel,rfl,by decide +kernel,by decide +kernel⟩
theorem sc__law_line:zL ["script","lines","cell","number","at","kind","more","many"] ["script"] (zm wN):=⟨rfl,rfl,rfl,by decide +kernel,rfl,by decide +kernel,by decide +kernel⟩
theorem sc__law_is_numeral:zL ["word","figures","sign"] ["word"] (zm yL):=⟨rfl,rfl,rfl,by decide +kernel,rfl,by decide +kernel,by decide +kernel⟩
theorem sc__law_end:zL ["words","at","lacking","k"] ["words","at"] (zm vi):=⟨rfl,rfl,rfl,by decide +kernel,rfl,by decide +kernel,by decide +kernel⟩
theorem sc__law_form:zL ["words","end"] ["words"] (zm wO):=⟨rfl,rfl,rfl,by decide +kernel,rfl,by decide +kernel,by decide +kernel⟩
theorem sc__law_judged:zL ["lines","turned","many","k","words"] ["lines"] (zm xE):=⟨rfl,rfl,rfl,by decide +kernel,rfl,by decide +kernel,by decide +kernel⟩
theorem YW:zL ["self"] ["self"] (zm xu):=⟨rfl,rfl,rfl,by decide +kernel,rfl,by decide +kernel,by decide +kernel⟩
theorem jR:zL ["self","row"] ["self","row"] (zm yW):=⟨rfl,rfl,rfl,by decide +kernel,rfl,by decide +kernel,by decide +kernel⟩
theorem Ys:zL ["self","number"] ["self","number"] (zm xg):=⟨rfl,rfl,rfl,by decide +kernel,rfl,by decide +kernel,by decide +kernel⟩
theorem Yt:zL ["self","number"] ["self","number"] (zm xh):=⟨rfl,rfl,rfl,by decide +kernel,rfl,by decide +kernel,by decide +kernel⟩
theorem qm:zL ["self"] ["self"] (zm yy):=⟨rfl,rfl,rfl,by decide +kernel,rfl,by decide +kernel,by decide +kernel⟩
theorem Z8:zL ["self","row","number"] ["self","row","number"] (zm yX):=⟨rfl,rfl,rfl,by decide +kernel,rfl,by decide +kernel,by decide +kernel⟩
theorem Yu:zL ["self","row","number"] ["self","row","number"] (zm xi):=⟨rfl,rfl,rfl,by decide +kernel,rfl,by decide +kernel,by decide +kernel⟩
theorem Yv:zL ["self","words","number"] ["self","words","number"] (zm xj):=⟨rfl,rfl,rfl,by decide +kernel,rfl,by decide +kernel,by decide +kernel⟩
theorem sc_RowWords_draw_word:zL ["self","word"] ["self"] (zm yl):=⟨rfl,rfl,rfl,by decide +kernel,rfl,by decide +kernel,by decide +kernel⟩
theorem J6:zL ["text"] ["text"] (zm vj):=⟨rfl,rfl,rfl,by decide +kernel,rfl,by decide +kernel,by decide +kernel⟩
theorem sc_RowWords_draw_name:zL ["self","word"] ["self"] (zm ym):=⟨rfl,rfl,rfl,by decide +kernel,rfl,by decide +kernel,by decide +kernel⟩
theorem sc_behind_term:zL ["words","at","due","place"] ["words","at"] (zm xF):=⟨rfl,rfl,rfl,by decide +kernel,rfl,by decide +kernel,by decide +kernel⟩
theorem V8:zL ["thing"] ["thing"] (zm vk):=⟨rfl,rfl,rfl,by decide +kernel,rfl,by decide +kernel,by decide +kernel⟩
theorem X8:zL ["text"] ["text"] (zm xy):=⟨rfl,rfl,rfl,by decide +kernel,rfl,by decide +kernel,by decide +kernel⟩
theorem J7:zL ["worth"] ["worth"] (zm jf):=⟨rfl,rfl,rfl,by decide +kernel,rfl,by decide +kernel,by decide +kernel⟩
theorem sc_is_numeral:zL ["text","figures","worth"] ["text"] (zm wm):=⟨rfl,rfl,rfl,by decide +kernel,rfl,by decide +kernel,by decide +kernel⟩
theorem V9:zL ["text"] ["text"] (zm vm):=⟨rfl,rfl,rfl,by decide +kernel,rfl,by decide +kernel,by decide +kernel⟩
theorem J8:zL ["word"] ["word"] (zm jg):=⟨rfl,rfl,rfl,by decide +kernel,rfl,by decide +kernel,by decide +kernel⟩
theorem sc_term_from:zL ["words","at","behind","parts","word","first","second"] ["words","at"] (zm wP):=⟨rfl,rfl,rfl,by decide +kernel,rfl,by decide +kernel,by decide +kernel⟩
theorem sc_RowWords_draw_term:zL ["self","found"] ["self"] (zm yn):=⟨rfl,rfl,rfl,by decide +kernel,rfl,by decide +kernel,by decide +kernel⟩
theorem qZ:zL ["self"] ["self"] (zm yD):=⟨rfl,rfl,rfl,by decide +kernel,rfl,by decide +kernel,by decide +kernel⟩
theorem sc_take_drawn:zL ["words","shelf","place"] ["words"] (zm wp):=⟨rfl,rfl,rfl,by decide +kernel,rfl,by decide +kernel,by decide +kernel⟩
theorem sc_row_drawn:zL ["words","first"] ["words"] (zm wQ):=⟨rfl,rfl,rfl,by decide +kernel,rfl,by decide +kernel,by decide +kernel⟩
theorem qo:zL ["self"] ["self"] (zm yz):=⟨rfl,rfl,rfl,by decide +kernel,rfl,by decide +kernel,by decide +kernel⟩
theorem sc_row_in:zL ["text","number","words","drawn","row"] ["text","number"] (zm kh):=⟨rfl,rfl,rfl,by decide +kernel,rfl,by decide +kernel,by decide +kernel⟩
theorem sc_read:zL ["text","texts","reading","number","one"] ["text"] (zm Yr):=⟨rfl,rfl,rfl,by decide +kernel,rfl,by decide +kernel,by decide +kernel⟩
theorem sc__law_refused:zL ["line","bad","caught","other","e","at"] ["line","bad"] (zm xv):=⟨rfl,rfl,rfl,by decide +kernel,rfl,by decide +kernel,by decide +kernel⟩
theorem sc_law:zL ["script","number","line","lines","bad","many","found"] ["script"] (zm WE):=⟨rfl,rfl,rfl,by decide +kernel,rfl,by decide +kernel,by decide +kernel⟩
set_option genSizeOf false in
set_option genInjectivity false in
structure Adr where
 a__law_is_name:Addr
 d__law_is_name:FuncData
 a__law_name:Addr
 d__law_name:FuncData
 a__law_term:Addr
 d__law_term:FuncData
 a__law_mixed:Addr
 d__law_mixed:FuncData
 a__law_row:Addr
 d__law_row:FuncData
 a__law_lines:Addr
 d__law_lines:FuncData
 a__law_cell_at:Addr
 d__law_cell_at:FuncData
 a__law_signs_turned:Addr
 d__law_signs_turned:FuncData
 a__law_long:Addr
 d__law_long:FuncData
 a__law_odd:Addr
 d__law_odd:FuncData
 a__law_line:Addr
 d__law_line:FuncData
 a__law_is_numeral:Addr
 d__law_is_numeral:FuncData
 a__law_end:Addr
 d__law_end:FuncData
 a__law_form:Addr
 d__law_form:FuncData
 a__law_judged:Addr
 d__law_judged:FuncData
 a_Reading_init:Addr
 d_Reading_init:FuncData
 a_NoDealing_init:Addr
 d_NoDealing_init:FuncData
 a_Reading_turns:Addr
 d_Reading_turns:FuncData
 a_Reading_shuts:Addr
 d_Reading_shuts:FuncData
 a_Reading_innermost:Addr
 d_Reading_innermost:FuncData
 a_Reading_begins:Addr
 d_Reading_begins:FuncData
 a_Reading_reads:Addr
 d_Reading_reads:FuncData
 a_RowWords_init:Addr
 d_RowWords_init:FuncData
 a_RowWords_draw_word:Addr
 d_RowWords_draw_word:FuncData
 a_is_name:Addr
 d_is_name:FuncData
 a_RowWords_draw_name:Addr
 d_RowWords_draw_name:FuncData
 a_behind_term:Addr
 d_behind_term:FuncData
 a_is_worth:Addr
 d_is_worth:FuncData
 a_is_figures:Addr
 d_is_figures:FuncData
 a_numeral:Addr
 d_numeral:FuncData
 a_is_numeral:Addr
 d_is_numeral:FuncData
 a_worth_in:Addr
 d_worth_in:FuncData
 a_part_in:Addr
 d_part_in:FuncData
 a_term_from:Addr
 d_term_from:FuncData
 a_RowWords_draw_term:Addr
 d_RowWords_draw_term:FuncData
 a_RowWords_draw_as:Addr
 d_RowWords_draw_as:FuncData
 a_take_drawn:Addr
 d_take_drawn:FuncData
 a_row_drawn:Addr
 d_row_drawn:FuncData
 a_RowWords_draw_end:Addr
 d_RowWords_draw_end:FuncData
 a_row_in:Addr
 d_row_in:FuncData
 a_read:Addr
 d_read:FuncData
 a__law_refused:Addr
 d__law_refused:FuncData
 a_law:Addr
 d_law:FuncData
 k_FIGURES:Tok
 c_JOINING:Addr
 k_LETTERS:Tok
 k_MOST_BLOCKS:Tok
 k_MOST_FIGURES:Tok
 k_MOST_LETTERS:Tok
 k_MOST_ROWS:Tok
 k_MOST_WORDS_reader:Tok
 k_MOST_WORDS_terms:Tok
 c_ROW_WORDS:Addr
 c_Folded:Addr
 c_ForerunError:Addr
 c_Great:Addr
 c_NoDealing:Addr
 c_NoHand:Addr
 c_NoLine:Addr
 c_NoLog:Addr
 c_NoNumber:Addr
 c_NoOrder:Addr
 c_NoTerm:Addr
 c_Nought:Addr
 c_Reading:Addr
 c_RowWords:Addr
structure Txt (K:PySem.W.Frag) (mg:Str→Option Value) (t:Adr):Prop where
 f__law_is_name:Fun K "_law_is_name" "_law_is_name" xr t.a__law_is_name t.d__law_is_name
 b__law_is_name:Binds K t.d__law_is_name ["word"] []
 m__law_is_name:mg "_law_is_name"=some (.ref t.a__law_is_name)
 f__law_name:Fun K "_law_name" "_law_name" wK t.a__law_name t.d__law_name
 b__law_name:Binds K t.d__law_name ["number"] []
 m__law_name:mg "_law_name"=some (.ref t.a__law_name)
 f__law_term:Fun K "_law_term" "_law_term" wL t.a__law_term t.d__law_term
 b__law_term:Binds K t.d__law_term ["number"] []
 m__law_term:mg "_law_term"=some (.ref t.a__law_term)
 f__law_mixed:Fun K "_law_mixed" "_law_mixed" wj t.a__law_mixed t.d__law_mixed
 b__law_mixed:Binds K t.d__law_mixed ["cell","k"] []
 m__law_mixed:mg "_law_mixed"=some (.ref t.a__law_mixed)
 f__law_row:Fun K "_law_row" "_law_row" vf t.a__law_row t.d__law_row
 b__law_row:Binds K t.d__law_row ["cell"] []
 m__law_row:mg "_law_row"=some (.ref t.a__law_row)
 f__law_lines:Fun K "_law_lines" "_law_lines" wk t.a__law_lines t.d__law_lines
 b__law_lines:Binds K t.d__law_lines ["cells"] []
 m__law_lines:mg "_law_lines"=some (.ref t.a__law_lines)
 f__law_cell_at:Fun K "_law_cell_at" "_law_cell_at" xt t.a__law_cell_at t.d__law_cell_at
 b__law_cell_at:Binds K t.d__law_cell_at ["script","k"] []
 m__law_cell_at:mg "_law_cell_at"=some (.ref t.a__law_cell_at)
 f__law_signs_turned:Fun K "_law_signs_turned" "_law_signs_turned" yx t.a__law_signs_turned t.d__law_signs_turned
 b__law_signs_turned:Binds K t.d__law_signs_turned ["line","number"] []
 m__law_signs_turned:mg "_law_signs_turned"=some (.ref t.a__law_signs_turned)
 f__law_long:Fun K "_law_long" "_law_long" wM t.a__law_long t.d__law_long
 b__law_long:Binds K t.d__law_long ["many"] []
 m__law_long:mg "_law_long"=some (.ref t.a__law_long)
 f__law_odd:Fun K "_law_odd" "_law_odd" vg t.a__law_odd t.d__law_odd
 b__law_odd:Binds K t.d__law_odd ["number"] []
 m__law_odd:mg "_law_odd"=some (.ref t.a__law_odd)
 f__law_line:Fun K "_law_line" "_law_line" wN t.a__law_line t.d__law_line
 b__law_line:Binds K t.d__law_line ["script"] []
 m__law_line:mg "_law_line"=some (.ref t.a__law_line)
 f__law_is_numeral:Fun K "_law_is_numeral" "_law_is_numeral" yL t.a__law_is_numeral t.d__law_is_numeral
 b__law_is_numeral:Binds K t.d__law_is_numeral ["word"] []
 m__law_is_numeral:mg "_law_is_numeral"=some (.ref t.a__law_is_numeral)
 f__law_end:Fun K "_law_end" "_law_end" vi t.a__law_end t.d__law_end
 b__law_end:Binds K t.d__law_end ["words","at"] []
 m__law_end:mg "_law_end"=some (.ref t.a__law_end)
 f__law_form:Fun K "_law_form" "_law_form" wO t.a__law_form t.d__law_form
 b__law_form:Binds K t.d__law_form ["words"] []
 m__law_form:mg "_law_form"=some (.ref t.a__law_form)
 f__law_judged:Fun K "_law_judged" "_law_judged" xE t.a__law_judged t.d__law_judged
 b__law_judged:Binds K t.d__law_judged ["lines"] []
 m__law_judged:mg "_law_judged"=some (.ref t.a__law_judged)
 f_Reading_init:Fun K "__init__" "Reading.__init__" xu t.a_Reading_init t.d_Reading_init
 b_Reading_init:Binds K t.d_Reading_init ["self"] []
 f_NoDealing_init:Fun K "__init__" "NoDealing.__init__" yW t.a_NoDealing_init t.d_NoDealing_init
 b_NoDealing_init:Binds K t.d_NoDealing_init ["self","row"] []
 f_Reading_turns:Fun K "turns" "Reading.turns" xg t.a_Reading_turns t.d_Reading_turns
 b_Reading_turns:Binds K t.d_Reading_turns ["self","number"] []
 me_Reading_turns:Yj K t.c_Reading "turns" t.a_Reading_turns
 f_Reading_shuts:Fun K "shuts" "Reading.shuts" xh t.a_Reading_shuts t.d_Reading_shuts
 b_Reading_shuts:Binds K t.d_Reading_shuts ["self","number"] []
 me_Reading_shuts:Yj K t.c_Reading "shuts" t.a_Reading_shuts
 f_Reading_innermost:Fun K "innermost" "Reading.innermost" yy t.a_Reading_innermost t.d_Reading_innermost
 b_Reading_innermost:Binds K t.d_Reading_innermost ["self"] []
 me_Reading_innermost:Yj K t.c_Reading "innermost" t.a_Reading_innermost
 f_Reading_begins:Fun K "begins" "Reading.begins" yX t.a_Reading_begins t.d_Reading_begins
 b_Reading_begins:Binds K t.d_Reading_begins ["self","row","number"] []
 me_Reading_begins:Yj K t.c_Reading "begins" t.a_Reading_begins
 f_Reading_reads:Fun K "reads" "Reading.reads" xi t.a_Reading_reads t.d_Reading_reads
 b_Reading_reads:Binds K t.d_Reading_reads ["self","row","number"] []
 me_Reading_reads:Yj K t.c_Reading "reads" t.a_Reading_reads
 f_RowWords_init:Fun K "__init__" "RowWords.__init__" xj t.a_RowWords_init t.d_RowWords_init
 b_RowWords_init:Binds K t.d_RowWords_init ["self","words","number"] []
 f_RowWords_draw_word:Fun K "draw_word" "RowWords.draw_word" yl t.a_RowWords_draw_word t.d_RowWords_draw_word
 b_RowWords_draw_word:Binds K t.d_RowWords_draw_word ["self"] []
 me_RowWords_draw_word:Yj K t.c_RowWords "draw_word" t.a_RowWords_draw_word
 f_is_name:Fun K "is_name" "is_name" vj t.a_is_name t.d_is_name
 b_is_name:Binds K t.d_is_name ["text"] []
 m_is_name:mg "is_name"=some (.ref t.a_is_name)
 f_RowWords_draw_name:Fun K "draw_name" "RowWords.draw_name" ym t.a_RowWords_draw_name t.d_RowWords_draw_name
 b_RowWords_draw_name:Binds K t.d_RowWords_draw_name ["self"] []
 me_RowWords_draw_name:Yj K t.c_RowWords "draw_name" t.a_RowWords_draw_name
 f_behind_term:Fun K "behind_term" "behind_term" xF t.a_behind_term t.d_behind_term
 b_behind_term:Binds K t.d_behind_term ["words","at"] []
 m_behind_term:mg "behind_term"=some (.ref t.a_behind_term)
 f_is_worth:Fun K "is_worth" "is_worth" vk t.a_is_worth t.d_is_worth
 b_is_worth:Binds K t.d_is_worth ["thing"] []
 m_is_worth:mg "is_worth"=some (.ref t.a_is_worth)
 f_is_figures:Fun K "is_figures" "is_figures" xy t.a_is_figures t.d_is_figures
 b_is_figures:Binds K t.d_is_figures ["text"] []
 m_is_figures:mg "is_figures"=some (.ref t.a_is_figures)
 f_numeral:Fun K "numeral" "numeral" jf t.a_numeral t.d_numeral
 b_numeral:Binds K t.d_numeral ["worth"] []
 m_numeral:mg "numeral"=some (.ref t.a_numeral)
 f_is_numeral:Fun K "is_numeral" "is_numeral" wm t.a_is_numeral t.d_is_numeral
 b_is_numeral:Binds K t.d_is_numeral ["text"] []
 m_is_numeral:mg "is_numeral"=some (.ref t.a_is_numeral)
 f_worth_in:Fun K "worth_in" "worth_in" vm t.a_worth_in t.d_worth_in
 b_worth_in:Binds K t.d_worth_in ["text"] []
 m_worth_in:mg "worth_in"=some (.ref t.a_worth_in)
 f_part_in:Fun K "part_in" "part_in" jg t.a_part_in t.d_part_in
 b_part_in:Binds K t.d_part_in ["word"] []
 m_part_in:mg "part_in"=some (.ref t.a_part_in)
 f_term_from:Fun K "term_from" "term_from" wP t.a_term_from t.d_term_from
 b_term_from:Binds K t.d_term_from ["words","at"] []
 m_term_from:mg "term_from"=some (.ref t.a_term_from)
 f_RowWords_draw_term:Fun K "draw_term" "RowWords.draw_term" yn t.a_RowWords_draw_term t.d_RowWords_draw_term
 b_RowWords_draw_term:Binds K t.d_RowWords_draw_term ["self"] []
 me_RowWords_draw_term:Yj K t.c_RowWords "draw_term" t.a_RowWords_draw_term
 f_RowWords_draw_as:Fun K "draw_as" "RowWords.draw_as" yD t.a_RowWords_draw_as t.d_RowWords_draw_as
 b_RowWords_draw_as:Binds K t.d_RowWords_draw_as ["self"] []
 me_RowWords_draw_as:Yj K t.c_RowWords "draw_as" t.a_RowWords_draw_as
 f_take_drawn:Fun K "take_drawn" "take_drawn" wp t.a_take_drawn t.d_take_drawn
 b_take_drawn:Binds K t.d_take_drawn ["words"] []
 m_take_drawn:mg "take_drawn"=some (.ref t.a_take_drawn)
 f_row_drawn:Fun K "row_drawn" "row_drawn" wQ t.a_row_drawn t.d_row_drawn
 b_row_drawn:Binds K t.d_row_drawn ["words"] []
 m_row_drawn:mg "row_drawn"=some (.ref t.a_row_drawn)
 f_RowWords_draw_end:Fun K "draw_end" "RowWords.draw_end" yz t.a_RowWords_draw_end t.d_RowWords_draw_end
 b_RowWords_draw_end:Binds K t.d_RowWords_draw_end ["self"] []
 me_RowWords_draw_end:Yj K t.c_RowWords "draw_end" t.a_RowWords_draw_end
 f_row_in:Fun K "row_in" "row_in" kh t.a_row_in t.d_row_in
 b_row_in:Binds K t.d_row_in ["text","number"] []
 m_row_in:mg "row_in"=some (.ref t.a_row_in)
 f_read:Fun K "read" "read" Yr t.a_read t.d_read
 b_read:Binds K t.d_read ["text"] []
 m_read:mg "read"=some (.ref t.a_read)
 f__law_refused:Fun K "_law_refused" "_law_refused" xv t.a__law_refused t.d__law_refused
 b__law_refused:Binds K t.d__law_refused ["line","bad"] []
 m__law_refused:mg "_law_refused"=some (.ref t.a__law_refused)
 f_law:Fun K "law" "law" WE t.a_law t.d_law
 b_law:Binds K t.d_law ["script"] []
 m_law:mg "law"=some (.ref t.a_law)
 w_law:∀ (s:Shared) (v:Value),BindsTo s t.d_law ⟨[v],[]⟩ [("script",v)]
 b_ValueError:mg "ValueError"=none
 b_all:mg "all"=none
 b_bool:mg "bool"=none
 b_enumerate:mg "enumerate"=none
 b_int:mg "int"=none
 b_isinstance:mg "isinstance"=none
 b_len:mg "len"=none
 b_list:mg "list"=none
 b_range:mg "range"=none
 b_reversed:mg "reversed"=none
 b_str:mg "str"=none
 g_FIGURES:mg "FIGURES"=some (.str "0123456789" t.k_FIGURES)
 g_JOINING:mg "JOINING"=some (.ref t.c_JOINING)
 v_JOINING:∀ H:Hp,SqT K H t.c_JOINING [.str "plus",.str "minus",.str "times",.str "over",.str "rest",.str "under",.str "same"]
 g_LETTERS:mg "LETTERS"=some (.str "abcdefghijklmnopqrstuvwxyz" t.k_LETTERS)
 g_MOST_BLOCKS:mg "MOST_BLOCKS"=some (.int 5 t.k_MOST_BLOCKS)
 g_MOST_FIGURES:mg "MOST_FIGURES"=some (.int 31 t.k_MOST_FIGURES)
 g_MOST_LETTERS:mg "MOST_LETTERS"=some (.int 6 t.k_MOST_LETTERS)
 g_MOST_ROWS:mg "MOST_ROWS"=some (.int 40 t.k_MOST_ROWS)
 g_MOST_WORDS_reader:mg "MOST_WORDS_reader"=some (.int 60 t.k_MOST_WORDS_reader)
 g_MOST_WORDS_terms:mg "MOST_WORDS_terms"=some (.int 60 t.k_MOST_WORDS_terms)
 g_ROW_WORDS:mg "ROW_WORDS"=some (.ref t.c_ROW_WORDS)
 v_ROW_WORDS:∀ H:Hp,SqT K H t.c_ROW_WORDS [.str "take",.str "give",.str "let",.str "say",.str "off",.str "if",.str "else",.str "end",.str "as"]
 g_Folded:mg "Folded"=some (.ref t.c_Folded)
 g_ForerunError:mg "ForerunError"=some (.ref t.c_ForerunError)
 g_Great:mg "Great"=some (.ref t.c_Great)
 g_NoDealing:mg "NoDealing"=some (.ref t.c_NoDealing)
 g_NoHand:mg "NoHand"=some (.ref t.c_NoHand)
 g_NoLine:mg "NoLine"=some (.ref t.c_NoLine)
 g_NoLog:mg "NoLog"=some (.ref t.c_NoLog)
 g_NoNumber:mg "NoNumber"=some (.ref t.c_NoNumber)
 g_NoOrder:mg "NoOrder"=some (.ref t.c_NoOrder)
 g_NoTerm:mg "NoTerm"=some (.ref t.c_NoTerm)
 g_Nought:mg "Nought"=some (.ref t.c_Nought)
 g_Reading:mg "Reading"=some (.ref t.c_Reading)
 g_RowWords:mg "RowWords"=some (.ref t.c_RowWords)
 cl_Reading:Cls K t.c_Reading
 mk_Reading:Mk K t.c_Reading t.a_Reading_init
 na_Reading_blocks:NoAttr K t.c_Reading "blocks"
 na_Reading_rows:NoAttr K t.c_Reading "rows"
 na_Reading_turned:NoAttr K t.c_Reading "turned"
 cl_RowWords:Cls K t.c_RowWords
 mk_RowWords:Mk K t.c_RowWords t.a_RowWords_init
 na_RowWords_at:NoAttr K t.c_RowWords "at"
 na_RowWords_number:NoAttr K t.c_RowWords "number"
 na_RowWords_words:NoAttr K t.c_RowWords "words"
 xi_NoDealing:Xw K t.c_NoDealing t.a_NoDealing_init=true
 xk_NoDealing:PySem.W.keepIn K (.ref t.c_NoDealing)=true
 xf_NoDealing:PySem.W.isFn K (.ref t.a_NoDealing_init)=true
 es_NoDealing:ExS K t.c_NoDealing
 nx_NoDealing:NoAttr K t.c_NoDealing "row"
 e_NoDealing_NoTerm:PySem.W.exmOne K (.ref t.c_NoDealing) (.ref t.c_NoTerm)=some false
 e_NoDealing_ForerunError:PySem.W.exmOne K (.ref t.c_NoDealing) (.ref t.c_ForerunError)=some true
 e_NoDealing_NoDealing:PySem.W.exmOne K (.ref t.c_NoDealing) (.ref t.c_NoDealing)=some true
 i_NoDealing_ValueError:PySem.W.kitOne K (.ref t.c_NoDealing) (.type "ValueError")=some true
 j_NoDealing_0:PySem.W.kitAny K (.ref t.c_NoDealing) [.ref t.c_NoTerm,.ref t.c_NoNumber,.ref t.c_Nought,.ref t.c_Great,.ref t.c_Folded,.ref t.c_NoHand,.ref t.c_NoOrder,.ref t.c_NoLine,.ref t.c_NoLog]=some false
 x_NoTerm:PySem.W.excIn K t.c_NoTerm YQ vP=true
 y_NoTerm:ExK K t.c_NoTerm
 e_NoTerm_NoTerm:PySem.W.exmOne K (.ref t.c_NoTerm) (.ref t.c_NoTerm)=some true
 e_NoTerm_ForerunError:PySem.W.exmOne K (.ref t.c_NoTerm) (.ref t.c_ForerunError)=some true
 e_NoTerm_NoDealing:PySem.W.exmOne K (.ref t.c_NoTerm) (.ref t.c_NoDealing)=some false
 i_NoTerm_ValueError:PySem.W.kitOne K (.ref t.c_NoTerm) (.type "ValueError")=some true
 j_NoTerm_0:PySem.W.kitAny K (.ref t.c_NoTerm) [.ref t.c_NoTerm,.ref t.c_NoNumber,.ref t.c_Nought,.ref t.c_Great,.ref t.c_Folded,.ref t.c_NoHand,.ref t.c_NoOrder,.ref t.c_NoLine,.ref t.c_NoLog]=some true
 x_NoNumber:PySem.W.excIn K t.c_NoNumber YQ vP=true
 y_NoNumber:ExK K t.c_NoNumber
 e_NoNumber_NoTerm:PySem.W.exmOne K (.ref t.c_NoNumber) (.ref t.c_NoTerm)=some false
 e_NoNumber_ForerunError:PySem.W.exmOne K (.ref t.c_NoNumber) (.ref t.c_ForerunError)=some true
 e_NoNumber_NoDealing:PySem.W.exmOne K (.ref t.c_NoNumber) (.ref t.c_NoDealing)=some false
 i_NoNumber_ValueError:PySem.W.kitOne K (.ref t.c_NoNumber) (.type "ValueError")=some true
 j_NoNumber_0:PySem.W.kitAny K (.ref t.c_NoNumber) [.ref t.c_NoTerm,.ref t.c_NoNumber,.ref t.c_Nought,.ref t.c_Great,.ref t.c_Folded,.ref t.c_NoHand,.ref t.c_NoOrder,.ref t.c_NoLine,.ref t.c_NoLog]=some true
theorem txt_mk {K:PySem.W.Frag} {h:Heap} {mg:Str→Option Value} (X:K.In h) (G:h.Ns mainGlobals mg)
  {f0:Addr} {od0 an0:Option Addr} {sl0:Array (Option Value)} {oc0 kV0 dc0 pm0 cd0 ct0:Value}
  {f1:Addr} {od1 an1:Option Addr} {sl1:Array (Option Value)} {oc1 kV1 dc1 pm1 cd1 ct1:Value}
  {f2:Addr} {od2 an2:Option Addr} {sl2:Array (Option Value)} {oc2 kV2 dc2 pm2 cd2 ct2:Value}
  {f3:Addr} {od3 an3:Option Addr} {sl3:Array (Option Value)} {oc3 kV3 dc3 pm3 cd3 ct3:Value}
  {f4:Addr} {od4 an4:Option Addr} {sl4:Array (Option Value)} {oc4 kV4 dc4 pm4 cd4 ct4:Value}
  {f5:Addr} {od5 an5:Option Addr} {sl5:Array (Option Value)} {oc5 kV5 dc5 pm5 cd5 ct5:Value}
  {f6:Addr} {od6 an6:Option Addr} {sl6:Array (Option Value)} {oc6 kV6 dc6 pm6 cd6 ct6:Value}
  {f7:Addr} {od7 an7:Option Addr} {sl7:Array (Option Value)} {oc7 kV7 dc7 pm7 cd7 ct7:Value}
  {f8:Addr} {od8 an8:Option Addr} {sl8:Array (Option Value)} {oc8 kV8 dc8 pm8 cd8 ct8:Value}
  {f9:Addr} {od9 an9:Option Addr} {sl9:Array (Option Value)} {oc9 kV9 dc9 pm9 cd9 ct9:Value}
  {f10:Addr} {od10 an10:Option Addr} {sl10:Array (Option Value)} {oc10 kV10 dc10 pm10 cd10 ct10:Value}
  {f11:Addr} {od11 an11:Option Addr} {sl11:Array (Option Value)} {oc11 kV11 dc11 pm11 cd11 ct11:Value}
  {f12:Addr} {od12 an12:Option Addr} {sl12:Array (Option Value)} {oc12 kV12 dc12 pm12 cd12 ct12:Value}
  {f13:Addr} {od13 an13:Option Addr} {sl13:Array (Option Value)} {oc13 kV13 dc13 pm13 cd13 ct13:Value}
  {f14:Addr} {od14 an14:Option Addr} {sl14:Array (Option Value)} {oc14 kV14 dc14 pm14 cd14 ct14:Value}
  {f15:Addr} {od15 an15:Option Addr} {sl15:Array (Option Value)} {oc15 kV15 dc15 pm15 cd15 ct15:Value}
  {f16:Addr} {od16 an16:Option Addr} {sl16:Array (Option Value)} {oc16 kV16 dc16 pm16 cd16 ct16:Value}
  {f17:Addr} {od17 an17:Option Addr} {sl17:Array (Option Value)} {oc17 kV17 dc17 pm17 cd17 ct17:Value}
  {f18:Addr} {od18 an18:Option Addr} {sl18:Array (Option Value)} {oc18 kV18 dc18 pm18 cd18 ct18:Value}
  {f19:Addr} {od19 an19:Option Addr} {sl19:Array (Option Value)} {oc19 kV19 dc19 pm19 cd19 ct19:Value}
  {f20:Addr} {od20 an20:Option Addr} {sl20:Array (Option Value)} {oc20 kV20 dc20 pm20 cd20 ct20:Value}
  {f21:Addr} {od21 an21:Option Addr} {sl21:Array (Option Value)} {oc21 kV21 dc21 pm21 cd21 ct21:Value}
  {f22:Addr} {od22 an22:Option Addr} {sl22:Array (Option Value)} {oc22 kV22 dc22 pm22 cd22 ct22:Value}
  {f23:Addr} {od23 an23:Option Addr} {sl23:Array (Option Value)} {oc23 kV23 dc23 pm23 cd23 ct23:Value}
  {f24:Addr} {od24 an24:Option Addr} {sl24:Array (Option Value)} {oc24 kV24 dc24 pm24 cd24 ct24:Value}
  {f25:Addr} {od25 an25:Option Addr} {sl25:Array (Option Value)} {oc25 kV25 dc25 pm25 cd25 ct25:Value}
  {f26:Addr} {od26 an26:Option Addr} {sl26:Array (Option Value)} {oc26 kV26 dc26 pm26 cd26 ct26:Value}
  {f27:Addr} {od27 an27:Option Addr} {sl27:Array (Option Value)} {oc27 kV27 dc27 pm27 cd27 ct27:Value}
  {f28:Addr} {od28 an28:Option Addr} {sl28:Array (Option Value)} {oc28 kV28 dc28 pm28 cd28 ct28:Value}
  {f29:Addr} {od29 an29:Option Addr} {sl29:Array (Option Value)} {oc29 kV29 dc29 pm29 cd29 ct29:Value}
  {f30:Addr} {od30 an30:Option Addr} {sl30:Array (Option Value)} {oc30 kV30 dc30 pm30 cd30 ct30:Value}
  {f31:Addr} {od31 an31:Option Addr} {sl31:Array (Option Value)} {oc31 kV31 dc31 pm31 cd31 ct31:Value}
  {f32:Addr} {od32 an32:Option Addr} {sl32:Array (Option Value)} {oc32 kV32 dc32 pm32 cd32 ct32:Value}
  {f33:Addr} {od33 an33:Option Addr} {sl33:Array (Option Value)} {oc33 kV33 dc33 pm33 cd33 ct33:Value}
  {f34:Addr} {od34 an34:Option Addr} {sl34:Array (Option Value)} {oc34 kV34 dc34 pm34 cd34 ct34:Value}
  {f35:Addr} {od35 an35:Option Addr} {sl35:Array (Option Value)} {oc35 kV35 dc35 pm35 cd35 ct35:Value}
  {f36:Addr} {od36 an36:Option Addr} {sl36:Array (Option Value)} {oc36 kV36 dc36 pm36 cd36 ct36:Value}
  {f37:Addr} {od37 an37:Option Addr} {sl37:Array (Option Value)} {oc37 kV37 dc37 pm37 cd37 ct37:Value}
  {f38:Addr} {od38 an38:Option Addr} {sl38:Array (Option Value)} {oc38 kV38 dc38 pm38 cd38 ct38:Value}
  {f39:Addr} {od39 an39:Option Addr} {sl39:Array (Option Value)} {oc39 kV39 dc39 pm39 cd39 ct39:Value}
  {f40:Addr} {od40 an40:Option Addr} {sl40:Array (Option Value)} {oc40 kV40 dc40 pm40 cd40 ct40:Value}
  {f41:Addr} {od41 an41:Option Addr} {sl41:Array (Option Value)} {oc41 kV41 dc41 pm41 cd41 ct41:Value}
  {f42:Addr} {od42 an42:Option Addr} {sl42:Array (Option Value)} {oc42 kV42 dc42 pm42 cd42 ct42:Value}
  {gt0:Tok}
  {ga1:Addr} {gn1:Nat} {gt1_0:Tok} {gt1_1:Tok} {gt1_2:Tok} {gt1_3:Tok} {gt1_4:Tok} {gt1_5:Tok} {gt1_6:Tok}
  {gt2:Tok}
  {gt3:Tok}
  {gt4:Tok}
  {gt5:Tok}
  {gt6:Tok}
  {gt7:Tok}
  {gt8:Tok}
  {ga9:Addr} {gn9:Nat} {gt9_0:Tok} {gt9_1:Tok} {gt9_2:Tok} {gt9_3:Tok} {gt9_4:Tok} {gt9_5:Tok} {gt9_6:Tok} {gt9_7:Tok} {gt9_8:Tok}
  {ca0:Addr}
  {ca1:Addr}
  {ca2:Addr}
  {ca3:Addr}
  {ca4:Addr}
  {ca5:Addr}
  {ca6:Addr}
  {ca7:Addr}
  {ca8:Addr}
  {ca9:Addr}
  {ca10:Addr}
  {ca11:Addr}
  {ca12:Addr}
  {cl0:ClassData}
  {cl1:ClassData}
  (qa0:PySem.W.nsIn K mainGlobals "_law_is_name"=some (some (.ref f0))) (ql0:K.lookup f0=some ⟨oc0,od0,.func (PySem.W.fnOf "_law_is_name" "_law_is_name" (zM xr) (zJ xr) (zm xr) .none kV0 dc0 pm0 an0 cd0 ct0),sl0⟩) (qc0:PySem.W.codeIn K cd0 "_law_is_name"=true) (qk0:PySem.W.keepIn K (.ref f0)=true)
  (qa1:PySem.W.nsIn K mainGlobals "_law_name"=some (some (.ref f1))) (ql1:K.lookup f1=some ⟨oc1,od1,.func (PySem.W.fnOf "_law_name" "_law_name" (zM wK) (zJ wK) (zm wK) .none kV1 dc1 pm1 an1 cd1 ct1),sl1⟩) (qc1:PySem.W.codeIn K cd1 "_law_name"=true) (qk1:PySem.W.keepIn K (.ref f1)=true)
  (qa2:PySem.W.nsIn K mainGlobals "_law_term"=some (some (.ref f2))) (ql2:K.lookup f2=some ⟨oc2,od2,.func (PySem.W.fnOf "_law_term" "_law_term" (zM wL) (zJ wL) (zm wL) .none kV2 dc2 pm2 an2 cd2 ct2),sl2⟩) (qc2:PySem.W.codeIn K cd2 "_law_term"=true) (qk2:PySem.W.keepIn K (.ref f2)=true)
  (qa3:PySem.W.nsIn K mainGlobals "_law_mixed"=some (some (.ref f3))) (ql3:K.lookup f3=some ⟨oc3,od3,.func (PySem.W.fnOf "_law_mixed" "_law_mixed" (zM wj) (zJ wj) (zm wj) .none kV3 dc3 pm3 an3 cd3 ct3),sl3⟩) (qc3:PySem.W.codeIn K cd3 "_law_mixed"=true) (qk3:PySem.W.keepIn K (.ref f3)=true)
  (qa4:PySem.W.nsIn K mainGlobals "_law_row"=some (some (.ref f4))) (ql4:K.lookup f4=some ⟨oc4,od4,.func (PySem.W.fnOf "_law_row" "_law_row" (zM vf) (zJ vf) (zm vf) .none kV4 dc4 pm4 an4 cd4 ct4),sl4⟩) (qc4:PySem.W.codeIn K cd4 "_law_row"=true) (qk4:PySem.W.keepIn K (.ref f4)=true)
  (qa5:PySem.W.nsIn K mainGlobals "_law_lines"=some (some (.ref f5))) (ql5:K.lookup f5=some ⟨oc5,od5,.func (PySem.W.fnOf "_law_lines" "_law_lines" (zM wk) (zJ wk) (zm wk) .none kV5 dc5 pm5 an5 cd5 ct5),sl5⟩) (qc5:PySem.W.codeIn K cd5 "_law_lines"=true) (qk5:PySem.W.keepIn K (.ref f5)=true)
  (qa6:PySem.W.nsIn K mainGlobals "_law_cell_at"=some (some (.ref f6))) (ql6:K.lookup f6=some ⟨oc6,od6,.func (PySem.W.fnOf "_law_cell_at" "_law_cell_at" (zM xt) (zJ xt) (zm xt) .none kV6 dc6 pm6 an6 cd6 ct6),sl6⟩) (qc6:PySem.W.codeIn K cd6 "_law_cell_at"=true) (qk6:PySem.W.keepIn K (.ref f6)=true)
  (qa7:PySem.W.nsIn K mainGlobals "_law_signs_turned"=some (some (.ref f7))) (ql7:K.lookup f7=some ⟨oc7,od7,.func (PySem.W.fnOf "_law_signs_turned" "_law_signs_turned" (zM yx) (zJ yx) (zm yx) .none kV7 dc7 pm7 an7 cd7 ct7),sl7⟩) (qc7:PySem.W.codeIn K cd7 "_law_signs_turned"=true) (qk7:PySem.W.keepIn K (.ref f7)=true)
  (qa8:PySem.W.nsIn K mainGlobals "_law_long"=some (some (.ref f8))) (ql8:K.lookup f8=some ⟨oc8,od8,.func (PySem.W.fnOf "_law_long" "_law_long" (zM wM) (zJ wM) (zm wM) .none kV8 dc8 pm8 an8 cd8 ct8),sl8⟩) (qc8:PySem.W.codeIn K cd8 "_law_long"=true) (qk8:PySem.W.keepIn K (.ref f8)=true)
  (qa9:PySem.W.nsIn K mainGlobals "_law_odd"=some (some (.ref f9))) (ql9:K.lookup f9=some ⟨oc9,od9,.func (PySem.W.fnOf "_law_odd" "_law_odd" (zM vg) (zJ vg) (zm vg) .none kV9 dc9 pm9 an9 cd9 ct9),sl9⟩) (qc9:PySem.W.codeIn K cd9 "_law_odd"=true) (qk9:PySem.W.keepIn K (.ref f9)=true)
  (qa10:PySem.W.nsIn K mainGlobals "_law_line"=some (some (.ref f10))) (ql10:K.lookup f10=some ⟨oc10,od10,.func (PySem.W.fnOf "_law_line" "_law_line" (zM wN) (zJ wN) (zm wN) .none kV10 dc10 pm10 an10 cd10 ct10),sl10⟩) (qc10:PySem.W.codeIn K cd10 "_law_line"=true) (qk10:PySem.W.keepIn K (.ref f10)=true)
  (qa11:PySem.W.nsIn K mainGlobals "_law_is_numeral"=some (some (.ref f11))) (ql11:K.lookup f11=some ⟨oc11,od11,.func (PySem.W.fnOf "_law_is_numeral" "_law_is_numeral" (zM yL) (zJ yL) (zm yL) .none kV11 dc11 pm11 an11 cd11 ct11),sl11⟩) (qc11:PySem.W.codeIn K cd11 "_law_is_numeral"=true) (qk11:PySem.W.keepIn K (.ref f11)=true)
  (qa12:PySem.W.nsIn K mainGlobals "_law_end"=some (some (.ref f12))) (ql12:K.lookup f12=some ⟨oc12,od12,.func (PySem.W.fnOf "_law_end" "_law_end" (zM vi) (zJ vi) (zm vi) .none kV12 dc12 pm12 an12 cd12 ct12),sl12⟩) (qc12:PySem.W.codeIn K cd12 "_law_end"=true) (qk12:PySem.W.keepIn K (.ref f12)=true)
  (qa13:PySem.W.nsIn K mainGlobals "_law_form"=some (some (.ref f13))) (ql13:K.lookup f13=some ⟨oc13,od13,.func (PySem.W.fnOf "_law_form" "_law_form" (zM wO) (zJ wO) (zm wO) .none kV13 dc13 pm13 an13 cd13 ct13),sl13⟩) (qc13:PySem.W.codeIn K cd13 "_law_form"=true) (qk13:PySem.W.keepIn K (.ref f13)=true)
  (qa14:PySem.W.nsIn K mainGlobals "_law_judged"=some (some (.ref f14))) (ql14:K.lookup f14=some ⟨oc14,od14,.func (PySem.W.fnOf "_law_judged" "_law_judged" (zM xE) (zJ xE) (zm xE) .none kV14 dc14 pm14 an14 cd14 ct14),sl14⟩) (qc14:PySem.W.codeIn K cd14 "_law_judged"=true) (qk14:PySem.W.keepIn K (.ref f14)=true)
  (qa15:PySem.W.findIn K (.ref ca11) "__init__"=some (some (.ref f15))) (qi15:PySem.W.isFn K (.ref f15)=true) (ql15:K.lookup f15=some ⟨oc15,od15,.func (PySem.W.fnOf "__init__" "Reading.__init__" (zM xu) (zJ xu) (zm xu) .none kV15 dc15 pm15 an15 cd15 ct15),sl15⟩) (qc15:PySem.W.codeIn K cd15 "Reading.__init__"=true) (qk15:PySem.W.keepIn K (.ref f15)=true)
  (qa16:PySem.W.findIn K (.ref ca3) "__init__"=some (some (.ref f16))) (qi16:PySem.W.isFn K (.ref f16)=true) (ql16:K.lookup f16=some ⟨oc16,od16,.func (PySem.W.fnOf "__init__" "NoDealing.__init__" (zM yW) (zJ yW) (zm yW) .none kV16 dc16 pm16 an16 cd16 ct16),sl16⟩) (qc16:PySem.W.codeIn K cd16 "NoDealing.__init__"=true) (qk16:PySem.W.keepIn K (.ref f16)=true)
  (qa17:PySem.W.findIn K (.ref ca11) "turns"=some (some (.ref f17))) (qi17:PySem.W.isFn K (.ref f17)=true) (ql17:K.lookup f17=some ⟨oc17,od17,.func (PySem.W.fnOf "turns" "Reading.turns" (zM xg) (zJ xg) (zm xg) .none kV17 dc17 pm17 an17 cd17 ct17),sl17⟩) (qc17:PySem.W.codeIn K cd17 "Reading.turns"=true) (qk17:PySem.W.keepIn K (.ref f17)=true)
  (qa18:PySem.W.findIn K (.ref ca11) "shuts"=some (some (.ref f18))) (qi18:PySem.W.isFn K (.ref f18)=true) (ql18:K.lookup f18=some ⟨oc18,od18,.func (PySem.W.fnOf "shuts" "Reading.shuts" (zM xh) (zJ xh) (zm xh) .none kV18 dc18 pm18 an18 cd18 ct18),sl18⟩) (qc18:PySem.W.codeIn K cd18 "Reading.shuts"=true) (qk18:PySem.W.keepIn K (.ref f18)=true)
  (qa19:PySem.W.findIn K (.ref ca11) "innermost"=some (some (.ref f19))) (qi19:PySem.W.isFn K (.ref f19)=true) (ql19:K.lookup f19=some ⟨oc19,od19,.func (PySem.W.fnOf "innermost" "Reading.innermost" (zM yy) (zJ yy) (zm yy) .none kV19 dc19 pm19 an19 cd19 ct19),sl19⟩) (qc19:PySem.W.codeIn K cd19 "Reading.innermost"=true) (qk19:PySem.W.keepIn K (.ref f19)=true)
  (qa20:PySem.W.findIn K (.ref ca11) "begins"=some (some (.ref f20))) (qi20:PySem.W.isFn K (.ref f20)=true) (ql20:K.lookup f20=some ⟨oc20,od20,.func (PySem.W.fnOf "begins" "Reading.begins" (zM yX) (zJ yX) (zm yX) .none kV20 dc20 pm20 an20 cd20 ct20),sl20⟩) (qc20:PySem.W.codeIn K cd20 "Reading.begins"=true) (qk20:PySem.W.keepIn K (.ref f20)=true)
  (qa21:PySem.W.findIn K (.ref ca11) "reads"=some (some (.ref f21))) (qi21:PySem.W.isFn K (.ref f21)=true) (ql21:K.lookup f21=some ⟨oc21,od21,.func (PySem.W.fnOf "reads" "Reading.reads" (zM xi) (zJ xi) (zm xi) .none kV21 dc21 pm21 an21 cd21 ct21),sl21⟩) (qc21:PySem.W.codeIn K cd21 "Reading.reads"=true) (qk21:PySem.W.keepIn K (.ref f21)=true)
  (qa22:PySem.W.findIn K (.ref ca12) "__init__"=some (some (.ref f22))) (qi22:PySem.W.isFn K (.ref f22)=true) (ql22:K.lookup f22=some ⟨oc22,od22,.func (PySem.W.fnOf "__init__" "RowWords.__init__" (zM xj) (zJ xj) (zm xj) .none kV22 dc22 pm22 an22 cd22 ct22),sl22⟩) (qc22:PySem.W.codeIn K cd22 "RowWords.__init__"=true) (qk22:PySem.W.keepIn K (.ref f22)=true)
  (qa23:PySem.W.findIn K (.ref ca12) "draw_word"=some (some (.ref f23))) (qi23:PySem.W.isFn K (.ref f23)=true) (ql23:K.lookup f23=some ⟨oc23,od23,.func (PySem.W.fnOf "draw_word" "RowWords.draw_word" (zM yl) (zJ yl) (zm yl) .none kV23 dc23 pm23 an23 cd23 ct23),sl23⟩) (qc23:PySem.W.codeIn K cd23 "RowWords.draw_word"=true) (qk23:PySem.W.keepIn K (.ref f23)=true)
  (qa24:PySem.W.nsIn K mainGlobals "is_name"=some (some (.ref f24))) (ql24:K.lookup f24=some ⟨oc24,od24,.func (PySem.W.fnOf "is_name" "is_name" (zM vj) (zJ vj) (zm vj) .none kV24 dc24 pm24 an24 cd24 ct24),sl24⟩) (qc24:PySem.W.codeIn K cd24 "is_name"=true) (qk24:PySem.W.keepIn K (.ref f24)=true)
  (qa25:PySem.W.findIn K (.ref ca12) "draw_name"=some (some (.ref f25))) (qi25:PySem.W.isFn K (.ref f25)=true) (ql25:K.lookup f25=some ⟨oc25,od25,.func (PySem.W.fnOf "draw_name" "RowWords.draw_name" (zM ym) (zJ ym) (zm ym) .none kV25 dc25 pm25 an25 cd25 ct25),sl25⟩) (qc25:PySem.W.codeIn K cd25 "RowWords.draw_name"=true) (qk25:PySem.W.keepIn K (.ref f25)=true)
  (qa26:PySem.W.nsIn K mainGlobals "behind_term"=some (some (.ref f26))) (ql26:K.lookup f26=some ⟨oc26,od26,.func (PySem.W.fnOf "behind_term" "behind_term" (zM xF) (zJ xF) (zm xF) .none kV26 dc26 pm26 an26 cd26 ct26),sl26⟩) (qc26:PySem.W.codeIn K cd26 "behind_term"=true) (qk26:PySem.W.keepIn K (.ref f26)=true)
  (qa27:PySem.W.nsIn K mainGlobals "is_worth"=some (some (.ref f27))) (ql27:K.lookup f27=some ⟨oc27,od27,.func (PySem.W.fnOf "is_worth" "is_worth" (zM vk) (zJ vk) (zm vk) .none kV27 dc27 pm27 an27 cd27 ct27),sl27⟩) (qc27:PySem.W.codeIn K cd27 "is_worth"=true) (qk27:PySem.W.keepIn K (.ref f27)=true)
  (qa28:PySem.W.nsIn K mainGlobals "is_figures"=some (some (.ref f28))) (ql28:K.lookup f28=some ⟨oc28,od28,.func (PySem.W.fnOf "is_figures" "is_figures" (zM xy) (zJ xy) (zm xy) .none kV28 dc28 pm28 an28 cd28 ct28),sl28⟩) (qc28:PySem.W.codeIn K cd28 "is_figures"=true) (qk28:PySem.W.keepIn K (.ref f28)=true)
  (qa29:PySem.W.nsIn K mainGlobals "numeral"=some (some (.ref f29))) (ql29:K.lookup f29=some ⟨oc29,od29,.func (PySem.W.fnOf "numeral" "numeral" (zM jf) (zJ jf) (zm jf) .none kV29 dc29 pm29 an29 cd29 ct29),sl29⟩) (qc29:PySem.W.codeIn K cd29 "numeral"=true) (qk29:PySem.W.keepIn K (.ref f29)=true)
  (qa30:PySem.W.nsIn K mainGlobals "is_numeral"=some (some (.ref f30))) (ql30:K.lookup f30=some ⟨oc30,od30,.func (PySem.W.fnOf "is_numeral" "is_numeral" (zM wm) (zJ wm) (zm wm) .none kV30 dc30 pm30 an30 cd30 ct30),sl30⟩) (qc30:PySem.W.codeIn K cd30 "is_numeral"=true) (qk30:PySem.W.keepIn K (.ref f30)=true)
  (qa31:PySem.W.nsIn K mainGlobals "worth_in"=some (some (.ref f31))) (ql31:K.lookup f31=some ⟨oc31,od31,.func (PySem.W.fnOf "worth_in" "worth_in" (zM vm) (zJ vm) (zm vm) .none kV31 dc31 pm31 an31 cd31 ct31),sl31⟩) (qc31:PySem.W.codeIn K cd31 "worth_in"=true) (qk31:PySem.W.keepIn K (.ref f31)=true)
  (qa32:PySem.W.nsIn K mainGlobals "part_in"=some (some (.ref f32))) (ql32:K.lookup f32=some ⟨oc32,od32,.func (PySem.W.fnOf "part_in" "part_in" (zM jg) (zJ jg) (zm jg) .none kV32 dc32 pm32 an32 cd32 ct32),sl32⟩) (qc32:PySem.W.codeIn K cd32 "part_in"=true) (qk32:PySem.W.keepIn K (.ref f32)=true)
  (qa33:PySem.W.nsIn K mainGlobals "term_from"=some (some (.ref f33))) (ql33:K.lookup f33=some ⟨oc33,od33,.func (PySem.W.fnOf "term_from" "term_from" (zM wP) (zJ wP) (zm wP) .none kV33 dc33 pm33 an33 cd33 ct33),sl33⟩) (qc33:PySem.W.codeIn K cd33 "term_from"=true) (qk33:PySem.W.keepIn K (.ref f33)=true)
  (qa34:PySem.W.findIn K (.ref ca12) "draw_term"=some (some (.ref f34))) (qi34:PySem.W.isFn K (.ref f34)=true) (ql34:K.lookup f34=some ⟨oc34,od34,.func (PySem.W.fnOf "draw_term" "RowWords.draw_term" (zM yn) (zJ yn) (zm yn) .none kV34 dc34 pm34 an34 cd34 ct34),sl34⟩) (qc34:PySem.W.codeIn K cd34 "RowWords.draw_term"=true) (qk34:PySem.W.keepIn K (.ref f34)=true)
  (qa35:PySem.W.findIn K (.ref ca12) "draw_as"=some (some (.ref f35))) (qi35:PySem.W.isFn K (.ref f35)=true) (ql35:K.lookup f35=some ⟨oc35,od35,.func (PySem.W.fnOf "draw_as" "RowWords.draw_as" (zM yD) (zJ yD) (zm yD) .none kV35 dc35 pm35 an35 cd35 ct35),sl35⟩) (qc35:PySem.W.codeIn K cd35 "RowWords.draw_as"=true) (qk35:PySem.W.keepIn K (.ref f35)=true)
  (qa36:PySem.W.nsIn K mainGlobals "take_drawn"=some (some (.ref f36))) (ql36:K.lookup f36=some ⟨oc36,od36,.func (PySem.W.fnOf "take_drawn" "take_drawn" (zM wp) (zJ wp) (zm wp) .none kV36 dc36 pm36 an36 cd36 ct36),sl36⟩) (qc36:PySem.W.codeIn K cd36 "take_drawn"=true) (qk36:PySem.W.keepIn K (.ref f36)=true)
  (qa37:PySem.W.nsIn K mainGlobals "row_drawn"=some (some (.ref f37))) (ql37:K.lookup f37=some ⟨oc37,od37,.func (PySem.W.fnOf "row_drawn" "row_drawn" (zM wQ) (zJ wQ) (zm wQ) .none kV37 dc37 pm37 an37 cd37 ct37),sl37⟩) (qc37:PySem.W.codeIn K cd37 "row_drawn"=true) (qk37:PySem.W.keepIn K (.ref f37)=true)
  (qa38:PySem.W.findIn K (.ref ca12) "draw_end"=some (some (.ref f38))) (qi38:PySem.W.isFn K (.ref f38)=true) (ql38:K.lookup f38=some ⟨oc38,od38,.func (PySem.W.fnOf "draw_end" "RowWords.draw_end" (zM yz) (zJ yz) (zm yz) .none kV38 dc38 pm38 an38 cd38 ct38),sl38⟩) (qc38:PySem.W.codeIn K cd38 "RowWords.draw_end"=true) (qk38:PySem.W.keepIn K (.ref f38)=true)
  (qa39:PySem.W.nsIn K mainGlobals "row_in"=some (some (.ref f39))) (ql39:K.lookup f39=some ⟨oc39,od39,.func (PySem.W.fnOf "row_in" "row_in" (zM kh) (zJ kh) (zm kh) .none kV39 dc39 pm39 an39 cd39 ct39),sl39⟩) (qc39:PySem.W.codeIn K cd39 "row_in"=true) (qk39:PySem.W.keepIn K (.ref f39)=true)
  (qa40:PySem.W.nsIn K mainGlobals "read"=some (some (.ref f40))) (ql40:K.lookup f40=some ⟨oc40,od40,.func (PySem.W.fnOf "read" "read" (zM Yr) (zJ Yr) (zm Yr) .none kV40 dc40 pm40 an40 cd40 ct40),sl40⟩) (qc40:PySem.W.codeIn K cd40 "read"=true) (qk40:PySem.W.keepIn K (.ref f40)=true)
  (qa41:PySem.W.nsIn K mainGlobals "_law_refused"=some (some (.ref f41))) (ql41:K.lookup f41=some ⟨oc41,od41,.func (PySem.W.fnOf "_law_refused" "_law_refused" (zM xv) (zJ xv) (zm xv) .none kV41 dc41 pm41 an41 cd41 ct41),sl41⟩) (qc41:PySem.W.codeIn K cd41 "_law_refused"=true) (qk41:PySem.W.keepIn K (.ref f41)=true)
  (qa42:PySem.W.nsIn K mainGlobals "law"=some (some (.ref f42))) (ql42:K.lookup f42=some ⟨oc42,od42,.func (PySem.W.fnOf "law" "law" (zM WE) (zJ WE) (zm WE) .none kV42 dc42 pm42 an42 cd42 ct42),sl42⟩) (qc42:PySem.W.codeIn K cd42 "law"=true) (qk42:PySem.W.keepIn K (.ref f42)=true)
  (qz0:PySem.W.nsIn K mainGlobals "ValueError"=some none)
  (qz1:PySem.W.nsIn K mainGlobals "all"=some none)
  (qz2:PySem.W.nsIn K mainGlobals "bool"=some none)
  (qz3:PySem.W.nsIn K mainGlobals "enumerate"=some none)
  (qz4:PySem.W.nsIn K mainGlobals "int"=some none)
  (qz5:PySem.W.nsIn K mainGlobals "isinstance"=some none)
  (qz6:PySem.W.nsIn K mainGlobals "len"=some none)
  (qz7:PySem.W.nsIn K mainGlobals "list"=some none)
  (qz8:PySem.W.nsIn K mainGlobals "range"=some none)
  (qz9:PySem.W.nsIn K mainGlobals "reversed"=some none)
  (qz10:PySem.W.nsIn K mainGlobals "str"=some none)
  (qg0:PySem.W.nsIn K mainGlobals "FIGURES"=some (some (.str "0123456789" gt0)))
  (qg1:PySem.W.nsIn K mainGlobals "JOINING"=some (some (.ref ga1))) (qh1:K.lookup ga1=some ⟨.type "tuple",none,.seq #[.str "plus" gt1_0,.str "minus" gt1_1,.str "times" gt1_2,.str "over" gt1_3,.str "rest" gt1_4,.str "under" gt1_5,.str "same" gt1_6] gn1,#[]⟩)
  (qg2:PySem.W.nsIn K mainGlobals "LETTERS"=some (some (.str "abcdefghijklmnopqrstuvwxyz" gt2)))
  (qg3:PySem.W.nsIn K mainGlobals "MOST_BLOCKS"=some (some (.int 5 gt3)))
  (qg4:PySem.W.nsIn K mainGlobals "MOST_FIGURES"=some (some (.int 31 gt4)))
  (qg5:PySem.W.nsIn K mainGlobals "MOST_LETTERS"=some (some (.int 6 gt5)))
  (qg6:PySem.W.nsIn K mainGlobals "MOST_ROWS"=some (some (.int 40 gt6)))
  (qg7:PySem.W.nsIn K mainGlobals "MOST_WORDS_reader"=some (some (.int 60 gt7)))
  (qg8:PySem.W.nsIn K mainGlobals "MOST_WORDS_terms"=some (some (.int 60 gt8)))
  (qg9:PySem.W.nsIn K mainGlobals "ROW_WORDS"=some (some (.ref ga9))) (qh9:K.lookup ga9=some ⟨.type "tuple",none,.seq #[.str "take" gt9_0,.str "give" gt9_1,.str "let" gt9_2,.str "say" gt9_3,.str "off" gt9_4,.str "if" gt9_5,.str "else" gt9_6,.str "end" gt9_7,.str "as" gt9_8] gn9,#[]⟩)
  (qv0:PySem.W.nsIn K mainGlobals "Folded"=some (some (.ref ca0)))
  (qv1:PySem.W.nsIn K mainGlobals "ForerunError"=some (some (.ref ca1)))
  (qv2:PySem.W.nsIn K mainGlobals "Great"=some (some (.ref ca2)))
  (qv3:PySem.W.nsIn K mainGlobals "NoDealing"=some (some (.ref ca3)))
  (qv4:PySem.W.nsIn K mainGlobals "NoHand"=some (some (.ref ca4)))
  (qv5:PySem.W.nsIn K mainGlobals "NoLine"=some (some (.ref ca5)))
  (qv6:PySem.W.nsIn K mainGlobals "NoLog"=some (some (.ref ca6)))
  (qv7:PySem.W.nsIn K mainGlobals "NoNumber"=some (some (.ref ca7)))
  (qv8:PySem.W.nsIn K mainGlobals "NoOrder"=some (some (.ref ca8)))
  (qv9:PySem.W.nsIn K mainGlobals "NoTerm"=some (some (.ref ca9)))
  (qv10:PySem.W.nsIn K mainGlobals "Nought"=some (some (.ref ca10)))
  (qv11:PySem.W.nsIn K mainGlobals "Reading"=some (some (.ref ca11)))
  (qv12:PySem.W.nsIn K mainGlobals "RowWords"=some (some (.ref ca12)))
  (pg11:PySem.W.plainGet K ca11 Str.empty=true) (pd11:PySem.W.hasDictIn K ca11=true) (po11:PySem.W.plainOver K ca11=true) (pe11:PySem.W.findIn K (.ref ca11) "__setattr__"=some (some (.builtin "object.__setattr__"))) (pm11_:PySem.W.makesIn K ca11=true) (pk11:PySem.W.keepIn K (.ref ca11)=true)
  (pn11_0:PySem.W.findIn K (.ref ca11) "blocks"=some none)
  (pn11_1:PySem.W.findIn K (.ref ca11) "rows"=some none)
  (pn11_2:PySem.W.findIn K (.ref ca11) "turned"=some none)
  (pg12:PySem.W.plainGet K ca12 Str.empty=true) (pd12:PySem.W.hasDictIn K ca12=true) (po12:PySem.W.plainOver K ca12=true) (pe12:PySem.W.findIn K (.ref ca12) "__setattr__"=some (some (.builtin "object.__setattr__"))) (pm12_:PySem.W.makesIn K ca12=true) (pk12:PySem.W.keepIn K (.ref ca12)=true)
  (pn12_0:PySem.W.findIn K (.ref ca12) "at"=some none)
  (pn12_1:PySem.W.findIn K (.ref ca12) "number"=some none)
  (pn12_2:PySem.W.findIn K (.ref ca12) "words"=some none)
  (xx3:Xw K ca3 f16=true) (xk3:PySem.W.keepIn K (.ref ca3)=true)
  (xy3_0:PySem.W.findIn K (.ref ca3) "__getattribute__"=some (some (.builtin "BaseException.__getattribute__")))
  (xy3_1:PySem.W.findIn K (.ref ca3) "__getattr__"=some none)
  (xy3_2:PySem.W.findIn K (.ref ca3) "__class__"=some (some (.builtin "object.__class__")))
  (xy3_3:PySem.W.mroIn K ca3 (.type "object")=some true)
  (xy3_4:PySem.W.mroIn K ca3 (.type "BaseException")=some true)
  (xy3_5:PySem.W.specialIn K (.builtin "object.__class__") "__get__"=some (some (.builtin "getset_descriptor.__get__")))
  (xy3_6:PySem.W.takesIn K (.builtin "object.__class__")=some true)
  (xy3_7:PySem.W.findIn K (.ref ca3) "__setattr__"=some (some (.builtin "object.__setattr__")))
  (xo3:((PySem.W.clsIn K ca3).any fun cd=>Z6 cd.mro)=true) (xd3:PySem.W.hasDictIn K ca3=true) (xn3:PySem.W.findIn K (.ref ca3) "row"=some none)
  (xe3_0:PySem.W.exmOne K (.ref ca3) (.ref ca9)=some false)
  (xe3_1:PySem.W.exmOne K (.ref ca3) (.ref ca1)=some true)
  (xe3_2:PySem.W.exmOne K (.ref ca3) (.ref ca3)=some true)
  (xI3_0:PySem.W.kitOne K (.ref ca3) (.type "ValueError")=some true)
  (xJ3_0:PySem.W.kitAny K (.ref ca3) [(.ref ca9),(.ref ca7),(.ref ca10),(.ref ca2),(.ref ca0),(.ref ca4),(.ref ca8),(.ref ca5),(.ref ca6)]=some false)
  (rx0:PySem.W.excIn K ca9 YQ vP=true)
  (ry0_0:PySem.W.findIn K (.ref ca9) "__getattribute__"=some (some (.builtin "BaseException.__getattribute__")))
  (ry0_1:PySem.W.findIn K (.ref ca9) "__getattr__"=some none)
  (ry0_2:PySem.W.findIn K (.ref ca9) "__class__"=some (some (.builtin "object.__class__")))
  (ry0_3:PySem.W.mroIn K ca9 (.type "object")=some true)
  (ry0_4:PySem.W.mroIn K ca9 (.type "BaseException")=some true)
  (ry0_5:PySem.W.specialIn K (.builtin "object.__class__") "__get__"=some (some (.builtin "getset_descriptor.__get__")))
  (ry0_6:PySem.W.takesIn K (.builtin "object.__class__")=some true)
  (ry0_7:PySem.W.clsIn K ca9=some cl0)
  (re0_0:PySem.W.exmOne K (.ref ca9) (.ref ca9)=some true)
  (re0_1:PySem.W.exmOne K (.ref ca9) (.ref ca1)=some true)
  (re0_2:PySem.W.exmOne K (.ref ca9) (.ref ca3)=some false)
  (ri0_0:PySem.W.kitOne K (.ref ca9) (.type "ValueError")=some true)
  (rj0_0:PySem.W.kitAny K (.ref ca9) [(.ref ca9),(.ref ca7),(.ref ca10),(.ref ca2),(.ref ca0),(.ref ca4),(.ref ca8),(.ref ca5),(.ref ca6)]=some true)
  (rx1:PySem.W.excIn K ca7 YQ vP=true)
  (ry1_0:PySem.W.findIn K (.ref ca7) "__getattribute__"=some (some (.builtin "BaseException.__getattribute__")))
  (ry1_1:PySem.W.findIn K (.ref ca7) "__getattr__"=some none)
  (ry1_2:PySem.W.findIn K (.ref ca7) "__class__"=some (some (.builtin "object.__class__")))
  (ry1_3:PySem.W.mroIn K ca7 (.type "object")=some true)
  (ry1_4:PySem.W.mroIn K ca7 (.type "BaseException")=some true)
  (ry1_5:PySem.W.specialIn K (.builtin "object.__class__") "__get__"=some (some (.builtin "getset_descriptor.__get__")))
  (ry1_6:PySem.W.takesIn K (.builtin "object.__class__")=some true)
  (ry1_7:PySem.W.clsIn K ca7=some cl1)
  (re1_0:PySem.W.exmOne K (.ref ca7) (.ref ca9)=some false)
  (re1_1:PySem.W.exmOne K (.ref ca7) (.ref ca1)=some true)
  (re1_2:PySem.W.exmOne K (.ref ca7) (.ref ca3)=some false)
  (ri1_0:PySem.W.kitOne K (.ref ca7) (.type "ValueError")=some true)
  (rj1_0:PySem.W.kitAny K (.ref ca7) [(.ref ca9),(.ref ca7),(.ref ca10),(.ref ca2),(.ref ca0),(.ref ca4),(.ref ca8),(.ref ca5),(.ref ca6)]=some true):∃ t,Txt K mg t:=by
 have F0:=zY (st:=xr) ql0 qc0 qk0
 have F1:=zY (st:=wK) ql1 qc1 qk1
 have F2:=zY (st:=wL) ql2 qc2 qk2
 have F3:=zY (st:=wj) ql3 qc3 qk3
 have F4:=zY (st:=vf) ql4 qc4 qk4
 have F5:=zY (st:=wk) ql5 qc5 qk5
 have F6:=zY (st:=xt) ql6 qc6 qk6
 have F7:=zY (st:=yx) ql7 qc7 qk7
 have F8:=zY (st:=wM) ql8 qc8 qk8
 have F9:=zY (st:=vg) ql9 qc9 qk9
 have F10:=zY (st:=wN) ql10 qc10 qk10
 have F11:=zY (st:=yL) ql11 qc11 qk11
 have F12:=zY (st:=vi) ql12 qc12 qk12
 have F13:=zY (st:=wO) ql13 qc13 qk13
 have F14:=zY (st:=xE) ql14 qc14 qk14
 have F15:=zY (st:=xu) ql15 qc15 qk15
 have F16:=zY (st:=yW) ql16 qc16 qk16
 have F17:=zY (st:=xg) ql17 qc17 qk17
 have F18:=zY (st:=xh) ql18 qc18 qk18
 have F19:=zY (st:=yy) ql19 qc19 qk19
 have F20:=zY (st:=yX) ql20 qc20 qk20
 have F21:=zY (st:=xi) ql21 qc21 qk21
 have F22:=zY (st:=xj) ql22 qc22 qk22
 have F23:=zY (st:=yl) ql23 qc23 qk23
 have F24:=zY (st:=vj) ql24 qc24 qk24
 have F25:=zY (st:=ym) ql25 qc25 qk25
 have F26:=zY (st:=xF) ql26 qc26 qk26
 have F27:=zY (st:=vk) ql27 qc27 qk27
 have F28:=zY (st:=xy) ql28 qc28 qk28
 have F29:=zY (st:=jf) ql29 qc29 qk29
 have F30:=zY (st:=wm) ql30 qc30 qk30
 have F31:=zY (st:=vm) ql31 qc31 qk31
 have F32:=zY (st:=jg) ql32 qc32 qk32
 have F33:=zY (st:=wP) ql33 qc33 qk33
 have F34:=zY (st:=yn) ql34 qc34 qk34
 have F35:=zY (st:=yD) ql35 qc35 qk35
 have F36:=zY (st:=wp) ql36 qc36 qk36
 have F37:=zY (st:=wQ) ql37 qc37 qk37
 have F38:=zY (st:=yz) ql38 qc38 qk38
 have F39:=zY (st:=kh) ql39 qc39 qk39
 have F40:=zY (st:=Yr) ql40 qc40 qk40
 have F41:=zY (st:=xv) ql41 qc41 qk41
 have F42:=zY (st:=WE) ql42 qc42 qk42
 exact ⟨⟨f0,_,f1,_,f2,_,f3,_,f4,_,f5,_,f6,_,f7,_,f8,_,f9,_,f10,_,f11,_,f12,_,f13,_,f14,_,f15,_,f16,_,f17,_,f18,_,f19,_,f20,_,f21,_,f22,_,f23,_,f24,_,f25,_,f26,_,f27,_,f28,_,f29,_,f30,_,f31,_,f32,_,f33,_,f34,_,f35,_,f36,_,f37,_,f38,_,f39,_,f40,_,f41,_,f42,_,gt0,ga1,gt2,gt3,gt4,gt5,gt6,gt7,gt8,ga9,ca0,ca1,ca2,ca3,ca4,ca5,ca6,ca7,ca8,ca9,ca10,ca11,ca12⟩,⟨F0,F0.binds (ps:=["word"]) (fun _ _ _ _ _ _ us hl=>match us,hl with | [_],_=>rfl),PySem.W.mg_of X G qa0,
  F1,F1.binds (ps:=["number"]) (fun _ _ _ _ _ _ us hl=>match us,hl with | [_],_=>rfl),PySem.W.mg_of X G qa1,
  F2,F2.binds (ps:=["number"]) (fun _ _ _ _ _ _ us hl=>match us,hl with | [_],_=>rfl),PySem.W.mg_of X G qa2,
  F3,F3.binds (ps:=["cell","k"]) (fun _ _ _ _ _ _ us hl=>match us,hl with | [_,_],_=>rfl),PySem.W.mg_of X G qa3,
  F4,F4.binds (ps:=["cell"]) (fun _ _ _ _ _ _ us hl=>match us,hl with | [_],_=>rfl),PySem.W.mg_of X G qa4,
  F5,F5.binds (ps:=["cells"]) (fun _ _ _ _ _ _ us hl=>match us,hl with | [_],_=>rfl),PySem.W.mg_of X G qa5,
  F6,F6.binds (ps:=["script","k"]) (fun _ _ _ _ _ _ us hl=>match us,hl with | [_,_],_=>rfl),PySem.W.mg_of X G qa6,
  F7,F7.binds (ps:=["line","number"]) (fun _ _ _ _ _ _ us hl=>match us,hl with | [_,_],_=>rfl),PySem.W.mg_of X G qa7,
  F8,F8.binds (ps:=["many"]) (fun _ _ _ _ _ _ us hl=>match us,hl with | [_],_=>rfl),PySem.W.mg_of X G qa8,
  F9,F9.binds (ps:=["number"]) (fun _ _ _ _ _ _ us hl=>match us,hl with | [_],_=>rfl),PySem.W.mg_of X G qa9,
  F10,F10.binds (ps:=["script"]) (fun _ _ _ _ _ _ us hl=>match us,hl with | [_],_=>rfl),PySem.W.mg_of X G qa10,
  F11,F11.binds (ps:=["word"]) (fun _ _ _ _ _ _ us hl=>match us,hl with | [_],_=>rfl),PySem.W.mg_of X G qa11,
  F12,F12.binds (ps:=["words","at"]) (fun _ _ _ _ _ _ us hl=>match us,hl with | [_,_],_=>rfl),PySem.W.mg_of X G qa12,
  F13,F13.binds (ps:=["words"]) (fun _ _ _ _ _ _ us hl=>match us,hl with | [_],_=>rfl),PySem.W.mg_of X G qa13,
  F14,F14.binds (ps:=["lines"]) (fun _ _ _ _ _ _ us hl=>match us,hl with | [_],_=>rfl),PySem.W.mg_of X G qa14,
  F15,F15.binds (ps:=["self"]) (fun _ _ _ _ _ _ us hl=>match us,hl with | [_],_=>rfl),
  F16,F16.binds (ps:=["self","row"]) (fun _ _ _ _ _ _ us hl=>match us,hl with | [_,_],_=>rfl),
  F17,F17.binds (ps:=["self","number"]) (fun _ _ _ _ _ _ us hl=>match us,hl with | [_,_],_=>rfl),⟨qa17,qi17,qk17⟩,
  F18,F18.binds (ps:=["self","number"]) (fun _ _ _ _ _ _ us hl=>match us,hl with | [_,_],_=>rfl),⟨qa18,qi18,qk18⟩,
  F19,F19.binds (ps:=["self"]) (fun _ _ _ _ _ _ us hl=>match us,hl with | [_],_=>rfl),⟨qa19,qi19,qk19⟩,
  F20,F20.binds (ps:=["self","row","number"]) (fun _ _ _ _ _ _ us hl=>match us,hl with | [_,_,_],_=>rfl),⟨qa20,qi20,qk20⟩,
  F21,F21.binds (ps:=["self","row","number"]) (fun _ _ _ _ _ _ us hl=>match us,hl with | [_,_,_],_=>rfl),⟨qa21,qi21,qk21⟩,
  F22,F22.binds (ps:=["self","words","number"]) (fun _ _ _ _ _ _ us hl=>match us,hl with | [_,_,_],_=>rfl),
  F23,F23.binds (ps:=["self"]) (fun _ _ _ _ _ _ us hl=>match us,hl with | [_],_=>rfl),⟨qa23,qi23,qk23⟩,
  F24,F24.binds (ps:=["text"]) (fun _ _ _ _ _ _ us hl=>match us,hl with | [_],_=>rfl),PySem.W.mg_of X G qa24,
  F25,F25.binds (ps:=["self"]) (fun _ _ _ _ _ _ us hl=>match us,hl with | [_],_=>rfl),⟨qa25,qi25,qk25⟩,
  F26,F26.binds (ps:=["words","at"]) (fun _ _ _ _ _ _ us hl=>match us,hl with | [_,_],_=>rfl),PySem.W.mg_of X G qa26,
  F27,F27.binds (ps:=["thing"]) (fun _ _ _ _ _ _ us hl=>match us,hl with | [_],_=>rfl),PySem.W.mg_of X G qa27,
  F28,F28.binds (ps:=["text"]) (fun _ _ _ _ _ _ us hl=>match us,hl with | [_],_=>rfl),PySem.W.mg_of X G qa28,
  F29,F29.binds (ps:=["worth"]) (fun _ _ _ _ _ _ us hl=>match us,hl with | [_],_=>rfl),PySem.W.mg_of X G qa29,
  F30,F30.binds (ps:=["text"]) (fun _ _ _ _ _ _ us hl=>match us,hl with | [_],_=>rfl),PySem.W.mg_of X G qa30,
  F31,F31.binds (ps:=["text"]) (fun _ _ _ _ _ _ us hl=>match us,hl with | [_],_=>rfl),PySem.W.mg_of X G qa31,
  F32,F32.binds (ps:=["word"]) (fun _ _ _ _ _ _ us hl=>match us,hl with | [_],_=>rfl),PySem.W.mg_of X G qa32,
  F33,F33.binds (ps:=["words","at"]) (fun _ _ _ _ _ _ us hl=>match us,hl with | [_,_],_=>rfl),PySem.W.mg_of X G qa33,
  F34,F34.binds (ps:=["self"]) (fun _ _ _ _ _ _ us hl=>match us,hl with | [_],_=>rfl),⟨qa34,qi34,qk34⟩,
  F35,F35.binds (ps:=["self"]) (fun _ _ _ _ _ _ us hl=>match us,hl with | [_],_=>rfl),⟨qa35,qi35,qk35⟩,
  F36,F36.binds (ps:=["words"]) (fun _ _ _ _ _ _ us hl=>match us,hl with | [_],_=>rfl),PySem.W.mg_of X G qa36,
  F37,F37.binds (ps:=["words"]) (fun _ _ _ _ _ _ us hl=>match us,hl with | [_],_=>rfl),PySem.W.mg_of X G qa37,
  F38,F38.binds (ps:=["self"]) (fun _ _ _ _ _ _ us hl=>match us,hl with | [_],_=>rfl),⟨qa38,qi38,qk38⟩,
  F39,F39.binds (ps:=["text","number"]) (fun _ _ _ _ _ _ us hl=>match us,hl with | [_,_],_=>rfl),PySem.W.mg_of X G qa39,
  F40,F40.binds (ps:=["text"]) (fun _ _ _ _ _ _ us hl=>match us,hl with | [_],_=>rfl),PySem.W.mg_of X G qa40,
  F41,F41.binds (ps:=["line","bad"]) (fun _ _ _ _ _ _ us hl=>match us,hl with | [_,_],_=>rfl),PySem.W.mg_of X G qa41,
  F42,F42.binds (ps:=["script"]) (fun _ _ _ _ _ _ us hl=>match us,hl with | [_],_=>rfl),PySem.W.mg_of X G qa42,
  fun s v=>.of_eq rfl,
  PySem.W.mg_none_of X G qz0,
  PySem.W.mg_none_of X G qz1,
  PySem.W.mg_none_of X G qz2,
  PySem.W.mg_none_of X G qz3,
  PySem.W.mg_none_of X G qz4,
  PySem.W.mg_none_of X G qz5,
  PySem.W.mg_none_of X G qz6,
  PySem.W.mg_none_of X G qz7,
  PySem.W.mg_none_of X G qz8,
  PySem.W.mg_none_of X G qz9,
  PySem.W.mg_none_of X G qz10,
  PySem.W.mg_of X G qg0,
  PySem.W.mg_of X G qg1,fun _=>.inr ⟨_,_,_,qh1,rfl,rfl,(by show 7≤sizeLine;decide),(.cons ⟨_,rfl⟩ (.cons ⟨_,rfl⟩ (.cons ⟨_,rfl⟩ (.cons ⟨_,rfl⟩ (.cons ⟨_,rfl⟩ (.cons ⟨_,rfl⟩ (.cons ⟨_,rfl⟩ .nil)))))))⟩,
  PySem.W.mg_of X G qg2,
  PySem.W.mg_of X G qg3,
  PySem.W.mg_of X G qg4,
  PySem.W.mg_of X G qg5,
  PySem.W.mg_of X G qg6,
  PySem.W.mg_of X G qg7,
  PySem.W.mg_of X G qg8,
  PySem.W.mg_of X G qg9,fun _=>.inr ⟨_,_,_,qh9,rfl,rfl,(by show 9≤sizeLine;decide),(.cons ⟨_,rfl⟩ (.cons ⟨_,rfl⟩ (.cons ⟨_,rfl⟩ (.cons ⟨_,rfl⟩ (.cons ⟨_,rfl⟩ (.cons ⟨_,rfl⟩ (.cons ⟨_,rfl⟩ (.cons ⟨_,rfl⟩ (.cons ⟨_,rfl⟩ .nil)))))))))⟩,
  PySem.W.mg_of X G qv0,
  PySem.W.mg_of X G qv1,
  PySem.W.mg_of X G qv2,
  PySem.W.mg_of X G qv3,
  PySem.W.mg_of X G qv4,
  PySem.W.mg_of X G qv5,
  PySem.W.mg_of X G qv6,
  PySem.W.mg_of X G qv7,
  PySem.W.mg_of X G qv8,
  PySem.W.mg_of X G qv9,
  PySem.W.mg_of X G qv10,
  PySem.W.mg_of X G qv11,
  PySem.W.mg_of X G qv12,
  ⟨pg11,pd11,po11,pe11⟩,
  ⟨pm11_,qa15,qi15,pk11⟩,
  pn11_0,
  pn11_1,
  pn11_2,
  ⟨pg12,pd12,po12,pe12⟩,
  ⟨pm12_,qa22,qi22,pk12⟩,
  pn12_0,
  pn12_1,
  pn12_2,
  xx3,
  xk3,
  qi16,
  ⟨⟨xy3_0,xy3_1,xy3_2,xy3_3,xy3_4,xy3_5,xy3_6⟩,xy3_7,xo3,xd3⟩,
  xn3,
  xe3_0,
  xe3_1,
  xe3_2,
  xI3_0,
  xJ3_0,
  rx0,
  ⟨⟨ry0_0,ry0_1,ry0_2,ry0_3,ry0_4,ry0_5,ry0_6⟩,by rw [ry0_7];rfl⟩,
  re0_0,
  re0_1,
  re0_2,
  ri0_0,
  rj0_0,
  rx1,
  ⟨⟨ry1_0,ry1_1,ry1_2,ry1_3,ry1_4,ry1_5,ry1_6⟩,by rw [ry1_7];rfl⟩,
  re1_0,
  re1_1,
  re1_2,
  ri1_0,
  rj1_0⟩⟩
def zbu (K:PySem.W.Frag):Prop:=PySem.W.kitOne K (.type "int") (.type "bool")=some false
def zaE (K:PySem.W.Frag) (H:Hp) (x:V):Prop:=∃ T b,Zn K H x (.type T)∧PySem.W.kitOne K (.type T) (.type "int")=some b∧(b=true→PySem.W.kitOne K (.type T) (.type "bool")=some true)
structure KF (K:PySem.W.Frag):Prop where
 i_b:PySem.W.kitOne K (.type "int") (.type "bool")=some false
 s_b:PySem.W.kitOne K (.type "str") (.type "bool")=some false
 s_i:PySem.W.kitOne K (.type "str") (.type "int")=some false
 i_s:PySem.W.kitOne K (.type "int") (.type "str")=some false
 t_l:PySem.W.kitOne K (.type "tuple") (.type "list")=some false
 l_t:PySem.W.kitOne K (.type "list") (.type "tuple")=some false
 i_l:PySem.W.kitOne K (.type "int") (.type "list")=some false
 i_t:PySem.W.kitOne K (.type "int") (.type "tuple")=some false
 s_l:PySem.W.kitOne K (.type "str") (.type "list")=some false
 s_t:PySem.W.kitOne K (.type "str") (.type "tuple")=some false
def vb (ws:List Str):Prop:=∀ w∈ws,w.length≤20000∧Asc w
def zcQ (C:Addr) (o:Option Nat) (k:Nat) (Q:VK) (E:XK) (H:Hp):Prop:=match o with
 | some n=>if n≤60 then Q (.int ((k + n:Nat):Int)) H else E (.ref C) none H
 | none=>E (.ref C) none H
def qp (K:PySem.W.Frag):Sp:=fun vs H Q _=>∃ x,vs=[x]∧((∃ i,x=.int i∧∀ H',Same H H'→Q (.bl (inW i)) H')∨(zaE K H x∧∀ H',Same H H'→Q (.bl false) H'))
def Zw:Sp:=fun vs H Q _=>∃ w,vs=[.int w]∧inW w=true∧∀ H',Same H H'→Q (.str (v7 w)) H'
def jX:Sp:=fun vs H Q _=>∃ x:Str,vs=[.str x]∧x.length≤20000∧∀ H',Same H H'→Q (.bl (jN x)) H'
def wz:Sp:=fun vs H Q _=>∃ x:Str,vs=[.str x]∧x.length≤20000∧∀ H',Same H H'→Q (.bl (xb x)) H'
def qq (t:Adr):Sp:=fun vs H Q E=>∃ x:Str,vs=[.str x]∧x.length≤20000∧Asc x∧∀ H',Same H H'→if xb x=true then Q (.int (wV x)) H' else E (.ref t.c_NoNumber) none H'
def ju:Sp:=fun vs H Q _=>∃ x:Str,vs=[.str x]∧x.length≤20000∧∀ H',Same H H'→Q (.bl (zZ x)) H'
def Zx (t:Adr):Sp:=fun vs H Q E=>∃ x:Str,vs=[.str x]∧x.length≤20000∧Asc x∧∀ H',Same H H'→(match wW x with | some v=>Q v H' | none=>E (.ref t.c_NoTerm) none H')
def jv (t:Adr):Sp:=fun vs H Q E=>∃ (a:Addr) (ws:List Str) (k:Nat),vs=[.ref a,.int k]∧H a=some (.lst (ws.map V.str))∧ws.length≤1000∧∀ H',Same H H'→zcQ t.c_NoTerm (yA (ws.drop k) 1) k Q E H'
def kF (t:Adr):Sp:=fun vs H Q E=>∃ (a:Addr) (ws:List Str) (k:Nat),vs=[.ref a,.int k]∧H a=some (.lst (ws.map V.str))∧ws.length≤1000∧vb ws ∧
 ((∃ ps e,yk ws k=some (ps,e)∧∀ H' p r,Same H H'→H' p=some (.tup [.ref r,.int (e:Nat)])→H' r=some (.tup ps)→Q (.ref p) H')∨(yk ws k=none∧∀ H',Same H H'→E (.ref t.c_NoTerm) none H'))
structure WrF (K:PySem.W.Frag) (t:Adr):Prop where
 cl:Cls K t.c_RowWords
 n1:NoAttr K t.c_RowWords "words"
 n2:NoAttr K t.c_RowWords "number"
 n3:NoAttr K t.c_RowWords "at"
structure WrAt (t:Adr) (H:Hp) (x dx wa:Addr) (ws:List Str) (n:Int) (k:Nat):Prop where
 ix:H x=some (.ins t.c_RowWords dx [("words",.ref wa),("number",.int n),("at",.int k)])
 hw:H wa=some (.lst (ws.map V.str))
def SameX (x:Addr) (H H':Hp):Prop:=∀ b o,b≠x→H b=some o→H' b=some o
def vn (t:Adr):Sp:=fun vs H Q _=>∃ x wa n dx ws,vs=[.ref x,.ref wa,.int n]∧H x=some (.ins t.c_RowWords dx [])∧H wa=some (.lst (List.map V.str ws))∧∀ H',SameX x H H'→WrAt t H' x dx wa ws n 0→Q .non H'
def ndX (t:Adr) (E:XK) (x:Addr) (H:Hp) (k:Int):Prop:=∀ d H',SameX x H H'→H' d=some (.xd [("row",.int k)])→E (.ref t.c_NoDealing) (some d) H'
def z6 (t:Adr):Sp:=fun vs H Q E=>∃ x dx wa ws n k,vs=[.ref x]∧WrAt t H x dx wa ws n k∧k≤ws.length∧((∃ w,ws[k]?=some w∧∀ H',SameX x H H'→WrAt t H' x dx wa ws n (k + 1)→Q (.str w) H')∨(ws[k]?=none∧ndX t E x H n))
def wu (t:Adr):Sp:=fun vs H Q E=>∃ x dx wa ws n k,vs=[.ref x]∧WrAt t H x dx wa ws n k∧k≤ws.length∧((ws[k]?=some ("as":Str)∧∀ H',SameX x H H'→WrAt t H' x dx wa ws n (k + 1)→Q .non H')∨(ws[k]?≠some ("as":Str)∧ndX t E x H n))
def z7 (t:Adr):Sp:=fun vs H Q E=>∃ x dx wa ws n k,vs=[.ref x]∧WrAt t H x dx wa ws n k∧k≤ws.length∧vb ws∧((∃ w,ws[k]?=some w∧zZ w=true∧∀ H',SameX x H H'→WrAt t H' x dx wa ws n (k + 1)→Q (.str w) H')∨((∀ w,ws[k]?=some w→zZ w=false)∧ndX t E x H n))
def zT (t:Adr):Sp:=fun vs H Q E=>∃ x dx wa ws n k,vs=[.ref x]∧WrAt t H x dx wa ws n k∧ws.length≤1000∧vb ws∧((∃ ps e,yk ws k=some (ps,e)∧∀ H' r,SameX x H H'→WrAt t H' x dx wa ws n e→H' r=some (.tup ps)→r≠x→Q (.ref r) H')∨(yk ws k=none∧ndX t E x H n))
def xR (t:Adr):Sp:=fun vs H Q E=>∃ x dx wa ws n k,vs=[.ref x]∧WrAt t H x dx wa ws n k∧k≤ws.length∧((k=ws.length∧∀ H',Same H H'→Q .non H')∨(k < ws.length∧ndX t E x H n))
inductive Hd where
 | take (sh:Str) (T:Tw) (sl:Str)
 | give (sh:Str) (T U:Tw)
 | lt (sl:Str) (T:Tw)
 | say (T:Tw)
 | off (T:Tw)
 | iff (T:Tw)
 | els
 | nd
def Hd.words:Hd→List Str
 | .take sh T sl=>([("take":Str),sh] ++ pre T) ++ [("as":Str),sl]
 | .give sh T U=>([("give":Str),sh] ++ pre T) ++ pre U
 | .lt sl T=>[("let":Str),sl] ++ pre T
 | .say T=>[("say":Str)] ++ pre T
 | .off T=>[("off":Str)] ++ pre T
 | .iff T=>[("if":Str)] ++ pre T
 | .els=>[("else":Str)]
 | .nd=>[("end":Str)]
structure TmOk (T:Tw):Prop where
 wf:wfT T
 ok:okT T=true
 ws:vb (pre T)
def Hd.ok:Hd→Prop
 | .take sh T sl=>zZ sh=true∧TmOk T∧zZ sl=true
 | .give sh T U=>zZ sh=true∧TmOk T∧TmOk U
 | .lt sl T=>zZ sl=true∧TmOk T
 | .say T=>TmOk T
 | .off T=>TmOk T
 | .iff T=>TmOk T
 | .els=>True
 | .nd=>True
def HdAt (F:Addr→Prop) (H:Hp) (v:V):Hd→Prop
 | .take sh T sl=>∃ r te,v=.ref r∧H r=some (.tup [.str "take",.str sh,.ref te,.str sl])∧H te=some (.tup (pst T))
 | .give sh T U=>∃ r te tf,v=.ref r∧H r=some (.tup [.str "give",.str sh,.ref te,.ref tf])∧H te=some (.tup (pst T))∧H tf=some (.tup (pst U))
 | .lt sl T=>∃ r te,v=.ref r∧H r=some (.tup [.str "let",.str sl,.ref te])∧H te=some (.tup (pst T))
 | .say T=>∃ r te,v=.ref r∧H r=some (.tup [.str "say",.ref te])∧H te=some (.tup (pst T))
 | .off T=>∃ r te,v=.ref r∧H r=some (.tup [.str "off",.ref te])∧H te=some (.tup (pst T))
 | .iff T=>∃ r te la lb,v=.ref r∧H r=some (.tup [.str "if",.ref te,.ref la,.ref lb])∧H te=some (.tup (pst T))∧H la=some (.lst [])∧H lb=some (.lst [])∧F la∧F lb∧la≠lb
 | .els=>∃ r,v=.ref r∧H r=some (.tup [.str "else"])
 | .nd=>∃ r,v=.ref r∧H r=some (.tup [.str "end"])
def jY (t:Adr):Sp:=fun vs H Q E=>∃ x dx wa ws n,vs=[.ref x]∧WrAt t H x dx wa ws n 1∧1≤ws.length∧vb ws∧ws.length≤60∧((∃ sh T sl rest,ws=Hd.words (.take sh T sl) ++ rest∧Hd.ok (.take sh T sl)∧∀ H' v,SameX x H H'→WrAt t H' x dx wa ws n (Hd.words (.take sh T sl)).length→HdAt (fun b=>H b=none) H' v (.take sh T sl)→Q v H') ∨
 ((ws[0]?=some ("take":Str)∧∀ sh T sl rest,ws=Hd.words (.take sh T sl) ++ rest→¬ Hd.ok (.take sh T sl))∧ndX t E x H n))
def kG (t:Adr):Sp:=fun vs H Q E=>∃ x dx wa ws n,vs=[.ref x]∧WrAt t H x dx wa ws n 0∧vb ws∧ws.length≤60∧((∃ hd rest,ws=Hd.words hd ++ rest∧hd.ok∧∀ H' v,SameX x H H'→WrAt t H' x dx wa ws n hd.words.length→HdAt (fun b=>H b=none) H' v hd→Q v H') ∨
 ((∀ hd rest,ws=Hd.words hd ++ rest→¬ hd.ok)∧ndX t E x H n))
def wY:Str:=⟨#[32]⟩
def Vf:Str:=⟨#[10]⟩
def Hd.line (h:Hd):Str:=Str.join wY h.words
structure q8 (hd:Hd):Prop where
 ok:hd.ok
 ws:vb hd.words
 ln:hd.words.length≤60
 bl:∀ w∈hd.words,32 ∉ w.cps.toList∧10 ∉ w.cps.toList
def ndE (t:Adr) (E:XK) (H:Hp) (k:Int):Prop:=∀ d H',Same H H'→H' d=some (.xd [("row",.int k)])→E (.ref t.c_NoDealing) (some d) H'
abbrev jS (t:Adr):Sp:=Zv t.c_NoDealing "row"
def KH (x:Str):Prop:=∀ hd:Hd,x=hd.line→¬ q8 hd
def Yw (t:Adr):Sp:=fun vs H Q E=>∃ (x:Str) (n:Nat),vs=[.str x,.int n]∧x.length≤20000∧Asc x∧10 ∉ x.cps.toList∧((n < 40∧∃ hd:Hd,x=hd.line∧q8 hd∧∀ H' v,Same H H'→HdAt (fun b=>H b=none) H' v hd→Q v H')∨((40≤n∨KH x)∧ndE t E H n))
structure RdF (K:PySem.W.Frag) (t:Adr):Prop where
 cl:Cls K t.c_Reading
 n1:NoAttr K t.c_Reading "rows"
 n2:NoAttr K t.c_Reading "blocks"
 n3:NoAttr K t.c_Reading "turned"
structure RdAt (t:Adr) (H:Hp) (x dx rl bl tl:Addr) (blocks:List V) (turned:List Bool):Prop where
 ix:H x=some (.ins t.c_Reading dx [("rows",.ref rl),("blocks",.ref bl),("turned",.ref tl)])
 hb:H bl=some (.lst blocks)
 ht:H tl=some (.lst (turned.map V.bl))
 n1:rl≠bl
 n2:rl≠tl
 n3:bl≠tl
 le:blocks.length=turned.length
 l5:blocks.length≤5
def Inn (H:Hp) (rl:Addr) (blocks:List V) (turned:List Bool) (inn:Addr):Prop:=(blocks=[]∧inn=rl)∨∃ bs r hd te la lb cs c,blocks=bs ++ [.ref r]∧turned=cs ++ [c]∧H r=some (.tup [hd,te,.ref la,.ref lb])∧inn=if c=true then lb else la
def vQ (t:Adr):Sp:=fun vs H Q _=>∃ x dx,vs=[.ref x]∧H x=some (.ins t.c_Reading dx [])∧∀ H' rl bl tl,SameX x H H'→RdAt t H' x dx rl bl tl [] []→H' rl=some (.lst [])→H rl=none→H bl=none→H tl=none→Q .non H'
def yI (t:Adr):Sp:=fun vs H Q _=>∃ x dx rl bl tl blocks turned inn,vs=[.ref x]∧RdAt t H x dx rl bl tl blocks turned∧Inn H rl blocks turned inn∧∀ H',Same H H'→Q (.ref inn) H'
def zcn (t:Adr) (H:Hp) (inn bl tl:Addr) (zs blocks:List V) (turned:List Bool) (v:V) (n:Int) (Q:VK) (E:XK):Prop:=(blocks.length < 5→∀ H1,Same H H1→Q .non (upd (upd (upd H1 inn (.lst (zs ++ [v]))) bl (.lst (blocks ++ [v]))) tl (.lst ((turned ++ [false]).map V.bl))))∧(blocks.length=5→ndE t E H n)
def zco (t:Adr) (H:Hp) (tl:Addr) (blocks:List V) (turned:List Bool) (n:Int) (Q:VK) (E:XK):Prop:=(∃ bs b cs,blocks=bs ++ [b]∧turned=cs ++ [false]∧∀ H1,Same H H1→Q .non (upd H1 tl (.lst ((cs ++ [true]).map V.bl))))∨((blocks=[]∨∃ bs b cs,blocks=bs ++ [b]∧turned=cs ++ [true])∧ndE t E H n)
def zcp (t:Adr) (H:Hp) (bl tl:Addr) (blocks:List V) (turned:List Bool) (n:Int) (Q:VK) (E:XK):Prop:=(∃ bs b cs c,blocks=bs ++ [b]∧turned=cs ++ [c]∧∀ H1,Same H H1→Q .non (upd (upd H1 bl (.lst bs)) tl (.lst (cs.map V.bl))))∨(blocks=[]∧ndE t E H n)
def wZ (t:Adr):Sp:=fun vs H Q E=>∃ x v n dx rl bl tl blocks turned inn zs,vs=[.ref x,v,.int n]∧RdAt t H x dx rl bl tl blocks turned∧Inn H rl blocks turned inn∧H inn=some (.lst zs)∧zs.length≤1000∧inn≠bl∧inn≠tl∧zcn t H inn bl tl zs blocks turned v n Q E
def vo (t:Adr):Sp:=fun vs H Q E=>∃ x n dx rl bl tl blocks turned,vs=[.ref x,.int n]∧RdAt t H x dx rl bl tl blocks turned∧zco t H tl blocks turned n Q E
def vp (t:Adr):Sp:=fun vs H Q E=>∃ x n dx rl bl tl blocks turned,vs=[.ref x,.int n]∧RdAt t H x dx rl bl tl blocks turned∧zcp t H bl tl blocks turned n Q E
def Hd.plain:Hd→Prop
 | .iff _=>False
 | .els=>False
 | .nd=>False
 | _=>True
def zcR (t:Adr) (H:Hp) (rl bl tl:Addr) (blocks:List V) (turned:List Bool) (v:V) (n:Int) (hd:Hd) (Q:VK) (E:XK):Prop :=
 (hd=.els∧zco t H tl blocks turned n Q E)∨(hd=.nd∧zcp t H bl tl blocks turned n Q E) ∨
  ((∃ T,hd=.iff T)∧∃ inn zs,Inn H rl blocks turned inn∧H inn=some (.lst zs)∧zs.length≤1000∧inn≠bl∧inn≠tl∧zcn t H inn bl tl zs blocks turned v n Q E) ∨
  (hd.plain∧∃ inn zs,Inn H rl blocks turned inn∧H inn=some (.lst zs)∧zs.length≤1000∧∀ H1,Same H H1→Q .non (upd H1 inn (.lst (zs ++ [v]))))
def vq (t:Adr):Sp:=fun vs H Q E=>∃ x v n dx rl bl tl blocks turned hd F,vs=[.ref x,v,.int n]∧RdAt t H x dx rl bl tl blocks turned∧HdAt F H v hd∧zcR t H rl bl tl blocks turned v n hd Q E
mutual
inductive Tr where
 | row (h:Hd)
 | iff (T:Tw) (a b:Trs)
inductive Trs where
 | nil
 | cons (x:Tr) (r:Trs)
end
mutual
def TrAt (F:Addr→Prop) (H:Hp) (v:V):Tr→Prop
 | .row h=>HdAt W9 H v h
 | .iff T a b=>∃ r te la lb xs ys,v=.ref r∧F la∧F lb∧H r=some (.tup [.str "if",.ref te,.ref la,.ref lb])∧H te=some (.tup (pst T))∧H la=some (.lst xs)∧TrsAt F H xs a∧H lb=some (.lst ys)∧TrsAt F H ys b
def TrsAt (F:Addr→Prop) (H:Hp) (vs:List V):Trs→Prop
 | .nil=>vs=[]
 | .cons x r=>∃ v ws,vs=v :: ws∧TrAt F H v x∧TrsAt F H ws r
end
mutual
def Tr.deep:Tr→Nat
 | .row _=>0
 | .iff _ a b=>max a.deep b.deep + 1
def Trs.deep:Trs→Nat
 | .nil=>0
 | .cons x r=>max x.deep r.deep
end
def Trs.len:Trs→Nat
 | .nil=>0
 | .cons _ r=>r.len + 1
mutual
def Tr.ok:Tr→Prop
 | .row h=>q8 h∧h.plain
 | .iff T a b=>q8 (.iff T)∧a.ok∧b.ok
def Trs.ok:Trs→Prop
 | .nil=>True
 | .cons x r=>x.ok∧r.ok
end
def Trs.snoc:Trs→Tr→Trs
 | .nil,x=>.cons x .nil
 | .cons y r,x=>.cons y (r.snoc x)
structure Fm where
 T:Tw
 c:Bool
 a:Trs
 up:Trs
def stp:Trs→List Fm→Hd→Option (Trs × List Fm)
 | D,fs,.iff T=>if fs.length < 5 then some (.nil,⟨T,false,.nil,D⟩ :: fs) else none
 | D,fs,.els=>match fs with | f :: r=>if f.c=false then some (.nil,⟨f.T,true,D,f.up⟩ :: r) else none | []=>none
 | D,fs,.nd=>match fs with | f :: r=>some (f.up.snoc (.iff f.T (if f.c=true then f.a else D) (if f.c=true then D else .nil)),r) | []=>none
 | D,fs,h=>some (D.snoc (.row h),fs)
open Classical in
noncomputable def hdS (x:Str):Option Hd:=if h:∃ hd:Hd,x=hd.line∧q8 hd then some h.choose else none
noncomputable def rdE:Trs→List Fm→Nat→List Str→Except Nat Trs
 | D,fs,k,[]=>if fs.length=0 then .ok D else .error k
 | D,fs,k,x :: r=>if 40≤k then .error k else match hdS x with | some h=>(match stp D fs h with | some z=>rdE z.1 z.2 (k + 1) r | none=>.error k) | none=>.error k
def yw (x:Str):List Str:=if x="" then [] else Txt.split x Vf
def qV (t:Adr):Sp:=fun vs H Q E=>∃ (x:Str),vs=[.str x]∧Asc x∧x.length≤20000∧(∀ D,rdE .nil [] 0 (yw x)=.ok D→∀ H' l xs,Same H H'→H' l=some (.lst xs)→TrsAt W9 H' xs D→Q (.ref l) H')∧∀ k,rdE .nil [] 0 (yw x)=.error k→ndE t E H k
def yM (K:PySem.W.Frag):Sp:=fun vs H Q _=>∃ (a:Addr) (ns:List Int) (k:Nat),vs=[.ref a,.int k]∧SqL K H a (ns.map V.int)∧ns.length≤63∧∀ c H',Same H H'→Q (.int c) H'
def yr:Sp:=fun vs H Q _=>∃ c k,vs=[.int c,.int k]∧0≤k∧k≤100∧∀ r H',0≤r→r < 2147483648→Same H H'→Q (.int r) H'
def yB:Sp:=fun vs H Q _=>∃ x:Str,vs=[.str x]∧x.length≤20000∧∀ H',Same H H'→Q (.bl (zZ x)) H'
def wG:Sp:=fun vs H Q _=>∃ x:Str,vs=[.str x]∧x.length≤20000∧∀ H',Same H H'→Q (.bl (xb x)) H'
def wA (m:Nat) (H:Hp) (Q:VK):Prop:=∀ (x:Str) H',x.length≤m→Asc x→Same H H'→Q (.str x) H'
def xn:Sp:=fun vs H Q _=>∃ n,vs=[.int n]∧0≤n∧n < 2147483648∧wA 7 H Q
def wq:Sp:=fun vs H Q _=>∃ n,vs=[.int n]∧0≤n∧n < 2147483648∧wA 60 H Q
def qr:Sp:=fun vs H Q _=>∃ n,vs=[.int n]∧wA 150 H Q
def okLs (m:Nat) (ls:List Str):Prop:=∀ l∈ls,l.length≤m∧Asc l
def jZ:Sp:=fun vs H Q _=>∃ (p:Addr) (ns:List Int),vs=[.ref p]∧H p=some (.lst (ns.map V.int))∧ns.length≤63∧∀ l ls H',Same H H'→H' l=some (.lst (ls.map V.str))→ls.length≤40→okLs 150 ls→Q (.ref l) H'
def yG:Sp:=fun vs H Q _=>∃ n,vs=[.int n]∧0≤n∧n≤30∧wA 300 H Q
def qt:Sp:=fun vs H Q _=>∃ n,vs=[.int n]∧wA 6100 H Q
def xS:Sp:=fun vs H Q _=>∃ (x:Str) (n:Int),vs=[.str x,.int n]∧x.length≤7000∧Asc x∧wA 15001 H Q
def kH (K:PySem.W.Frag):Sp:=fun vs H Q _=>∃ (a:Addr) (ns:List Int),vs=[.ref a]∧SqL K H a (ns.map V.int)∧ns.length≤63∧wA 19000 H Q
def Xx:Option (List V × Nat)→Int
 | some (_,e)=>(e:Nat)
 | none=>-1
def vJ:Sp:=fun vs H Q _=>∃ (a:Addr) (ws:List Str) (k:Nat),vs=[.ref a,.int k]∧H a=some (.lst (ws.map V.str))∧ws.length≤60∧k≤60∧vb ws∧∀ H',Same H H'→Q (.int (Xx (yk ws k))) H'
def Xy (ws:List Str):Prop:=∃ hd:Hd,ws=hd.words∧hd.ok∧hd≠.els∧hd≠.nd
open Classical in
noncomputable def qu (ws:List Str):Bool:=decide (Xy ws)
def kI:Sp:=fun vs H Q _=>∃ (a:Addr) (ws:List Str),vs=[.ref a]∧H a=some (.lst (ws.map V.str))∧ws.length≤60∧ws≠[]∧vb ws∧∀ H',Same H H'→Q (.bl (qu ws)) H'
noncomputable def j3 (cs:List Bool) (m:Int) (ws:List Str):Option (List Bool × Int) :=
 if ws=[("else":Str)]∨ws=[("end":Str)]∨qu ws=false then none
 else if ws[0]?=some ("if":Str)∧cs.length=5 then none
 else some (if ws[0]?=some ("if":Str) then cs ++ [false] else cs,m + if cs=[] then 1 else 0)
noncomputable def j2 (cs:List Bool) (m:Int) (ws:List Str):Option (List Bool × Int) :=
 if ws=[("end":Str)]∧cs≠[] then some (cs.dropLast,m) else j3 cs m ws
noncomputable def j1 (cs:List Bool) (m:Int) (ws:List Str):Option (List Bool × Int) :=
 if ws=[("else":Str)]∧cs.getLast?=some false then some (cs.dropLast ++ [true],m) else j2 cs m ws
noncomputable def jx:List Bool→Int→Nat→List Str→Int × Int
 | cs,m,k,[]=>match cs with | []=>(-1,m) | _ :: _=>(k,m)
 | cs,m,k,x :: r=>if k=40∨60 < (Txt.split x wY).length then (k,m) else match j1 cs m (Txt.split x wY) with | none=>(k,m) | some z=>jx z.1 z.2 (k + 1) r
def jy:Sp:=fun vs H Q _=>∃ (a:Addr) (ls:List Str),vs=[.ref a]∧H a=some (.lst (ls.map V.str))∧ls.length≤20001∧okLs 20000 ls∧∀ p H',Same H H'→H' p=some (.tup [.int (jx [] 0 0 ls).1,.int (jx [] 0 0 ls).2])→Q (.ref p) H'
structure NdF (K:PySem.W.Frag) (t:Adr):Prop where
 es:ExS K t.c_NoDealing
 nx:NoAttr K t.c_NoDealing "row"
 ex:PySem.W.exmOne K (.ref t.c_NoDealing) (.ref t.c_NoDealing)=some true
 fx:PySem.W.exmOne K (.ref t.c_NoDealing) (.ref t.c_ForerunError)=some true
 iv:PySem.W.kitOne K (.ref t.c_NoDealing) (.type "ValueError")=some true
 io:PySem.W.kitAny K (.ref t.c_NoDealing) [.ref t.c_NoTerm,.ref t.c_NoNumber,.ref t.c_Nought,.ref t.c_Great,.ref t.c_Folded,.ref t.c_NoHand,.ref t.c_NoOrder,.ref t.c_NoLine,.ref t.c_NoLog]=some false
def vR:Sp:=fun vs H Q _=>∃ (x:Str) (k:Nat),vs=[.str x,.int k]∧Asc x∧x.length≤20000∧rdE .nil [] 0 (yw x)=.error k∧∀ H',Same H H'→Q (.bl true) H'
def sp_law (K:PySem.W.Frag):Sp:=fun vs H Q _=>∃ (a:Addr) (ns:List Int),vs=[.ref a]∧SqL K H a (ns.map V.int)∧ns.length≤63∧∀ H',Q (.bl true) H'
def vS (K:PySem.W.Frag) (t:Adr):TS:=(zq (zE (zp (tOp (rIn K false) (ze 0) (xm (zc (tC (.str "take")) (zc (tC (.str "give")) (zc (tC (.str "let")) (zc (tC (.str "say")) (zc (tC (.str "off")) (zc (tC (.str "if")) (zc (tC (.str "else")) (zc (tC (.str "end")) (zc (tC (.str "as")) zk))))))))))))
   (zF (tC (.bl false)))
   zx)
  (zq (zE (zp (tOp (rIn K false) (ze 0) (xm (zc (tC (.str "plus")) (zc (tC (.str "minus")) (zc (tC (.str "times")) (zc (tC (.str "over")) (zc (tC (.str "rest")) (zc (tC (.str "under")) (zc (tC (.str "same")) zk))))))))))
    (zF (tC (.bl false)))
    zx)
  (zq (xP (Zq (ze 0)) (zo 1)
    (zE (zp (tOp vD (ze 1) (tC (.str "abcdefghijklmnopqrstuvwxyz"))))
    (zF (tC (.bl false)))
    zx))
  (zF (Zl (rI0 fun i j=>.bl (decide (i≤j))) (rI0 fun i j=>.bl (decide (i≤j))) (tC (.int 1)) (tCB (z0 K) (zc (ze 0) zk)) (tC (.int 6)))))))
def kJ (K:PySem.W.Frag) (t:Adr):TS:=(zq (zI (tC (.str "abcdefghijklmnopqrstuvwxyz")) (zo 1))
  (zq (zI (tC (.str "")) (zo 2))
  (zq (xP (ZJ (zc (tOp (rI0 fun i j=>.int (i + j)) (tC (.int 1)) (tOp (rI (fun _ j=>0 < j) fun i j=>.int (i % j)) (ze 0) (tC (.int 6)))) zk)) (zo 3)
    (zq (zI (tOp zQ (ze 2) (tOp Xj (ze 1) (tOp (rI (fun _ j=>0 < j) fun i j=>.int (i % j)) (tOp (rI vH fun i j=>.int (i / j)) (ze 0) (tC (.int 6))) (tC (.int 26))))) (zo 2))
  (zI (tOp (rI0 fun i j=>.int (i + j)) (tOp (rI vH fun i j=>.int (i / j)) (ze 0) (tC (.int 26))) (tOp (rI CMulB fun i j=>.int (i * j)) (tOp (rI CMulB fun i j=>.int (i * j)) (tC (.int 991)) (ze 3)) (ze 3))) (zo 0))))
  (zq (zE (tB (zC yB [] E0 (zc (ze 2) zk)))
    (zF (ze 2))
    zx)
  (zF (tOp zQ (ze 2) (tC (.str "q"))))))))
def qv (K:PySem.W.Frag) (t:Adr):TS:=(zq (zI (zW (zc (tC (.str "plus ")) (zc (tC (.str "minus ")) (zc (tC (.str "times ")) (zc (tC (.str "over ")) (zc (tC (.str "rest ")) (zc (tC (.str "under ")) (zc (tC (.str "same ")) zk)))))))) (zo 2))
  (zF (tOp zQ (tOp zQ (tOp zQ (tOp (yC K) (ze 2) (tOp (rI (fun _ j=>0 < j) fun i j=>.int (i % j)) (tOp (rI vH fun i j=>.int (i / j)) (ze 0) (tC (.int 8))) (tC (.int 7)))) (ze 1)) (tC (.str " "))) (zC xn [] E0 (zc (tOp (rI vH fun i j=>.int (i / j)) (ze 0) (tC (.int 56))) zk)))))
def jz (K:PySem.W.Frag) (t:Adr):TS:=(zq (zE (zp (tOp (rI0 fun i j=>.bl (decide (i < j))) (tOp (rI (fun _ j=>0 < j) fun i j=>.int (i % j)) (ze 0) (tC (.int 8))) (tC (.int 5))))
   (zF (ze 1))
   zx)
  (qv K t))
def jA (K:PySem.W.Frag) (t:Adr):TS:=(zq (zE (zp (tOp rEq (tOp (rI (fun _ j=>0 < j) fun i j=>.int (i % j)) (ze 0) (tC (.int 4))) (tC (.int 2))))
   (zI (tCB K9 (zc (tOp (rI0 fun i j=>.int (i - j)) (tOp (rI (fun _ j=>0 < j) fun i j=>.int (i % j)) (tOp (rI Jx fun i j=>.int (i ^ j.toNat)) (ze 0) (tC (.int 4))) (tOp (rI0 fun i j=>.int (i + j)) (tOp (rI CMulB fun i j=>.int (i * j)) (tC (.int 2)) (tOp (rI Jx fun i j=>.int (i ^ j.toNat)) (tC (.int 10)) (tC (.int 30)))) (tC (.int 1)))) (tOp (rI Jx fun i j=>.int (i ^ j.toNat)) (tC (.int 10)) (tC (.int 30)))) zk)) (zo 1))
   zx)
  (jz K t))
def qw (K:PySem.W.Frag) (t:Adr):TS:=(zq (zE (zp (tOp rEq (tOp (rI (fun _ j=>0 < j) fun i j=>.int (i % j)) (ze 0) (tC (.int 4))) (tC (.int 1))))
   (zI (tCB K9 (zc (tOp (rI0 fun i j=>.int (i - j)) (tOp (rI (fun _ j=>0 < j) fun i j=>.int (i % j)) (tOp (rI vH fun i j=>.int (i / j)) (ze 0) (tC (.int 8))) (tC (.int 40))) (tC (.int 9))) zk)) (zo 1))
   zx)
  (jA K t))
def kK (K:PySem.W.Frag) (t:Adr):TS:=(zq (zI (zC xn [] E0 (zc (tOp (rI vH fun i j=>.int (i / j)) (ze 0) (tC (.int 8))) zk)) (zo 1))
  (qw K t))
def j0 (K:PySem.W.Frag) (t:Adr):TS:=(zq (zI (tOp (rI0 fun i j=>.int (i + j)) (tOp (rI0 fun i j=>.int (i + j)) (tOp (rI (fun _ j=>0 < j) fun i j=>.int (i % j)) (ze 0) (tC (.int 2147483647))) (tOp (rI CMulB fun i j=>.int (i * j)) (tC (.int 11)) (ze 1))) (tC (.int 7))) (zo 2))
  (zF (tOp (rI vH fun i j=>.int (i / j)) (tOp (rI (fun _ j=>0 < j) fun i j=>.int (i % j)) (tOp (rI CMulB fun i j=>.int (i * j)) (ze 2) (tOp (rI0 fun i j=>.int (i + j)) (tOp (rI0 fun i j=>.int (i + j)) (ze 2) (tC (.int 48271))) (ze 1))) (tC (.int 2147483647))) (tC (.int 5)))))
def Ze (K:PySem.W.Frag) (t:Adr):TS:=(zq (zE (zp (tOp rEq (ze 1) (tC (.str "take "))))
   (zF (tOp zQ (tOp zQ (tOp zQ (tOp zQ (ze 1) (ze 3)) (ze 2)) (tC (.str " as "))) (zC xn [] E0 (zc (zC yr [] E0 (zc (ze 0) (zc (tC (.int 3)) zk))) zk))))
   zx)
  (zq (zE (zp (tOp rEq (ze 1) (tC (.str "give "))))
    (zF (tOp zQ (tOp zQ (tOp zQ (tOp zQ (ze 1) (ze 3)) (ze 2)) (tC (.str " "))) (zC wq [] E0 (zc (zC yr [] E0 (zc (ze 0) (zc (tC (.int 4)) zk))) zk))))
    zx)
  (zq (zE (zp (tOp rEq (ze 1) (tC (.str "let "))))
    (zF (tOp zQ (tOp zQ (ze 1) (ze 3)) (ze 2)))
    zx)
  (zF (tOp zQ (ze 1) (ze 2))))))
def qx (K:PySem.W.Frag) (t:Adr):TS:=(zq (zI (tOp (yC K) (zW (zc (tC (.str "take ")) (zc (tC (.str "give ")) (zc (tC (.str "let ")) (zc (tC (.str "say ")) (zc (tC (.str "off ")) zk)))))) (tOp (rI (fun _ j=>0 < j) fun i j=>.int (i % j)) (ze 0) (tC (.int 5)))) (zo 1))
  (zq (zI (zC wq [] E0 (zc (zC yr [] E0 (zc (ze 0) (zc (tC (.int 1)) zk))) zk)) (zo 2))
  (zq (zI (tOp zQ (zC xn [] E0 (zc (zC yr [] E0 (zc (ze 0) (zc (tC (.int 2)) zk))) zk)) (tC (.str " "))) (zo 3))
  (Ze K t))))
def vT (K:PySem.W.Frag) (t:Adr):TS:=(zE (wS (zp (tOp (rI0 fun i j=>.bl (decide (j < i))) (ze 4) (tC (.int 4)))) (zp (tOp (rI0 fun i j=>.bl (decide (j < i))) (ze 5) (tC (.int 0)))))
   (yq (tBM K "list" zO (ze 1) (zc (zC qr [] E0 (zc (tOp (rI vH fun i j=>.int (i / j)) (ze 3) (tC (.int 9))) zk)) zk)))
   zx)
def vU (K:PySem.W.Frag) (t:Adr):TS:=(zE (wS (zp (tOp (rI0 fun i j=>.bl (decide (i < j))) (ze 4) (tC (.int 5)))) (zp (tOp (y6 K) (ze 2) (zW zk))))
   (zq (yq (tBM K "list" zO (ze 1) (zc (tC (.str "end")) zk)))
  (zI (tSl (wd K) (ze 2) zP (z8 (tUn (rU fun i=>.int (-i)) (tC (.int 1))))) (zo 2)))
   (vT K t))
def vV (K:PySem.W.Frag) (t:Adr):TS:=(zE (wS (zp (tOp rEq (ze 4) (tC (.int 2)))) (wS (zp (tOp (y6 K) (ze 2) (zW zk))) (wS (vd (tB (tOp (yC K) (ze 2) (tUn (rU fun i=>.int (-i)) (tC (.int 1)))))) (zp (tOp (rI0 fun i j=>.bl (decide (j < i))) (ze 5) (tC (.int 0)))))))
   (zq (yq (tBM K "list" zO (ze 1) (zc (tC (.str "else")) zk)))
  (zI (tOp yg (tSl (wd K) (ze 2) zP (z8 (tUn (rU fun i=>.int (-i)) (tC (.int 1))))) (zW (zc (tC (.bl true)) zk))) (zo 2)))
   (vU K t))
def vW (K:PySem.W.Frag) (t:Adr):TS:=(zE (wS (zp (tOp (rI0 fun i j=>.bl (decide (i < j))) (ze 4) (tC (.int 2)))) (wS (zp (tOp (rI0 fun i j=>.bl (decide (i < j))) (tCB (z0 K) (zc (ze 2) zk)) (tC (.int 5)))) (zp (tOp (rI0 fun i j=>.bl (decide (j < i))) (ze 5) (tC (.int 1))))))
   (zq (yq (tBM K "list" zO (ze 1) (zc (tOp zQ (tC (.str "if ")) (zC wq [] E0 (zc (zC yr [] E0 (zc (tOp (rI vH fun i j=>.int (i / j)) (ze 3) (tC (.int 9))) (zc (tC (.int 5)) zk))) zk))) zk)))
  (yq (tBM K "list" zO (ze 2) (zc (tC (.bl false)) zk))))
   (vV K t))
def kX (K:PySem.W.Frag) (t:Adr):TS:=(zF (tOp yg (ze 1) (tOp Zp (zW (zc (tC (.str "end")) zk)) (tCB (z0 K) (zc (ze 2) zk)))))
def kY (K:PySem.W.Frag) (t:Adr):TS:=(zq (xP (VC K (ze 0)) (zo 3)
   (zq (zI (tOp (rI (fun _ j=>0 < j) fun i j=>.int (i % j)) (ze 3) (tC (.int 9))) (zo 4))
  (zq (zI (tOp (rI0 fun i j=>.int (i - j)) (tOp (rI0 fun i j=>.int (i - j)) (tC (.int 40)) (tCB (z0 K) (zc (ze 1) zk))) (tCB (z0 K) (zc (ze 2) zk))) (zo 5))
  (vW K t))))
  (kX K t))
def j4 (K:PySem.W.Frag) (t:Adr):TS:=(zq (zI (zW zk) (zo 1))
  (zq (zI (zW zk) (zo 2))
  (kY K t)))
def vX (K:PySem.W.Frag) (t:Adr):TS:=(zq (zE (zp (tOp (rI0 fun i j=>.bl (decide (i < j))) (ze 1) (tCB (z0 K) (zc (ze 0) zk))))
   (zF (tOp (yC K) (ze 0) (ze 1)))
   zx)
  (zF (tC (.int 0))))
def w5 (K:PySem.W.Frag) (t:Adr):TS:=(zq (zE (zp (tOp rEq (tOp (rI (fun _ j=>0 < j) fun i j=>.int (i % j)) (ze 1) (tC (.int 3))) (tC (.int 0))))
   (zF (tOp zQ (tOp zQ (tSl ZS (ze 0) zP (z8 (ze 4))) (ze 3)) (tSl ZS (ze 0) (z8 (ze 4)) zP)))
   zx)
  (zq (zE (zp (tOp rEq (tOp (rI (fun _ j=>0 < j) fun i j=>.int (i % j)) (ze 1) (tC (.int 3))) (tC (.int 1))))
    (zF (tOp zQ (tOp zQ (tSl ZS (ze 0) zP (z8 (ze 4))) (ze 3)) (tSl ZS (ze 0) (z8 (tOp (rI0 fun i j=>.int (i + j)) (ze 4) (tC (.int 1)))) zP)))
    zx)
  (zF (tOp zQ (tSl ZS (ze 0) zP (z8 (ze 4))) (tSl ZS (ze 0) (z8 (tOp (rI0 fun i j=>.int (i + j)) (ze 4) (tC (.int 1)))) zP)))))
def xz (K:PySem.W.Frag) (t:Adr):TS:=(zq (zI (tOp (rI (fun _ j=>0 < j) fun i j=>.int (i % j)) (tOp (rI vH fun i j=>.int (i / j)) (ze 1) (tC (.int 7))) (tOp (rI0 fun i j=>.int (i + j)) (tCB (z0 K) (zc (ze 0) zk)) (tC (.int 1)))) (zo 4))
  (w5 K t))
def xT (K:PySem.W.Frag) (t:Adr):TS:=(zq (zI (tC (.str " \n0123456789-+abcdefghijklmnopqrstuvwxyz!\"#$&'()*,./:;<=>?@ABCDEFGHIJKLMNOPQRSTUVWXYZ")) (zo 2))
  (zq (zI (tOp zQ (ze 2) (tC (.str "[\\]^_`{|}~\t"))) (zo 2))
  (zq (zI (tOp Xj (ze 2) (tOp (rI (fun _ j=>0 < j) fun i j=>.int (i % j)) (tOp (rI vH fun i j=>.int (i / j)) (ze 1) (tC (.int 3))) (tCB (z0 K) (zc (ze 2) zk)))) (zo 3))
  (zq (zE (zp (tOp rEq (tOp (rI (fun _ j=>0 < j) fun i j=>.int (i % j)) (tOp (rI vH fun i j=>.int (i / j)) (ze 1) (tC (.int 300))) (tC (.int 2))) (tC (.int 0))))
    (zI (tOp Xj (ze 2) (tOp (rI (fun _ j=>0 < j) fun i j=>.int (i % j)) (tOp (rI vH fun i j=>.int (i / j)) (ze 1) (tC (.int 600))) (tC (.int 2)))) (zo 3))
    zx)
  (xz K t)))))
def kL (K:PySem.W.Frag) (t:Adr):TS:=(zF (tOp zQ (tOp zQ (tOp jO (tC (.str "plus ")) (ze 0)) (tOp jO (tC (.str "1 ")) (ze 0))) (tC (.str "x"))))
def j5 (K:PySem.W.Frag) (t:Adr):TS:=(zF (tOp (yC K) (tOp yg (ze 1) (zW (zc (tOp zQ (tOp zQ (tC (.str "say ")) (tOp jO (tC (.str "plus ")) (tC (.int 1200)))) (tC (.str "1"))) zk))) (tOp (rI (fun _ j=>0 < j) fun i j=>.int (i % j)) (ze 0) (tC (.int 37)))))
def j6 (K:PySem.W.Frag) (t:Adr):TS:=(zq (zI (tOp yg (ze 1) (zW (zc (tOp zQ (tC (.str "say ")) (zC yG [] E0 (zc (tC (.int 29)) zk))) (zc (tOp zQ (tC (.str "say ")) (zC yG [] E0 (zc (tC (.int 30)) zk))) (zc (tOp zQ (tC (.str "let x ")) (zC yG [] E0 (zc (tC (.int 28)) zk))) (zc (tOp zQ (tC (.str "let x ")) (zC yG [] E0 (zc (tC (.int 29)) zk))) zk)))))) (zo 1))
  (zq (zI (tOp yg (ze 1) (zW (zc (tOp zQ (tOp zQ (tC (.str "take x ")) (zC yG [] E0 (zc (tC (.int 27)) zk))) (tC (.str " as y"))) (zc (tOp zQ (tOp zQ (tC (.str "take x ")) (zC yG [] E0 (zc (tC (.int 28)) zk))) (tC (.str " as y"))) zk)))) (zo 1))
  (zq (zI (tOp yg (ze 1) (zW (zc (tOp zQ (tOp zQ (tC (.str "give x ")) (zC yG [] E0 (zc (tC (.int 28)) zk))) (tC (.str " 1"))) (zc (tOp zQ (tOp zQ (tC (.str "give x ")) (zC yG [] E0 (zc (tC (.int 28)) zk))) (tC (.str " plus 1 1"))) zk)))) (zo 1))
  (j5 K t))))
def qy (K:PySem.W.Frag) (t:Adr):TS:=(zq (zI (zW (zc (tC (.str "")) (zc (tC (.str " ")) (zc (tC (.str "say")) (zc (tC (.str "say ")) (zc (tC (.str " say 1")) (zc (tC (.str "say 1 ")) (zc (tC (.str "say  1")) (zc (tC (.str "say\t1")) (zc (tC (.str "say 1 2")) (zc (tC (.str "say plus 1")) zk))))))))))) (zo 1))
  (zq (zI (tOp yg (ze 1) (zW (zc (tC (.str "let 1 2")) (zc (tC (.str "let as 1")) (zc (tC (.str "let x")) (zc (tC (.str "let letters 1")) (zc (tC (.str "else 1")) (zc (tC (.str "end ")) (zc (tC (.str "End")) (zc (tC (.str "if")) (zc (tC (.str "if 1 2")) (zc (tC (.str "off")) zk)))))))))))) (zo 1))
  (zq (zI (tOp yg (ze 1) (zW (zc (tC (.str "skip 1 2")) (zc (tC (.str "give x 1")) (zc (tC (.str "give x 1 2 3")) (zc (tC (.str "take x 1 as")) (zc (tC (.str "take x 1 as y z")) (zc (tC (.str "take x 1 is y")) zk)))))))) (zo 1))
  (zq (zI (tOp yg (ze 1) (zW (zc (tC (.str "take 1 1 as x")) (zc (tC (.str "take x 1 as 1")) zk)))) (zo 1))
  (j6 K t)))))
def vY (K:PySem.W.Frag) (t:Adr):TS:=(zF (tBM K "str" (yV K) (tC (.str "\n")) (zc (ze 1) zk)))
def vZ (K:PySem.W.Frag) (t:Adr):TS:=(zq (zE (zp (tOp rEq (ze 5) (tC (.int 5))))
   (zq (zI (tOp (rI0 fun i j=>.int (i + j)) (tC (.int 1)) (tOp (rI (fun _ j=>0 < j) fun i j=>.int (i % j)) (tOp (rI vH fun i j=>.int (i / j)) (ze 2) (tC (.int 8))) (tC (.int 6)))) (zo 7))
  (zI (tOp yg (tOp yg (tOp Zp (zW (zc (tC (.str "if 1")) zk)) (ze 7)) (ze 1)) (tOp Zp (zW (zc (tC (.str "end")) zk)) (ze 7))) (zo 1)))
   zx)
  (vY K t))
def v3 (K:PySem.W.Frag) (t:Adr):TS:=(zq (zE (zp (tOp rEq (ze 5) (tC (.int 4))))
   (zq (zI (tOp (rI0 fun i j=>.int (i - j)) (tOp (rI0 fun i j=>.int (i + j)) (tC (.int 38)) (tOp (rI (fun _ j=>0 < j) fun i j=>.int (i % j)) (tOp (rI vH fun i j=>.int (i / j)) (ze 2) (tC (.int 8))) (tC (.int 5)))) (tCB (z0 K) (zc (ze 1) zk))) (zo 6))
  (zI (tOp yg (tOp yg (tSl (wd K) (ze 1) zP (z8 (ze 4))) (tOp Zp (zW (zc (tC (.str "say 7")) zk)) (ze 6))) (tSl (wd K) (ze 1) (z8 (ze 4)) zP)) (zo 1)))
   zx)
  (vZ K t))
def jB (K:PySem.W.Frag) (t:Adr):TS:=(zq (zE (zp (tOp rEq (ze 5) (tC (.int 3))))
   (zI (tOp yg (tSl (wd K) (ze 1) zP (z8 (ze 4))) (tSl (wd K) (ze 1) (z8 (tOp (rI0 fun i j=>.int (i + j)) (ze 4) (tC (.int 1)))) zP)) (zo 1))
   zx)
  (v3 K t))
def jC (K:PySem.W.Frag) (t:Adr):TS:=(zq (zE (zp (tOp rEq (ze 5) (tC (.int 2))))
   (zF (zC xS [] E0 (zc (tBM K "str" (yV K) (tC (.str "\n")) (zc (ze 1) zk)) (zc (ze 3) zk))))
   zx)
  (jB K t))
def jD (K:PySem.W.Frag) (t:Adr):TS:=(zq (zE (zp (tOp rEq (ze 5) (tC (.int 1))))
   (zI (tOp yg (tOp yg (tSl (wd K) (ze 1) zP (z8 (ze 4))) (zW (zc (zC qt [] E0 (zc (ze 3) zk)) zk))) (tSl (wd K) (ze 1) (z8 (ze 4)) zP)) (zo 1))
   zx)
  (jC K t))
def qz (K:PySem.W.Frag) (t:Adr):TS:=(zq (zE (zp (tOp rEq (ze 5) (tC (.int 7))))
   (zF (tOp zQ (tC (.str "\n")) (tBM K "str" (yV K) (tC (.str "\n")) (zc (ze 1) zk))))
   zx)
  (jD K t))
def qA (K:PySem.W.Frag) (t:Adr):TS:=(zq (zE (zp (tOp rEq (ze 5) (tC (.int 6))))
   (zF (tOp zQ (tBM K "str" (yV K) (tC (.str "\n")) (zc (ze 1) zk)) (tC (.str "\n"))))
   zx)
  (qz K t))
def jE (K:PySem.W.Frag) (t:Adr):TS:=(zq (zI (tOp (rI (fun _ j=>0 < j) fun i j=>.int (i % j)) (ze 2) (tC (.int 8))) (zo 5))
  (qA K t))
def kM (K:PySem.W.Frag) (t:Adr):TS:=(zq (zI (zC jZ [] E0 (zc (tSl (wd K) (ze 0) (z8 (tC (.int 3))) (z8 (tC (.int 83)))) zk)) (zo 1))
  (zq (zI (zC (yM K) [] E0 (zc (ze 0) (zc (tC (.int 0)) zk))) (zo 2))
  (zq (zI (zC yr [] E0 (zc (zC (yM K) [] E0 (zc (ze 0) (zc (tC (.int 1)) zk))) (zc (tC (.int 6)) zk))) (zo 3))
  (zq (zI (tOp (rI (fun _ j=>0 < j) fun i j=>.int (i % j)) (zC (yM K) [] E0 (zc (ze 0) (zc (tC (.int 2)) zk))) (tOp (rI0 fun i j=>.int (i + j)) (tCB (z0 K) (zc (ze 1) zk)) (tC (.int 1)))) (zo 4))
  (jE K t)))))
def xU (K:PySem.W.Frag) (t:Adr):TS:=(zq (xP (Zq (ze 1)) (zo 2)
   (zE (zp (tOp vD (ze 2) (tC (.str "0123456789"))))
   (zF (tC (.bl false)))
   zx))
  (zF (Jt (tOp (rI0 fun i j=>.bl (decide (i < j))) (tCB (z0 K) (zc (ze 1) zk)) (tC (.int 31))) (tOp rEq (ze 1) (tOp zQ (tC (.str "1")) (tOp jO (tC (.str "0")) (tC (.int 30))))))))
def xV (K:PySem.W.Frag) (t:Adr):TS:=(zq (zE (tOr (zp (tOp rEq (ze 1) (tC (.str "")))) (tOr (zp (tOp (rI0 fun i j=>.bl (decide (j < i))) (tCB (z0 K) (zc (ze 1) zk)) (tC (.int 31)))) (wS (zp (tOp rEq (tOp Xj (ze 1) (tC (.int 0))) (tC (.str "0")))) (zp (tOp rNe (ze 0) (tC (.str "0")))))))
   (zF (tC (.bl false)))
   zx)
  (xU K t))
def wH (K:PySem.W.Frag) (t:Adr):TS:=(zq (zI (ze 0) (zo 1))
  (zq (zE (zp (tOp rEq (tSl ZS (ze 0) zP (z8 (tC (.int 1)))) (tC (.str "-"))))
    (zI (tSl ZS (ze 0) (z8 (tC (.int 1))) zP) (zo 1))
    zx)
  (xV K t)))
def qB (K:PySem.W.Frag) (t:Adr):TS:=(zq (zI (tC (.int 1)) (zo 2))
  (zq (xP (Kk (zc (ze 1) (zc (tCB (z0 K) (zc (ze 0) zk)) zk))) (zo 3)
    (zq (zE (zp (tOp (rIn K false) (tOp (yC K) (ze 0) (ze 3)) (xm (zc (tC (.str "plus")) (zc (tC (.str "minus")) (zc (tC (.str "times")) (zc (tC (.str "over")) (zc (tC (.str "rest")) (zc (tC (.str "under")) (zc (tC (.str "same")) zk))))))))))
    (qc 2 (tC (.int 1)) (ipI fun i j=>i + j))
    (zE (tOr (tB (zC yB [] E0 (zc (tOp (yC K) (ze 0) (ze 3)) zk))) (tB (zC wG [] E0 (zc (tOp (yC K) (ze 0) (ze 3)) zk))))
    (qc 2 (tC (.int 1)) (ipI fun i j=>i - j))
    (zF (tUn (rU fun i=>.int (-i)) (tC (.int 1))))))
  (zE (zp (tOp rEq (ze 2) (tC (.int 0))))
   (zF (tOp (rI0 fun i j=>.int (i + j)) (ze 3) (tC (.int 1))))
   zx)))
  (zF (tUn (rU fun i=>.int (-i)) (tC (.int 1))))))
def qC (K:PySem.W.Frag) (t:Adr):TS:=(zq (zE (tOr (zp (tOp (rI0 fun i j=>.bl (decide (i < j))) (ze 1) (tC (.int 0)))) (zp (tOp (rI0 fun i j=>.bl (decide (j≤i))) (ze 1) (tCB (z0 K) (zc (ze 0) zk)))))
   (zF (tC (.bl false)))
   zx)
  (zq (zE (zp (tOp rEq (tOp (yC K) (ze 0) (tC (.int 0))) (tC (.str "give"))))
    (zF (tOp rEq (zC vJ [] E0 (zc (ze 0) (zc (ze 1) zk))) (tCB (z0 K) (zc (ze 0) zk))))
    zx)
  (zF (jM (tOp rEq (tOp (yC K) (ze 0) (ze 1)) (tC (.str "as"))) (jM (tOp rEq (tCB (z0 K) (zc (ze 0) zk)) (tOp (rI0 fun i j=>.int (i + j)) (ze 1) (tC (.int 2)))) (zC yB [] E0 (zc (tOp (yC K) (ze 0) (tOp (rI0 fun i j=>.int (i + j)) (ze 1) (tC (.int 1)))) zk)))))))
def qD (K:PySem.W.Frag) (t:Adr):TS:=(zq (zE (zp (tOp rEq (tOp (yC K) (ze 0) (tC (.int 0))) (tC (.str "let"))))
   (zF (tOp rEq (ze 1) (tCB (z0 K) (zc (ze 0) zk))))
   zx)
  (qC K t))
def qE (K:PySem.W.Frag) (t:Adr):TS:=(zq (zI (zC vJ [] E0 (zc (ze 0) (zc (tC (.int 2)) zk))) (zo 1))
  (qD K t))
def qF (K:PySem.W.Frag) (t:Adr):TS:=(zq (zE (tOr (zp (tOp (rIn K true) (tOp (yC K) (ze 0) (tC (.int 0))) (xm (zc (tC (.str "take")) (zc (tC (.str "give")) (zc (tC (.str "let")) zk)))))) (tOr (zp (tOp (rI0 fun i j=>.bl (decide (i < j))) (tCB (z0 K) (zc (ze 0) zk)) (tC (.int 2)))) (vd (tB (zC yB [] E0 (zc (tOp (yC K) (ze 0) (tC (.int 1))) zk))))))
   (zF (tC (.bl false)))
   zx)
  (qE K t))
def kN (K:PySem.W.Frag) (t:Adr):TS:=(zq (zE (zp (tOp (rIn K false) (tOp (yC K) (ze 0) (tC (.int 0))) (xm (zc (tC (.str "say")) (zc (tC (.str "off")) (zc (tC (.str "if")) zk))))))
   (zF (tOp rEq (zC vJ [] E0 (zc (ze 0) (zc (tC (.int 1)) zk))) (tCB (z0 K) (zc (ze 0) zk))))
   zx)
  (qF K t))
def wr (K:PySem.W.Frag) (t:Adr):TS:=(zq (qc 2 (tCB Zd (zc (tOp (wt K) (ze 1) (zW zk)) zk)) (ipI fun i j=>i + j))
  (zE (zp (tOp rEq (tOp (yC K) (ze 4) (tC (.int 0))) (tC (.str "if"))))
   (zI (tOp yg (ze 1) (zW (zc (tC (.bl false)) zk))) (zo 1))
   zx))
def vt (K:PySem.W.Frag) (t:Adr):TS:=(zE (wS (zp (tOp rEq (tOp (yC K) (ze 4) (tC (.int 0))) (tC (.str "if")))) (zp (tOp rEq (tCB (z0 K) (zc (ze 1) zk)) (tC (.int 5)))))
   (zF (xm (zc (ze 3) (zc (ze 2) zk))))
   (wr K t))
def vw (K:PySem.W.Frag) (t:Adr):TS:=(zE (tOr (zp (tOp (V7 K false) (ze 4) (xm (zc (zW (zc (tC (.str "else")) zk)) (zc (zW (zc (tC (.str "end")) zk)) zk))))) (vd (tB (zC kI [] E0 (zc (ze 4) zk)))))
   (zF (xm (zc (ze 3) (zc (ze 2) zk))))
   (vt K t))
def vx (K:PySem.W.Frag) (t:Adr):TS:=(zE (wS (zp (tOp (W7 K false) (ze 4) (zW (zc (tC (.str "end")) zk)))) (zp (tOp (y6 K) (ze 1) (zW zk))))
   (zI (tSl (wd K) (ze 1) zP (z8 (tUn (rU fun i=>.int (-i)) (tC (.int 1))))) (zo 1))
   (vw K t))
def vy (K:PySem.W.Frag) (t:Adr):TS:=(zE (wS (zp (tOp (W7 K false) (ze 4) (zW (zc (tC (.str "else")) zk)))) (wS (zp (tOp (y6 K) (ze 1) (zW zk))) (vd (tB (tOp (yC K) (ze 1) (tUn (rU fun i=>.int (-i)) (tC (.int 1))))))))
   (zI (tOp yg (tSl (wd K) (ze 1) zP (z8 (tUn (rU fun i=>.int (-i)) (tC (.int 1))))) (zW (zc (tC (.bl true)) zk))) (zo 1))
   (vx K t))
def ki (K:PySem.W.Frag) (t:Adr):TS:=(zq (zE (zp (tOp (y6 K) (ze 1) (zW zk)))
   (zF (xm (zc (tCB (z0 K) (zc (ze 0) zk)) (zc (ze 2) zk))))
   zx)
  (zF (xm (zc (tUn (rU fun i=>.int (-i)) (tC (.int 1))) (zc (ze 2) zk)))))
def kj (K:PySem.W.Frag) (t:Adr):TS:=(zq (xP (ZJ (zc (tCB (z0 K) (zc (ze 0) zk)) zk)) (zo 3)
   (zq (zI (tBM K "str" y0 (tOp (yC K) (ze 0) (ze 3)) (zc (tC (.str " ")) zk)) (zo 4))
  (zq (zE (tOr (zp (tOp rEq (ze 3) (tC (.int 40)))) (zp (tOp (rI0 fun i j=>.bl (decide (j < i))) (tCB (z0 K) (zc (ze 4) zk)) (tC (.int 60)))))
    (zF (xm (zc (ze 3) (zc (ze 2) zk))))
    zx)
  (vy K t))))
  (ki K t))
def jF (K:PySem.W.Frag) (t:Adr):TS:=(zq (zI (zW zk) (zo 1))
  (zq (zI (tC (.int 0)) (zo 2))
  (kj K t)))
def v4 (K:PySem.W.Frag) (t:Adr):TS:=(zq (YS K (ze 0) (zW zk) "rows")
  (zq (YS K (ze 0) (zW zk) "blocks")
  (YS K (ze 0) (zW zk) "turned")))
def xO (K:PySem.W.Frag) (t:Adr):TS:=(zay t.c_NoDealing (ze 0) (ze 1) "row")
def vz (K:PySem.W.Frag) (t:Adr) (E:XK):TS:=(zq (zE (tOr (zp (tOp (wt K) (y8 K (ze 0) "blocks") (zW zk))) (tB (tOp (yC K) (y8 K (ze 0) "turned") (tUn (rU fun i=>.int (-i)) (tC (.int 1))))))
   (yj t.c_NoDealing "row" (zc (ze 1) zk) E)
   zx)
  (zat (y8 K (ze 0) "turned") (tUn (rU fun i=>.int (-i)) (tC (.int 1))) (tC (.bl true))))
def vA (K:PySem.W.Frag) (t:Adr) (E:XK):TS:=(zq (zE (zp (tOp (wt K) (y8 K (ze 0) "blocks") (zW zk)))
   (yj t.c_NoDealing "row" (zc (ze 1) zk) E)
   zx)
  (zq (yq (Xk K "list" wy (y8 K (ze 0) "blocks")))
  (yq (Xk K "list" wy (y8 K (ze 0) "turned")))))
def xW (K:PySem.W.Frag) (t:Adr):TS:=(zq (zE (zp (tOp (wt K) (y8 K (ze 0) "blocks") (zW zk)))
   (zF (y8 K (ze 0) "rows"))
   zx)
  (zF (tIf (tB (tOp (yC K) (y8 K (ze 0) "turned") (tUn (rU fun i=>.int (-i)) (tC (.int 1))))) (tOp (ZN K) (tOp (yC K) (y8 K (ze 0) "blocks") (tUn (rU fun i=>.int (-i)) (tC (.int 1)))) (tC (.int 3))) (tOp (ZN K) (tOp (yC K) (y8 K (ze 0) "blocks") (tUn (rU fun i=>.int (-i)) (tC (.int 1)))) (tC (.int 2))))))
def w6 (K:PySem.W.Frag) (t:Adr) (E:XK):TS:=(zq (zE (zp (tOp rEq (tCB (z0 K) (zc (y8 K (ze 0) "blocks") zk)) (tC (.int 5))))
   (yj t.c_NoDealing "row" (zc (ze 2) zk) E)
   zx)
  (zq (yq (tBM K "list" zO (yJ t.c_Reading "innermost" (yI t) [] E (ze 0) zk) (zc (ze 1) zk)))
  (zq (yq (tBM K "list" zO (y8 K (ze 0) "blocks") (zc (ze 1) zk)))
  (yq (tBM K "list" zO (y8 K (ze 0) "turned") (zc (tC (.bl false)) zk))))))
def vB (K:PySem.W.Frag) (t:Adr) (E:XK):TS:=(zE (zp (tOp rEq (tOp (ZN K) (ze 1) (tC (.int 0))) (tC (.str "else"))))
   (yq (yJ t.c_Reading "turns" (vo t) [] E (ze 0) (zc (ze 2) zk)))
   (zE (zp (tOp rEq (tOp (ZN K) (ze 1) (tC (.int 0))) (tC (.str "end"))))
   (yq (yJ t.c_Reading "shuts" (vp t) [] E (ze 0) (zc (ze 2) zk)))
   (zE (zp (tOp rEq (tOp (ZN K) (ze 1) (tC (.int 0))) (tC (.str "if"))))
   (yq (yJ t.c_Reading "begins" (wZ t) [] E (ze 0) (zc (ze 1) (zc (ze 2) zk))))
   (yq (tBM K "list" zO (yJ t.c_Reading "innermost" (yI t) [] E (ze 0) zk) (zc (ze 1) zk))))))
def vC (K:PySem.W.Frag) (t:Adr):TS:=(zq (YS K (ze 0) (ze 1) "words")
  (zq (YS K (ze 0) (ze 2) "number")
  (YS K (ze 0) (tC (.int 0)) "at")))
def xJ (K:PySem.W.Frag) (t:Adr) (E:XK):TS:=(zq (zE (zp (tOp rEq (y8 K (ze 0) "at") (tCB (z0 K) (zc (y8 K (ze 0) "words") zk))))
   (yj t.c_NoDealing "row" (zc (y8 K (ze 0) "number") zk) E)
   zx)
  (zq (zI (tOp (yC K) (y8 K (ze 0) "words") (y8 K (ze 0) "at")) (zo 1))
  (zq (Y2 K (ze 0) (tC (.int 1)) za1 "at")
  (zF (ze 1)))))
def Zy (K:PySem.W.Frag) (t:Adr):TS:=(zq (zE (tOr (zp (tOp rEq (ze 0) (tC (.str "")))) (zp (tOp (rI0 fun i j=>.bl (decide (j < i))) (tCB (z0 K) (zc (ze 0) zk)) (tC (.int 6)))))
   (zF (tC (.bl false)))
   zx)
  (zq (zE (tOr (zp (tOp (rIn K false) (ze 0) (tC (.ref t.c_JOINING)))) (zp (tOp (rIn K false) (ze 0) (tC (.ref t.c_ROW_WORDS)))))
    (zF (tC (.bl false)))
    zx)
  (zF (tCB (QP K) (zc (Wx (Zq (ze 0)) (zo 0) QO (tOp za9 (ze 0) (tC (.str "abcdefghijklmnopqrstuvwxyz"))) 1 []) zk)))))
def xK (K:PySem.W.Frag) (t:Adr) (E:XK):TS:=(zq (zI (yJ t.c_RowWords "draw_word" (z6 t) [] E (ze 0) zk) (zo 1))
  (zq (zE (vd (tB (zC ju [] E (zc (ze 1) zk))))
    (yj t.c_NoDealing "row" (zc (y8 K (ze 0) "number") zk) E)
    zx)
  (zF (ze 1))))
def jG (K:PySem.W.Frag) (t:Adr) (E:XK):TS:=(zq (zI (tC (.int 1)) (zo 2))
  (zq (zI (ze 1) (zo 3))
  (zq (Jv (zp (tOp (rI0 fun i j=>.bl (decide (j < i))) (ze 2) (tC (.int 0)))) (zq (zE (zp (tOp (rI0 fun i j=>.bl (decide (j≤i))) (ze 3) (tCB (z0 K) (zc (ze 0) zk))))
    (kz t.c_NoTerm (zc (tC (.str "the words end ahead of the term's end")) zk) E)
    zx)
  (zq (zE (zp (tOp rEq (tOp (rI0 fun i j=>.int (i - j)) (ze 3) (ze 1)) (tC (.int 60))))
    (kz t.c_NoTerm (zc (tC (.str "a term of more than sixty words")) zk) E)
    zx)
  (zq (zI (tIf (zp (tOp (rIn K false) (tOp (yC K) (ze 0) (ze 3)) (tC (.ref t.c_JOINING)))) (tOp (rI0 fun i j=>.int (i + j)) (ze 2) (tC (.int 1))) (tOp (rI0 fun i j=>.int (i - j)) (ze 2) (tC (.int 1)))) (zo 2))
  (qc 3 (tC (.int 1)) (ipI fun i j=>i + j))))))
  (zF (ze 3)))))
def qG (K:PySem.W.Frag) (t:Adr):TS:=(zq (zE (tOr (vd (tB (tCB (X3 K) (zc (ze 0) (zc (tC (.ty "int")) zk))))) (tB (tCB (X3 K) (zc (ze 0) (zc (tC (.ty "bool")) zk)))))
   (zF (tC (.bl false)))
   zx)
  (zF (Zl (rI0 fun i j=>.bl (decide (i≤j))) (rI0 fun i j=>.bl (decide (i≤j))) (tUn (rU fun i=>.int (-i)) (tOp (rI Jx fun i j=>.int (i ^ j.toNat)) (tC (.int 10)) (tC (.int 30)))) (ze 0) (tOp (rI Jx fun i j=>.int (i ^ j.toNat)) (tC (.int 10)) (tC (.int 30))))))
def j7 (K:PySem.W.Frag) (t:Adr):TS:=(zF (jM (tOp rNe (ze 0) (tC (.str ""))) (tCB (QP K) (zc (Wx (Zq (ze 0)) (zo 0) QO (tOp za9 (ze 0) (tC (.str "0123456789"))) 1 []) zk))))
def Zz (K:PySem.W.Frag) (t:Adr):TS:=(zF (tCB K9 (zc (ze 0) zk)))
def j8 (K:PySem.W.Frag) (t:Adr):TS:=(zq (zI (tIf (tB (tBM K "str" vO (ze 0) (zc (tC (.str "-")) zk))) (tSl ZS (ze 0) (z8 (tC (.int 1))) zP) (ze 0)) (zo 1))
  (zq (zE (tOr (zp (tOp (rI0 fun i j=>.bl (decide (j < i))) (tCB (z0 K) (zc (ze 1) zk)) (tC (.int 31)))) (vd (tB (zC jX [] E0 (zc (ze 1) zk)))))
    (zF (tC (.bl false)))
    zx)
  (zq (zI (tCB QQ (zc (ze 0) zk)) (zo 2))
  (zF (jM (zC (qp K) [] E0 (zc (ze 2) zk)) (tOp rEq (zC Zw [] E0 (zc (ze 2) zk)) (ze 0)))))))
def qH (K:PySem.W.Frag) (t:Adr) (E:XK):TS:=(zq (zE (vd (tB (zC wz [] E (zc (ze 0) zk))))
   (kz t.c_NoNumber (zc (VP (ze 0)) zk) E)
   zx)
  (zF (tCB QQ (zc (ze 0) zk))))
def ZA (K:PySem.W.Frag) (t:Adr) (E:XK):TS:=(zq (zE (tB (zC ju [] E (zc (ze 0) zk)))
   (zF (ze 0))
   zx)
  (zq (zE (tB (zC wz [] E (zc (ze 0) zk)))
    (zF (zC (qq t) [] E (zc (ze 0) zk)))
    zx)
  (kz t.c_NoTerm (zc (VP (ze 0)) zk) E)))
def kO (K:PySem.W.Frag) (t:Adr) (E:XK):TS:=(zq (zI (zC (jv t) [] E (zc (ze 0) (zc (ze 1) zk))) (zo 2))
  (zq (zI (zW zk) (zo 3))
  (zq (xP (Qh K (zc (tSl (wd K) (ze 0) (z8 (ze 1)) (z8 (ze 2))) zk)) (zo 4)
    (zE (zp (tOp (rIn K false) (ze 4) (tC (.ref t.c_JOINING))))
    (zq (zI (Xk K "list" wy (ze 3)) (zo 5))
  (zq (zI (Xk K "list" wy (ze 3)) (zo 6))
  (yq (tBM K "list" zO (ze 3) (zc (tOp (Xi K) (tOp (Xi K) (ze 5) (ze 6)) (xm (zc (ze 4) zk))) zk)))))
   (yq (tBM K "list" zO (ze 3) (zc (xm (zc (zC (Zx t) [] E (zc (ze 4) zk)) zk)) zk)))))
  (zF (xm (zc (Xk K "list" wy (ze 3)) (zc (ze 2) zk)))))))
def xL (K:PySem.W.Frag) (t:Adr) (E:XK):TS:=(zq (zaD K (JZ (Z7 (kF t) (zc (y8 K (ze 0) "words") (zc (y8 K (ze 0) "at") zk))) 1) t.c_NoTerm t.c_NoDealing "row" (zc (y8 K (ze 0) "number") zk) E)
  (zq (YS K (ze 0) (tOp (ZN K) (ze 1) (tC (.int 1))) "at")
  (zF (tOp (ZN K) (ze 1) (tC (.int 0))))))
def wv (K:PySem.W.Frag) (t:Adr) (E:XK):TS:=(zE (zp (tOp rNe (yJ t.c_RowWords "draw_word" (z6 t) [] E (ze 0) zk) (tC (.str "as"))))
   (yj t.c_NoDealing "row" (zc (y8 K (ze 0) "number") zk) E)
   zx)
def j9 (K:PySem.W.Frag) (t:Adr) (E:XK):TS:=(zq (zI (yJ t.c_RowWords "draw_name" (z7 t) [] E (ze 0) zk) (zo 1))
  (zq (zI (yJ t.c_RowWords "draw_term" (zT t) [] E (ze 0) zk) (zo 2))
  (zq (yq (yJ t.c_RowWords "draw_as" (wu t) [] E (ze 0) zk))
  (zF (xm (zc (tC (.str "take")) (zc (ze 1) (zc (ze 2) (zc (yJ t.c_RowWords "draw_name" (z7 t) [] E (ze 0) zk) zk)))))))))
def qI (K:PySem.W.Frag) (t:Adr) (E:XK):TS:=(zq (zE (zp (tOp (rIn K false) (ze 1) (xm (zc (tC (.str "say")) (zc (tC (.str "off")) zk)))))
   (zF (xm (zc (ze 1) (zc (yJ t.c_RowWords "draw_term" (zT t) [] E (ze 0) zk) zk))))
   zx)
  (zq (zE (zp (tOp rEq (ze 1) (tC (.str "if"))))
    (zF (xm (zc (tC (.str "if")) (zc (yJ t.c_RowWords "draw_term" (zT t) [] E (ze 0) zk) (zc (zW zk) (zc (zW zk) zk))))))
    zx)
  (zq (zE (zp (tOp (rIn K false) (ze 1) (xm (zc (tC (.str "else")) (zc (tC (.str "end")) zk)))))
    (zF (xm (zc (ze 1) zk)))
    zx)
  (yj t.c_NoDealing "row" (zc (y8 K (ze 0) "number") zk) E))))
def qJ (K:PySem.W.Frag) (t:Adr) (E:XK):TS:=(zq (zE (zp (tOp rEq (ze 1) (tC (.str "let"))))
   (zF (xm (zc (tC (.str "let")) (zc (yJ t.c_RowWords "draw_name" (z7 t) [] E (ze 0) zk) (zc (yJ t.c_RowWords "draw_term" (zT t) [] E (ze 0) zk) zk)))))
   zx)
  (qI K t E))
def qK (K:PySem.W.Frag) (t:Adr) (E:XK):TS:=(zq (zE (zp (tOp rEq (ze 1) (tC (.str "give"))))
   (zF (xm (zc (tC (.str "give")) (zc (yJ t.c_RowWords "draw_name" (z7 t) [] E (ze 0) zk) (zc (yJ t.c_RowWords "draw_term" (zT t) [] E (ze 0) zk) (zc (yJ t.c_RowWords "draw_term" (zT t) [] E (ze 0) zk) zk))))))
   zx)
  (qJ K t E))
def kP (K:PySem.W.Frag) (t:Adr) (E:XK):TS:=(zq (zI (yJ t.c_RowWords "draw_word" (z6 t) [] E (ze 0) zk) (zo 1))
  (zq (zE (zp (tOp rEq (ze 1) (tC (.str "take"))))
    (zF (zC (jY t) [] E (zc (ze 0) zk)))
    zx)
  (qK K t E)))
def xX (K:PySem.W.Frag) (t:Adr) (E:XK):TS:=(zE (zp (tOp (rI0 fun i j=>.bl (decide (i < j))) (y8 K (ze 0) "at") (tCB (z0 K) (zc (y8 K (ze 0) "words") zk))))
   (yj t.c_NoDealing "row" (zc (y8 K (ze 0) "number") zk) E)
   zx)
def Yx (K:PySem.W.Frag) (t:Adr) (E:XK):TS:=(zq (zI (tBM K "str" y0 (ze 0) (zc (tC (.str " ")) zk)) (zo 2))
  (zq (zE (tOr (zp (tOp (rI0 fun i j=>.bl (decide (j≤i))) (ze 1) (tC (.int 40)))) (zp (tOp (rI0 fun i j=>.bl (decide (j < i))) (tCB (z0 K) (zc (ze 2) zk)) (tC (.int 60)))))
    (yj t.c_NoDealing "row" (zc (ze 1) zk) E)
    zx)
  (zq (zI (Xh t.c_RowWords (vn t) [] E (zc (ze 2) (zc (ze 1) zk))) (zo 3))
  (zq (zI (zC (kG t) [] E (zc (ze 3) zk)) (zo 4))
  (zq (yq (yJ t.c_RowWords "draw_end" (xR t) [] E (ze 3) zk))
  (zF (ze 4)))))))
def Yy (K:PySem.W.Frag) (t:Adr) (E:XK):TS:=(zq (zE (zp (tOp (y6 K) (y8 K (ze 2) "blocks") (zW zk)))
   (yj t.c_NoDealing "row" (zc (tCB (z0 K) (zc (ze 1) zk)) zk) E)
   zx)
  (zF (y8 K (ze 2) "rows")))
def Yz (K:PySem.W.Frag) (t:Adr) (E:XK):TS:=(zq (xP (Qk K (zc (ze 1) zk)) (WL K 2 (qb (zo 3) (qb (zo 4) WK)))
   (yq (yJ t.c_Reading "reads" (vq t) [] E (ze 2) (zc (zC (Yw t) [] E (zc (ze 4) (zc (ze 3) zk))) (zc (ze 3) zk)))))
  (Yy K t E))
def YA (K:PySem.W.Frag) (t:Adr) (E:XK):TS:=(zq (zI (Xh t.c_Reading (vQ t) [] E zk) (zo 2))
  (Yz K t E))
def Vg (K:PySem.W.Frag) (t:Adr) (E:XK):TS:=(zq (zI (tIf (zp (tOp rNe (ze 0) (tC (.str "")))) (tBM K "str" y0 (ze 0) (zc (tC (.str "\n")) zk)) (zW zk)) (zo 1))
  (YA K t E))
def jT (K:PySem.W.Frag) (t:Adr):TS:=(zq (zaB K (Vd (Z7 (qV t) (zc (ze 0) zk))) t.c_NoDealing 4 (zI (zaz K (ze 4) "row") (zo 5)))
  (zF (jM (tCB (X3 K) (zc (ze 5) (zc (tC (.ty "int")) zk))) (jM (Qy (tCB (X3 K) (zc (ze 5) (zc (tC (.ty "bool")) zk)))) (tOp rEq (ze 5) (ze 1))))))
def jU (K:PySem.W.Frag) (t:Adr):TS:=(zq (zI (tC .non) (zo 5))
  (jT K t))
def jV (K:PySem.W.Frag) (t:Adr):TS:=(zq (zE (tOr (vd (tB (ze 2))) (tB (ze 3)))
   (zF (tC (.bl false)))
   zx)
  (jU K t))
def jW (K:PySem.W.Frag) (t:Adr):TS:=(zq (zb6 K (JJ (JI (qV t) (zc (ze 0) zk))) t.c_ForerunError 4 (zq (zI (tCB (zb9 K) (zc (ze 4) (zc (tC (.ty "ValueError")) zk))) (zo 2))
  (zI (tCB (Q1 K) (zc (ze 4) (zc (xm (zc (tC (.ref t.c_NoTerm)) (zc (tC (.ref t.c_NoNumber)) (zc (tC (.ref t.c_Nought)) (zc (tC (.ref t.c_Great)) (zc (tC (.ref t.c_Folded)) (zc (tC (.ref t.c_NoHand)) (zc (tC (.ref t.c_NoOrder)) (zc (tC (.ref t.c_NoLine)) (zc (tC (.ref t.c_NoLog)) zk)))))))))) zk))) (zo 3))))
  (jV K t))
def v5 (K:PySem.W.Frag) (t:Adr):TS:=(zq (zI (tC (.bl false)) (zo 2))
  (zq (zI (tC (.bl true)) (zo 3))
  (jW K t)))
def Ja (K:PySem.W.Frag) (t:Adr):TS:=(zq (zI (zC (qV t) [] E0 (zc (ze 2) zk)) (zo 6))
  (zF (jM (tCB (X3 K) (zc (ze 6) (zc (tC (.ty "list")) zk))) (tOp rEq (tCB (z0 K) (zc (ze 6) zk)) (ze 5)))))
def Jb (K:PySem.W.Frag) (t:Adr):TS:=(zq (zE (zp (tOp (rI0 fun i j=>.bl (decide (j≤i))) (ze 4) (tC (.int 0))))
   (zF (zC vR [] E0 (zc (ze 2) (zc (ze 4) zk))))
   zx)
  (Ja K t))
def Xz (K:PySem.W.Frag) (t:Adr):TS:=(zq (zI (zC jy [] E0 (zc (ze 3) zk)) (WL K 2 (qb (zo 4) (qb (zo 5) WK))))
  (Jb K t))
def Jc (K:PySem.W.Frag) (t:Adr):TS:=(zq (zE (zp (tOp rNe (ze 2) (tC (.str ""))))
   (zI (tBM K "str" y0 (ze 2) (zc (tC (.str "\n")) zk)) (zo 3))
   zx)
  (Xz K t))
def Jd (K:PySem.W.Frag) (t:Adr):TS:=(zq (zI (zW zk) (zo 3))
  (Jc K t))
def Je (K:PySem.W.Frag) (t:Adr):TS:=(zq (zI (zC (kH K) [] E0 (zc (ze 0) zk)) (zo 2))
  (Jd K t))
def J9 (K:PySem.W.Frag) (t:Adr):TS:=(zq (zI (tOp (rI (fun _ j=>0 < j) fun i j=>.int (i % j)) (zC (yM K) [] E0 (zc (ze 0) (zc (tC (.int 1)) zk))) (tC (.int 41))) (zo 1))
  (zq (zE (zp (tOp rNe (zcl t.c_NoDealing "row" (zc (ze 1) zk)) (ze 1)))
    (zF (tC (.bl false)))
    zx)
  (Je K t)))
section
variable {K:PySem.W.Frag} {t:Adr} {H:Hp} {Q:VK}
theorem zaF {j:Int} (h0:0≤j) (h1:j≤100):Jx 10 j:=⟨h0,by lia,by decide⟩
theorem zj {n:Nat} (h:n≤100000):n≤sizeLine:=Nat.le_trans h (by decide)
theorem XA (T:String):PySem.W.kitOne K (.type T) (.type T)=some true:=by
 unfold PySem.W.kitOne
 rw [if_pos (by simp)]
theorem kf (K:PySem.W.Frag):KF K:=⟨by with_unfolding_all rfl,by with_unfolding_all rfl,by with_unfolding_all rfl,by with_unfolding_all rfl,by with_unfolding_all rfl,by with_unfolding_all rfl,by with_unfolding_all rfl,by with_unfolding_all rfl,by with_unfolding_all rfl,by with_unfolding_all rfl⟩
theorem num_iffL {x:Str}:xb x=true↔(fig x≠[]∧(fig x).length≤31∧PySem.NumText.AllDigits (fig x)∧¬ ((fig x).head?=some 48∧x≠"0")∧PySem.NumText.digitsVal (fig x)≤1000000000000000000000000000000):=by
 by_cases h:(fig x).length≤31
 ·refine zbh ?_
  have:=qT x
  have l:(y9 x).length=(fig x).length:=yK _
  lia
 ·refine ⟨fun z=>?_,fun z=>absurd z.2.1 h⟩
  unfold xb at z
  rw [Bool.and_eq_true,Bool.not_eq_true',Bool.or_eq_false_iff,decide_eq_false_iff_not] at z
  have l:(y9 x).length=(fig x).length:=yK _
  exact absurd z.1.1 (by lia)
theorem Vh {x:V} (hK:zbu K) (h:(∃ i,x=.int i∧∀ H',Same H H'→Q (.bl (inW i)) H')∨(zaE K H x∧∀ H',Same H H'→Q (.bl false) H')) :
  qG K t { nx:=fun _ H'=>Q .non H',rt:=Q } (L2.start ["thing"] [x]) H:=by
 simp only [qG,L2.start,zq,zF,zx,tOp,tUn,ze,tC,zc,zk,zE,tOr,vd,tB,tCB,Zl,rI,rI0,rU,X3,List.map,List.replicate,List.length,List.append,jqa,jqb,jqc,jqd,jqe,jqf,jqg,jqh,jqi,jqj,jqk,jql,jqm,jqn,and_true,true_and,and_assoc,jqo,jqp,jqq,Nat.reduceSub,Nat.reduceAdd,jqr,jqs,jqt,Int.reduceToNat,Int.reducePow,Int.reduceNeg,Int.reduceMul,Int.reduceAdd,if_true,ite_true,jqu,ite_false,if_false]
 rcases h with ⟨i,rfl,q⟩ | ⟨⟨T,b,ty,k1,k2⟩,q⟩
 ·have q:=q H (Same.refl H)
  refine ⟨_,.int i,true,XA _,?_⟩
  rw [if_neg (by decide)]
  refine ⟨_,.int i,false,hK,?_⟩
  rw [if_neg (by decide)]
  refine ⟨zaF (by decide) (by decide),_,rfl,yu (fun c=>⟨zaF (by decide) (by decide),_,rfl,?_⟩) fun c=>?_⟩
  ·have e:inW i=decide (i≤1000000000000000000000000000000):=by
    unfold inW
    by_cases h:i≤1000000000000000000000000000000
    ·rw [decide_eq_true h,decide_eq_true ⟨c,h⟩]
    ·rw [decide_eq_false h,decide_eq_false fun z=>h z.2]
   rw [e] at q
   exact q
  ·have e:inW i=false:=decide_eq_false fun z=>c z.1
   rw [e] at q
   exact q
 ·have q:=q H (Same.refl H)
  refine ⟨_,ty,b,k1,yu (fun _=>q) fun c=>⟨_,ty,true,k2 (by simpa using c),?_⟩⟩
  rw [if_pos rfl]
  exact q
theorem Vi {w:Int} (hw:inW w=true):w.natAbs.log2 < 1920:=by
 have hw':-1000000000000000000000000000000≤w∧w≤1000000000000000000000000000000:=of_decide_eq_true hw
 by_cases h0:w.natAbs=0
 ·rw [h0];decide
 ·exact Nat.lt_of_lt_of_le ((Nat.log2_lt h0 (k:=100)).mpr (Nat.lt_of_le_of_lt (by lia:w.natAbs≤1000000000000000000000000000000) (by decide +kernel))) (by decide)
theorem Jf {w:Int} (hw:inW w=true) (q:∀ H',Same H H'→Q (.str (v7 w)) H') :
  Zz K t { nx:=fun _ H'=>Q .non H',rt:=Q } (L2.start ["worth"] [.int w]) H:=by
 simp only [Zz,L2.start,zF,ze,zc,zk,tCB,K9,List.map,List.replicate,List.length,List.append,jqa,jqb,jqc,jqd,jqe,jqf,jqg,jqh,jqi,jqj,jqk,jql,jqm,jqn,and_true,true_and,and_assoc,jqo,jqp,jqq,Nat.reduceSub,Nat.reduceAdd,jqr,jqs,jqt,Int.reduceToNat,Int.reducePow,Int.reduceNeg,Int.reduceMul,Int.reduceAdd,if_true,ite_true,jqu,ite_false,if_false]
 exact ⟨Vi hw,q _ (Same.refl H)⟩
theorem zbv {x:Str} {f:Nat→Bool} {ys:List V} (hl:ys.length=x.cps.size) (hv:∀ (i:Nat) (v:V),ys[i]?=some v→∃ c,x.cps[i]?=some c∧v=.bl (f c)):ys=(x.cps.toList.map f).map V.bl:=by
 apply List.ext_getElem?
 intro i
 by_cases hi:i < ys.length
 ·obtain ⟨c,hc,e⟩:=hv i ys[i] (List.getElem?_eq_getElem hi)
  rw [List.getElem?_eq_getElem hi,e,List.getElem?_map,List.getElem?_map]
  have hc':x.cps.toList[i]?=some c:=by simpa using hc
  rw [hc'];rfl
 ·rw [List.getElem?_eq_none (by lia),List.getElem?_eq_none]
  rw [List.length_map,List.length_map]
  have:x.cps.toList.length=x.cps.size:=by simp
  lia
theorem XB {x:Str} (hx:x.length≤20000) (q:∀ H',Same H H'→Q (.bl (jN x)) H') :
  j7 K t { nx:=fun _ H'=>Q .non H',rt:=Q } (L2.start ["text"] [.str x]) H:=by
 simp only [j7,L2.start,zo,zF,tOp,ze,tC,zc,zk,jM,tCB,Wx,QO,JE,Zq,rNe,za9,QP,yR,List.map,List.replicate,List.length,List.append,jqa,jqb,jqc,jqd,jqe,jqf,jqg,jqh,jqi,jqj,jqk,jql,jqm,jqn,and_true,true_and,and_assoc,jqo,jqp,jqq,Nat.reduceSub,Nat.reduceAdd,jqr,jqs,jqt,Int.reduceToNat,Int.reducePow,Int.reduceNeg,Int.reduceMul,Int.reduceAdd,if_true,ite_true,jqu,ite_false,if_false]
 refine yu (fun c D hD=>?_) fun c=>?_
 ·refine VS (J:=Its x) x.cps.size (by show x.length≤_;lia) (fun τ=>∃ o,τ=[o]) (fun i v=>∃ c,x.cps[i]?=some c∧v=.bl (inF c)) ⟨_,rfl⟩ (fun i H _ h=>h) (fun H _=>Nat.le_refl _) hD ?_ ?_
  ·rintro i v τ H2 H' ⟨o,rfl⟩ hS hi ⟨rfl,c,hc,rfl⟩
   exact ⟨_,rfl,_,rfl,⟨_,rfl⟩,⟨c,hc,rfl⟩,Same.refl _⟩
  ·intro ys H' hl hv hS hq
   refine ⟨x.cps.toList.map inF,SqL.of (by rw [← zbv hl hv];exact hq),?_⟩
   have e:jN x=(x.cps.toList.map inF).all id:=by
    unfold jN
    rw [decide_eq_false c,List.all_map];rfl
   rw [← e]
   exact q _ hS
 ·have e:jN x=false:=by
   unfold jN
   rw [decide_eq_true (Classical.not_not.mp c)];rfl
  rw [e] at q
  exact q _ (Same.refl H)
theorem zaG {x:Str} (hx:x.length≤20000) (q:∀ H',Same H H'→Q (.bl (xb x)) H'):(y9 x).length≤sizeLine∧if 31 < ((y9 x).length:Int) then Q (V.bl false) H else
   (y9 x).length≤20000∧∀ H',Same H H'→if jN (y9 x)=false then Q (V.bl false) H' else
    ∃ n,intText? x=some n∧x.length≤640∧((∀ H2,Same H' H2→if inW n=true then inW n=true∧∀ H3,Same H2 H3→Q (V.bl (decide (v7 n=x))) H3 else Q (V.bl false) H2) ∨
     zaE K H' (V.int n)∧∀ H2,Same H' H2→Q (V.bl false) H2):=by
 have h1:=VU x
 have h2:=qT x
 refine ⟨zj (by lia),yu (fun c=>?_) fun c=>⟨by lia,fun H' s=>yu (fun f=>?_) fun f=>?_⟩⟩
 ·have e:xb x=false:=by unfold xb;rw [decide_eq_true (by lia:31 < (y9 x).length)];rfl
  rw [e] at q;exact q _ (Same.refl H)
 ·have e:xb x=false:=by unfold xb;rw [f];simp
  rw [e] at q;exact q _ s
 ·have f':jN (y9 x)=true:=by simpa using f
  have en:xb x=(inW (wV x) && decide (v7 (wV x)=x)):=by
   unfold xb
   rw [f',decide_eq_false (by lia:¬ 31 < (y9 x).length)];rfl
  refine ⟨_,Xq f' (by lia),by lia,.inl fun H2 s2=>yu (fun w=>⟨w,fun H3 s3=>?_⟩) fun w=>?_⟩
  ·rw [w,Bool.true_and] at en
   rw [en] at q
   exact q _ (s.trans (s2.trans s3))
  ·rw [Bool.eq_false_iff.mpr w,Bool.false_and] at en
   rw [en] at q
   exact q _ (s.trans s2)
theorem XC {x:Str} (hx:x.length≤20000) (q:∀ H',Same H H'→Q (.bl (xb x)) H') :
  j8 K t { nx:=fun _ H'=>Q .non H',rt:=Q } (L2.start ["text","figures","worth"] [.str x]) H:=by
 simp only [j8,jX,qp,Zw,L2.start,zq,zI,zo,zF,zx,tOp,ze,tC,zc,zk,zE,tOr,vd,zp,tB,jM,tIf,tCB,tBM,tyV,tSl,z8,zP,zC,yU,rEq,rI0,ZS,z0,QQ,vO,yR,List.map,List.replicate,List.length,List.append,jqa,jqb,jqc,jqd,jqe,jqf,jqg,jqh,jqi,jqj,jqk,jql,jqm,jqn,and_true,true_and,and_assoc,jqo,jqp,jqq,Nat.reduceSub,Nat.reduceAdd,jqr,jqs,jqt,Int.reduceToNat,Int.reducePow,Int.reduceNeg,Int.reduceMul,Int.reduceAdd,if_true,ite_true,jqu,ite_false,if_false]
 have r:=zaG (K:=K) hx q
 unfold y9 at r
 rw [Qe]
 have e1:(Str.ofString "-").cps.toList=[45]:=by decide +kernel
 have e2:(Str.ofString "-").length=1:=by decide +kernel
 rw [e1,e2]
 by_cases c:(x.cps.toList.take 1 == [45])=true
 ·simp only [if_pos c] at r ⊢
  exact ⟨zj (by lia),r⟩
 ·simp only [if_neg c] at r ⊢
  exact r
theorem Vj {x:Str} {E:XK} (hx:x.length≤20000) (ha:Asc x) (q:∀ H',Same H H'→if xb x=true then Q (.int (wV x)) H' else E (.ref t.c_NoNumber) none H') :
  qH K t E { nx:=fun _ H'=>Q .non H',rt:=Q } (L2.start ["text"] [.str x]) H:=by
 simp only [qH,wz,L2.start,kz,VP,zq,zF,zx,ze,zc,zk,zE,vd,tB,tCB,zC,QQ,List.map,List.replicate,List.length,List.append,jqa,jqb,jqc,jqd,jqe,jqf,jqg,jqh,jqi,jqj,jqk,jql,jqm,jqn,and_true,true_and,and_assoc,jqo,jqp,jqq,Nat.reduceSub,Nat.reduceAdd,jqr,jqs,jqt,Int.reduceToNat,Int.reducePow,Int.reduceNeg,Int.reduceMul,Int.reduceAdd,if_true,ite_true,jqu,ite_false,if_false]
 refine ⟨hx,fun H' s=>?_⟩
 have q:=q H' s
 by_cases hn:xb x=true
 ·rw [if_neg (by rw [hn];decide)]
  rw [if_pos hn] at q
  unfold xb at hn
  rw [Bool.and_eq_true,Bool.not_eq_true',Bool.or_eq_false_iff,decide_eq_false_iff_not] at hn
  have h2:=qT x
  have hf:jN (y9 x)=true:=by simpa using hn.1.2
  exact ⟨_,Xq hf (by lia),by lia,q⟩
 ·rw [if_neg hn] at q
  rw [if_pos (by simpa using hn)]
  exact ⟨by lia,ha,fun y=>⟨by decide,q⟩⟩
theorem dB {i j:Int} (h0:0 < j:=by decide) (h1:j < 10000000000000000000000000000000000000000000000:=by decide):vH i j:=by
 have hb:(10000000000000000000000000000000000000000000000:Int) < big:=by decide +kernel
 exact ⟨h0,by lia⟩
theorem KI {α:Type} {xs:List α} {i:Int} (h0:0≤i) (h1:i < xs.length):∃ x,atI xs i=some x∧x∈xs:=by
 obtain ⟨n,rfl⟩:∃ n:Nat,i=(n:Int):=⟨i.toNat,by lia⟩
 have hn:n < xs.length:=by lia
 refine ⟨xs[n],?_,List.getElem_mem hn⟩
 unfold atI ixN
 rw [if_pos h0,if_pos h1]
 simp [hn]
theorem Vk {α:Type} {xs:List α} (e:Int) (n:Nat) (hl:xs.length=n) (hn:0 < (n:Int)):∃ x,atI xs (e % n)=some x∧x∈xs :=
 KI (Int.emod_nonneg _ (by lia)) (by rw [hl];exact Int.emod_lt_of_pos _ hn)
theorem Jg {x:Str} (h:6 < x.length):zZ x=false:=by
 unfold zZ
 rw [decide_eq_true h]
 simp
theorem Jh {x:Str} (hx:x.length≤20000) (hJ:∀ H,SqT K H t.c_JOINING jw) (hR:∀ H,SqT K H t.c_ROW_WORDS wl) (q:∀ H',Same H H'→Q (.bl (zZ x)) H') :
  Zy K t { nx:=fun _ H'=>Q .non H',rt:=Q } (L2.start ["text"] [.str x]) H:=by
 simp only [Zy,L2.start,zq,zo,zF,zx,tOp,ze,tC,zc,zk,zE,tOr,zp,tCB,Wx,QO,JE,yU,Zq,rEq,rI0,rIn,za9,z0,QP,yR,List.map,List.replicate,List.length,List.append,jqa,jqb,jqc,jqd,jqe,jqf,jqg,jqh,jqi,jqj,jqk,jql,jqm,jqn,and_true,true_and,and_assoc,jqo,jqp,jqq,Nat.reduceSub,Nat.reduceAdd,jqr,jqs,jqt,Int.reduceToNat,Int.reducePow,Int.reduceNeg,Int.reduceMul,Int.reduceAdd,if_true,ite_true,jqu,ite_false,if_false]
 refine yu (fun e=>?_) fun e0=>⟨zj (by lia),yu (fun e=>?_) fun e6=>⟨_,.inr (hJ H),rfl,rfl,yu (fun e=>?_) fun eJ=>⟨_,.inr (hR H),rfl,rfl,yu (fun e=>?_) fun eR D hD=>?_⟩⟩⟩
 ·rw [show zZ x=false by rw [e];decide +kernel] at q
  exact q _ (Same.refl H)
 ·rw [Jg (by lia)] at q
  exact q _ (Same.refl H)
 ·rw [show zZ x=false by unfold zZ;rw [e];simp] at q
  exact q _ (Same.refl H)
 ·rw [show zZ x=false by unfold zZ;rw [e];simp] at q
  exact q _ (Same.refl H)
 have en:zZ x=x.cps.toList.all inL:=by
  unfold zZ
  rw [decide_eq_false e0,decide_eq_false (by lia:¬ 6 < x.length),Bool.eq_false_iff.mpr eJ,Bool.eq_false_iff.mpr eR]
  simp
 refine VS (J:=Its x) x.cps.size (by show x.length≤_;lia) (fun τ=>∃ o,τ=[o]) (fun i v=>∃ c,x.cps[i]?=some c∧v=.bl (inL c)) ⟨_,rfl⟩ (fun i H _ h=>h) (fun H _=>Nat.le_refl _) hD ?_ ?_
 ·rintro i v τ H2 H' ⟨o,rfl⟩ hS hi ⟨rfl,c,hc,rfl⟩
  exact ⟨_,rfl,_,rfl,⟨_,rfl⟩,⟨c,hc,rfl⟩,Same.refl _⟩
 ·intro ys H' hl hv hS hq
  have ey:ys=(x.cps.toList.map inL).map V.bl:=by
   apply List.ext_getElem?
   intro i
   by_cases hi:i < ys.length
   ·obtain ⟨c,hc,e⟩:=hv i ys[i] (List.getElem?_eq_getElem hi)
    rw [List.getElem?_eq_getElem hi,e,List.getElem?_map,List.getElem?_map]
    have hc':x.cps.toList[i]?=some c:=by simpa using hc
    rw [hc'];rfl
   ·rw [List.getElem?_eq_none (by lia),List.getElem?_eq_none]
    rw [List.length_map,List.length_map]
    have:x.cps.toList.length=x.cps.size:=by simp
    lia
  refine ⟨x.cps.toList.map inL,SqL.of (by rw [← ey];exact hq),?_⟩
  rw [List.all_map,show (id ∘ inL)=inL from rfl,← en]
  exact q _ hS
theorem YB {a:Addr} {ns:List Int} {k:Nat} (hS:SqL K H a (ns.map V.int)) (hl:ns.length≤63) (q:∀ c H',Same H H'→Q (.int c) H') :
  vX K t { nx:=fun _ H'=>Q .non H',rt:=Q } (L2.start ["script","k"] [.ref a,.int k]) H:=by
 simp only [vX,L2.start,zq,zF,zx,tOp,ze,tC,zc,zk,zE,zp,tCB,yU,yC,rI0,z0,List.map,List.replicate,List.length,List.append,jqa,jqb,jqc,jqd,jqe,jqf,jqg,jqh,jqi,jqj,jqk,jql,jqm,jqn,and_true,true_and,and_assoc,jqo,jqp,jqq,Nat.reduceSub,Nat.reduceAdd,jqr,jqs,jqt,Int.reduceToNat,Int.reducePow,Int.reduceNeg,Int.reduceMul,Int.reduceAdd,if_true,ite_true,jqu,ite_false,if_false]
 refine ⟨_,.inl ⟨_,hS,rfl⟩,yu (fun c=>?_) fun _=>q _ _ (Same.refl H)⟩
 obtain ⟨v,hv,hm⟩:=KI (xs:=ns.map V.int) (i:=(k:Int)) (by lia) c
 obtain ⟨i,_,rfl⟩:=List.mem_map.mp hm
 exact ⟨_,hS,_,hv,q _ _ (Same.refl H)⟩
theorem zbw:(Str.ofString "abcdefghijklmnopqrstuvwxyz").cps.toList.length=26:=by decide +kernel
theorem Vl (c:Nat):({ cps:=#[c] }:Str).length=1:=rfl
theorem Z9 {xs:List V} {y:V}:(xs ++ [y])[(xs ++ [y]).length - 1]?=some y:=by simp
theorem kl {xs:List V} {y:V}:(xs ++ [y]).dropLast=xs:=by simp
theorem yO {H H':Hp} {w:Addr} {o:HO} (s:Same H H') (hw:H w=none):Same H (upd H' w o):=fun b u e=>by rw [zw (zS e hw)];exact s b u e
theorem zaH {α:Type} {l:List α} (h:1 < l.length):∃ r a b,l=r ++ [a,b]:=by
 have h0:l≠[]:=fun z=>by rw [z] at h;simp at h
 have e:=List.dropLast_concat_getLast h0
 have h1:l.dropLast≠[]:=fun z=>by rw [z] at e;rw [← e] at h;simp at h
 have e1:=List.dropLast_concat_getLast h1
 have e2:l.dropLast ++ [l.getLast h0]=(l.dropLast.dropLast ++ [l.dropLast.getLast h1]) ++ [l.getLast h0]:=by rw [e1]
 exact ⟨l.dropLast.dropLast,l.dropLast.getLast h1,l.getLast h0,e.symm.trans (e2.trans (by simp))⟩
theorem Ji {x:Str} {E:XK} (hx:x.length≤20000) (ha:Asc x) (q:∀ H',Same H H'→(match wW x with | some v=>Q v H' | none=>E (.ref t.c_NoTerm) none H')) :
  ZA K t E { nx:=fun _ H'=>Q .non H',rt:=Q } (L2.start ["word"] [.str x]) H:=by
 simp only [ZA,ju,wz,qq,L2.start,kz,VP,zq,zF,zx,ze,zc,zk,zE,tB,zC,List.map,List.replicate,List.length,List.append,jqa,jqb,jqc,jqd,jqe,jqf,jqg,jqh,jqi,jqj,jqk,jql,jqm,jqn,and_true,true_and,and_assoc,jqo,jqp,jqq,Nat.reduceSub,Nat.reduceAdd,jqr,jqs,jqt,Int.reduceToNat,Int.reducePow,Int.reduceNeg,Int.reduceMul,Int.reduceAdd,if_true,ite_true,jqu,ite_false,if_false]
 unfold wW at q
 refine ⟨hx,fun H1 s1=>yu (fun c=>?_) fun c=>⟨hx,fun H2 s2=>yu (fun d=>⟨hx,ha,fun H3 s3=>?_⟩) fun d=>⟨by lia,ha,fun y=>⟨by decide,?_⟩⟩⟩⟩
 ·have q:=q H1 s1
  rw [if_pos c] at q
  exact q
 ·have q:=q H3 (s1.trans (s2.trans s3))
  rw [if_neg c,if_pos d] at q
  rw [if_pos d]
  exact q
 ·have q:=q H2 (s1.trans s2)
  rw [if_neg c,if_neg d] at q
  exact q
theorem ka {xs:List V} {n:Nat} {v:V} (h:xs[n]?=some v):atI xs (n:Int)=some v:=za4 h
theorem WF (l:List Str):yA l 0=some 0:=by cases l <;> (unfold yA;rfl)
theorem zaI {l:List Str} {d n:Nat} (h:yA l (d + 1)=some n):1≤n:=by
 cases l with
 | nil=>unfold yA at h;cases h
 | cons w r =>
  unfold yA at h
  obtain ⟨m,_,rfl⟩:=Option.map_eq_some_iff.mp h
  show 1≤m + 1
  lia
theorem Qo {ws:List Str} {k i d:Nat} {w:Str} {R:Option Nat} (h:R=(yA (ws.drop (k + i)) (d + 1)).map (· + i)) (hw:ws[k + i]?=some w):R=(yA (ws.drop (k + (i + 1))) (if isJ (.str w)=true then d + 2 else d)).map (· + (i + 1)):=by
 have hi:=(List.getElem?_eq_some_iff.mp hw).1
 have hv:=(List.getElem?_eq_some_iff.mp hw).2
 rw [h,List.drop_eq_getElem_cons hi,hv]
 show ((yA (ws.drop (k + i + 1)) (if isJ (.str w)=true then d + 2 else d)).map (· + 1)).map (· + i)=_
 rw [Option.map_map]
 exact congrArg (fun f=>Option.map f (yA (ws.drop (k + (i + 1))) (if isJ (.str w)=true then d + 2 else d))) (funext fun n=>by show n + 1 + i=n + (i + 1);lia)
def bhI (a:Addr) (ws:List Str) (k:Nat) (H:Hp) (m:Nat) (σ:St) (H':Hp):Prop:=∃ i d:Nat,σ=[some (.ref a),some (.int (k:Int)),some (.int (d:Int)),some (.int ((k + i:Nat):Int))]∧i + m=61∧i≤60∧yA (ws.drop k) 1=(yA (ws.drop (k + i)) d).map (· + i)∧H'=H
theorem YX {E:XK} {a:Addr} {ws:List Str} {k:Nat} (hJ:∀ H:Hp,SqT K H t.c_JOINING jw) (h1:H a=some (.lst (ws.map V.str))) (h2:ws.length≤1000) (q:∀ H',Same H H'→zcQ t.c_NoTerm (yA (ws.drop k) 1) k Q E H') :
  jG K t E { nx:=fun _ H'=>Q .non H',rt:=Q } (L2.start ["words","at","due","place"] [.ref a,.int k]) H:=by
 simp only [jG,Jv,L2.start,kz,zq,zI,zo,zF,zx,tOp,ze,tC,zc,zk,zE,zp,tIf,tCB,qc,ipI,yU,yC,rEq,rI0,rIn,z0,yR,List.map,List.replicate,List.length,List.append,jqa,jqb,jqc,jqd,jqe,jqf,jqg,jqh,jqi,jqj,jqk,jql,jqm,jqn,and_true,true_and,and_assoc,jqo,jqp,jqq,Nat.reduceSub,Nat.reduceAdd,jqr,jqs,jqt,Int.reduceToNat,Int.reducePow,Int.reduceNeg,Int.reduceMul,Int.reduceAdd,if_true,ite_true,jqu,ite_false,if_false]
 have q:=q H (Same.refl H)
 refine ⟨bhI a ws k H,⟨61,0,1,rfl,rfl,by lia,by simp,rfl⟩,?_⟩
 rintro m σ H1 ⟨i,d,rfl,hm,hi,hsc,rfl⟩
 simp only [L2.start,kz,zq,zI,zo,zF,zx,tOp,ze,tC,zc,zk,zE,zp,tIf,tCB,qc,ipI,yU,yC,rEq,rI0,rIn,z0,yR,List.map,List.replicate,List.length,List.append,jqa,jqb,jqc,jqd,jqe,jqf,jqg,jqh,jqi,jqj,jqk,jql,jqm,jqn,and_true,true_and,and_assoc,jqo,jqp,jqq,Nat.reduceSub,Nat.reduceAdd,jqr,jqs,jqt,Int.reduceToNat,Int.reducePow,Int.reduceNeg,Int.reduceMul,Int.reduceAdd,if_true,ite_true,jqu,ite_false,if_false]
 refine yu (fun c=>?_) fun c=>?_
 ·obtain ⟨d,rfl⟩:∃ d0,d=d0 + 1:=⟨d - 1,by lia⟩
  refine ⟨bhI a ws k _ (m - 1),fun σ' H' z=>⟨m - 1,by lia,z⟩,ws.length,.inl ⟨_,SqL.of h1,by rw [List.length_map]⟩,yu (fun e=>⟨by decide,?_⟩) fun e=>yu (fun e2=>⟨by decide,?_⟩) fun e2=>?_⟩
  ·have e0:ws.drop (k + i)=[]:=List.drop_eq_nil_of_le (by lia)
   rw [e0] at hsc
   have hsc:yA (ws.drop k) 1=none:=hsc
   rw [hsc] at q
   exact q
  ·cases hs:yA (ws.drop (k + i)) (d + 1) with
   | none =>
    rw [hs] at hsc
    rw [hsc] at q
    exact q
   | some n =>
    have:=zaI hs
    rw [hs] at hsc
    rw [hsc] at q
    change (if n + i≤60 then _ else _) at q
    rw [if_neg (by lia)] at q
    exact q
  ·have hlt:k + i < ws.length:=by lia
   obtain ⟨w,hw⟩:∃ w,ws[k + i]?=some w:=⟨_,List.getElem?_eq_getElem hlt⟩
   have hwV:(ws.map V.str)[k + i]?=some (V.str w):=by rw [List.getElem?_map,hw];rfl
   have st:=Qo hsc hw
   refine ⟨_,SqL.of h1,_,ka hwV,_,.inr (hJ _),rfl,rfl,yu (fun j=>?_) fun j=>?_⟩
   ·rw [if_pos (show isJ (.str w)=true from j)] at st
    refine ⟨i + 1,d + 2,?_,by lia,by lia,st,rfl⟩
    rw [show (((d + 1:Nat):Int) + 1)=((d + 2:Nat):Int) by lia,show (((k + i:Nat):Int) + 1)=((k + (i + 1):Nat):Int) by lia]
   ·rw [if_neg (show ¬ isJ (.str w)=true from j)] at st
    refine ⟨i + 1,d,?_,by lia,by lia,st,rfl⟩
    rw [show (((d + 1:Nat):Int) - 1)=((d:Nat):Int) by lia,show (((k + i:Nat):Int) + 1)=((k + (i + 1):Nat):Int) by lia]
 ·obtain rfl:d=0:=by lia
  rw [WF] at hsc
  rw [hsc] at q
  change (if 0 + i≤60 then Q (.int ((k + (0 + i):Nat):Int)) _ else _) at q
  rw [if_pos (by lia),Nat.zero_add] at q
  exact q
theorem zbx {xs:List V} {k n:Nat} (h:k + n≤xs.length):qY xs (some (k:Int)) (some ((k + n:Nat):Int))=(xs.drop k).take n:=by
 unfold qY
 have e1:HT.sIx xs.length 0 (some (k:Int))=k:=by
  show (if (k:Int) < 0 then ((k:Int) + (xs.length:Int)).toNat else min (k:Int).toNat xs.length)=k
  rw [if_neg (by lia),Int.toNat_natCast]
  lia
 have e2:HT.sIx xs.length xs.length (some ((k + n:Nat):Int))=k + n:=by
  show (if ((k + n:Nat):Int) < 0 then (((k + n:Nat):Int) + (xs.length:Int)).toNat else min ((k + n:Nat):Int).toNat xs.length)=k + n
  rw [if_neg (by lia),Int.toNat_natCast]
  lia
 rw [e1,e2,Nat.add_sub_cancel_left]
theorem Qp {l:List (List V)} {a b:List V} {w:Str} (hw:isJ (.str w)=true):wX (l ++ [b,a]) w=.ok (l ++ [a ++ b ++ [.str w]]):=by
 unfold wX
 rw [if_pos hw]
 simp
theorem Qq {st:List (List V)} {w:Str} (hw:isJ (.str w)=true) (h:st.length≤1):wX st w=.error false:=by
 unfold wX
 rw [if_pos hw]
 match st,h with
 | [],_=>rfl
 | [a],_=>rfl
 | a :: b :: r,h=>exact absurd h (by rw [List.length_cons,List.length_cons];lia)
def kZ (L:List (Addr × List V)):Nat:=(L.map fun n=>n.2.length).sum
theorem YC (a b:List (Addr × List V)):kZ (a ++ b)=kZ a + kZ b:=by unfold kZ;rw [List.map_append,List.sum_append]
theorem ZB {H:Hp} {x w:Addr} {l m:List V} (h:H x=some (.tup l)) (hw:H w=some (.lst m)):x≠w:=fun z=>by
 rw [z,hw] at h;cases h
def tfI (a w p:Addr) (seg:List Str) (k e:Nat) (H:Hp) (i:Nat) (σ:St) (H':Hp):Prop:=∃ L:List (Addr × List V),(∃ o4 o5 o6,σ=[some (.ref a),some (.int (k:Int)),some (.int (e:Int)),some (.ref w),o4,o5,o6])∧vI (seg.reverse.take i) []=.ok (L.map Prod.snd)∧kZ L≤i∧L.length≤i∧(∀ n∈L,n.2≠[]∧H' n.1=some (.tup n.2))∧H' w=some (.lst (L.map fun n=>V.ref n.1))∧H' p=some (.lst (seg.map V.str))∧Same H H'
theorem zaJ {ws:List Str} {k n:Nat} (h:yA (ws.drop k) 1=some n) (hn:n≤60):yk ws k=match vI ((ws.drop k).take n).reverse [] with | .ok [ps]=>some (ps,k + n) | _=>none:=by
 unfold yk
 rw [h]
 exact if_pos hn
theorem X9 {E:XK} {a:Addr} {ws:List Str} {k:Nat} (hJ:∀ H:Hp,SqT K H t.c_JOINING jw) (h1:H a=some (.lst (ws.map V.str))) (h2:ws.length≤1000) (h3:vb ws)
  (q:(∃ ps e,yk ws k=some (ps,e)∧∀ H' p r,Same H H'→H' p=some (.tup [.ref r,.int (e:Nat)])→H' r=some (.tup ps)→Q (.ref p) H')∨(yk ws k=none∧∀ H',Same H H'→E (.ref t.c_NoTerm) none H')) :
  kO K t E { nx:=fun _ H'=>Q .non H',rt:=Q } (L2.start ["words","at","behind","parts","word","first","second"] [.ref a,.int k]) H:=by
 simp only [kO,jv,Zx,L2.start,Qh,zO,wy,xx,JC,Xi,zq,zI,zo,zF,yq,tOp,ze,tC,zW,xm,zc,zk,xP,zE,zp,tBM,Xk,tyV,tSl,z8,zC,rIn,wd,List.map,List.replicate,List.length,List.append,jqa,jqb,jqc,jqd,jqe,jqf,jqg,jqh,jqi,jqj,jqk,jql,jqm,jqn,and_true,true_and,and_assoc,jqo,jqp,jqq,Nat.reduceSub,Nat.reduceAdd,jqr,jqs,jqt,Int.reduceToNat,Int.reducePow,Int.reduceNeg,Int.reduceMul,Int.reduceAdd,if_true,ite_true,jqu,ite_false,if_false]
 have no:∀ {H'},yk ws k=none→Same H H'→E (.ref t.c_NoTerm) none H':=fun {H'} hp s=>by
  rcases q with ⟨ps,e,hp2,_⟩ | ⟨_,q⟩
  ·rw [hp] at hp2;cases hp2
  ·exact q _ s
 refine ⟨ws,k,rfl,h1,h2,fun H1 s1=>?_⟩
 cases hs:yA (ws.drop k) 1 with
 | none=>exact no (by unfold yk;rw [hs]) s1
 | some n =>
  show (if n≤60 then _ else E (.ref t.c_NoTerm) none H1)
  refine yu (fun hn=>?_) fun hn=>no (by unfold yk;rw [hs];exact if_neg hn) s1
  obtain ⟨T,hT,hpre,hkn,hlen⟩:=kE hs
  have hpe:=zaJ hs hn
  have hps:=jr hs hn hT hpre
  have hrun:=qU hT []
  rw [← hpre] at hrun
  have hseg:∀ x∈(ws.drop k).take n,x.length≤20000∧Asc x:=fun x hx=>h3 x (List.mem_of_mem_drop (List.mem_of_mem_take hx))
  have hsl:((ws.drop k).take n).length=n:=by rw [hpre,hlen]
  have hcut:qY (ws.map V.str) (some (k:Int)) (some ((k + n:Nat):Int))=((ws.drop k).take n).map V.str:=by
   rw [zbx (by rw [List.length_map];exact hkn),List.map_take,List.map_drop]
  generalize (ws.drop k).take n=seg at *
  have err:∀ {e:Bool} {H'},vI seg.reverse []=.error e→Same H H'→E (.ref t.c_NoTerm) none H':=fun {e H'} z s=>no (by rw [hpe,z]) s
  have nstuck:vI seg.reverse []≠.error false:=fun z=>by
   rw [hrun] at z
   split at z <;> cases z
  simp only [L2.start,Qh,zO,wy,xx,JC,Xi,zq,zI,zo,zF,yq,tOp,ze,tC,zW,xm,zc,zk,xP,zE,zp,tBM,Xk,tyV,tSl,z8,zC,rIn,wd,List.map,List.replicate,List.length,List.append,jqa,jqb,jqc,jqd,jqe,jqf,jqg,jqh,jqi,jqj,jqk,jql,jqm,jqn,and_true,true_and,and_assoc,jqo,jqp,jqq,Nat.reduceSub,Nat.reduceAdd,jqr,jqs,jqt,Int.reduceToNat,Int.reducePow,Int.reduceNeg,Int.reduceMul,Int.reduceAdd,if_true,ite_true,jqu,ite_false,if_false]
  refine ⟨by decide,fun w hw=>⟨_,SqL.of (isV w hw _ _ (s1 _ _ h1)),fun p hp=>?_⟩⟩
  rw [hcut]
  have hw0:H w=none:=s1.free hw
  have hpw:w≠p:=zS zd hp
  refine ⟨_,SqL.of zd,zae (seg.map V.str) (tfI a w p seg k (k + n) H) ⟨[],⟨_,_,_,rfl⟩,by simp [vI],Nat.le_refl _,Nat.le_refl _,(fun n z=>nomatch z),by rw [zw hpw];exact zd,zd,s1.trans ((isV w hw).trans (isV p hp))⟩ (fun i σ H' ⟨_,_,_,_,_,_,_,z,_⟩=>SqL.of z) ?_ ?_⟩
  ·rintro i v σ H' hi hv ⟨L,⟨o4,o5,o6,rfl⟩,hr,hle,hL,hN,hst,hpp,hS⟩
   rw [List.length_map] at hi hv
   rw [List.getElem?_map] at hv
   obtain ⟨x,hx,rfl⟩:=Option.map_eq_some_iff.mp hv
   have hx':seg.reverse[i]?=some x:=by rw [List.getElem?_reverse hi];exact hx
   have one:=zaf hr hx'
   have okx:=hseg x (List.mem_of_getElem? hx)
   simp only [L2.start,Qh,zO,wy,xx,JC,Xi,zq,zI,zo,zF,yq,tOp,ze,tC,zW,xm,zc,zk,xP,zE,zp,tBM,Xk,tyV,tSl,z8,zC,rIn,wd,List.map,List.replicate,List.length,List.append,jqa,jqb,jqc,jqd,jqe,jqf,jqg,jqh,jqi,jqj,jqk,jql,jqm,jqn,and_true,true_and,and_assoc,jqo,jqp,jqq,Nat.reduceSub,Nat.reduceAdd,jqr,jqs,jqt,Int.reduceToNat,Int.reducePow,Int.reduceNeg,Int.reduceMul,Int.reduceAdd,if_true,ite_true,jqu,ite_false,if_false]
   refine ⟨jw,.inr (hJ _),rfl,rfl,yu (fun c=>?_) fun c=>?_⟩
   ·have hj:isJ (.str x)=true:=c
    rcases Nat.lt_or_ge 1 L.length with h2l | h2l
    ·obtain ⟨L0,nb,na,rfl⟩:=zaH h2l
     have e1:(L0 ++ [nb,na]).map (fun n=>V.ref n.1)=(L0.map (fun n=>V.ref n.1) ++ [.ref nb.1]) ++ [.ref na.1]:=by simp
     have e2:(L0 ++ [nb,na]).map Prod.snd=L0.map Prod.snd ++ [nb.2,na.2]:=by simp
     have nA:=hN na (by simp)
     have nB:=hN nb (by simp)
     have aw:=ZB nA.2 hst
     have bw:=ZB nB.2 hst
     rw [e2] at one
     have one:=one.trans (Qp hj)
     rw [e1] at hst
     have l3:L0.length + 2=(L0 ++ [nb,na]).length:=by simp
     have lp:kZ (L0 ++ [nb,na])=kZ L0 + (nb.2.length + na.2.length):=by rw [YC];simp [kZ]
     refine ⟨.inl ⟨_,SqL.of hst⟩,_,hst,_,Z9,.inl ⟨_,SqL.of zd⟩,_,by rw [kl];exact zd,_,Z9,.inl ⟨_,SqL.of zd⟩,?_⟩
     rw [kl,kl]
     obtain ⟨H2,eH,g1,g2⟩:∃ H2,H2=upd (upd H' w (.lst (L0.map (fun n=>V.ref n.1) ++ [.ref nb.1]))) w (.lst (L0.map (fun n=>V.ref n.1)))∧H2 w=some (.lst (L0.map (fun n=>V.ref n.1)))∧∀ b,b≠w→H2 b=H' b:=⟨_,rfl,zd,fun b hb=>by rw [zw hb,zw hb]⟩
     have S2:Same H H2:=by rw [eH];exact yO (yO hS hw0) hw0
     rw [← eH]
     clear eH
     refine ⟨na.1,rfl,nb.1,rfl,_,SqT.of ((g2 _ aw).trans nA.2),_,SqT.of ((g2 _ bw).trans nB.2),nA.1,zj (by lia),fun z=>absurd z nB.1,fun _ p1 hp1=>⟨by decide,?_⟩⟩
     obtain ⟨H3,eH,s3,q3⟩:=Y4 (o:=HO.tup (na.2 ++ nb.2)) hp1
     rw [← eH]
     clear eH
     intro p2 hp2
     obtain ⟨H4,eH,s4,q4⟩:=Y4 (o:=HO.tup [V.str x]) hp2
     rw [← eH]
     clear eH
     refine ⟨_,SqT.of (s4 _ _ q3),_,SqT.of q4,(fun z=>nA.1 (List.append_eq_nil_iff.mp z).1),zj (by rw [List.length_append];show _ + 1≤_;lia),fun z=>(by cases z),fun _ p3 hp3=>?_⟩
     obtain ⟨H5,eH,s5,q5⟩:=Y4 (o:=HO.tup (na.2 ++ nb.2 ++ [V.str x])) hp3
     rw [← eH]
     clear eH
     have S25:=s3.trans (s4.trans s5)
     have pw:p3≠w:=ZB q5 (S25 _ _ g1)
     refine ⟨_,S25 _ _ g1,?_,L0 ++ [(p3,na.2 ++ nb.2 ++ [V.str x])],⟨_,_,_,rfl⟩,by rw [one];simp,?_,by simp;lia,fun m hm=>?_,by rw [zd];simp,?_,yO (S2.trans S25) hw0⟩
     ·rw [List.length_map]
      exact Nat.lt_of_le_of_lt (by lia:L0.length≤1000) (by decide)
     ·rw [YC]
      have:kZ [(p3,na.2 ++ nb.2 ++ [V.str x])]=na.2.length + nb.2.length + 1:=by simp [kZ];lia
      lia
     ·rcases List.mem_append.mp hm with h | h
      ·have hm':=hN m (List.mem_append_left _ h)
       have mw:=ZB hm'.2 hst
       exact ⟨hm'.1,by rw [zw mw];exact S25 _ _ ((g2 _ mw).trans hm'.2)⟩
      ·have:m=(p3,na.2 ++ nb.2 ++ [V.str x]):=by simpa using h
       rw [this]
       exact ⟨by simp,by rw [zw pw];exact q5⟩
     ·rw [zw hpw.symm]
      exact S25 _ _ ((g2 _ hpw.symm).trans hpp)
    ·exact absurd (VY (one.trans (Qq hj (by rw [List.length_map];exact h2l)))) nstuck
   ·have hj:¬ isJ (.str x)=true:=c
    refine ⟨.inl ⟨_,SqL.of hst⟩,by lia,okx.2,fun H2 s2=>?_⟩
    cases hp:wW x with
    | none =>
     have se:wX (L.map Prod.snd) x=.error true:=by
      unfold wX
      rw [if_neg hj,hp]
     exact err (VY (one.trans se)) (hS.trans s2)
    | some v =>
     have se:wX (L.map Prod.snd) x=.ok (L.map Prod.snd ++ [[v]]):=by
      unfold wX
      rw [if_neg hj,hp]
     have one:=one.trans se
     refine ⟨by decide,fun p1 hp1=>?_⟩
     obtain ⟨H3,eH,s3,q3⟩:=Y4 (o:=HO.tup [v]) hp1
     rw [← eH]
     clear eH
     have S23:=s2.trans s3
     have pw:p1≠w:=ZB q3 (S23 _ _ hst)
     refine ⟨_,S23 _ _ hst,?_,L ++ [(p1,[v])],⟨_,_,_,rfl⟩,by rw [one];simp,?_,by simp;lia,fun m hm=>?_,by rw [zd];simp,?_,yO (hS.trans S23) hw0⟩
     ·rw [List.length_map]
      exact Nat.lt_of_le_of_lt (by lia:L.length≤1000) (by decide)
     ·rw [YC]
      have:kZ [(p1,[v])]=1:=by simp [kZ]
      lia
     ·rcases List.mem_append.mp hm with h | h
      ·have hm':=hN m h
       have mw:=ZB hm'.2 hst
       exact ⟨hm'.1,by rw [zw mw];exact S23 _ _ hm'.2⟩
      ·have:m=(p1,[v]):=by simpa using h
       rw [this]
       exact ⟨by simp,by rw [zw pw];exact q3⟩
     ·rw [zw hpw.symm]
      exact S23 _ _ hpp
  ·rintro σ H' ⟨L,⟨o4,o5,o6,rfl⟩,hr,hle,hL,hN,hst,hpp,hS⟩
   rw [List.take_of_length_le (by simp)] at hr
   simp only [L2.start,Qh,zO,wy,xx,JC,Xi,zq,zI,zo,zF,yq,tOp,ze,tC,zW,xm,zc,zk,xP,zE,zp,tBM,Xk,tyV,tSl,z8,zC,rIn,wd,List.map,List.replicate,List.length,List.append,jqa,jqb,jqc,jqd,jqe,jqf,jqg,jqh,jqi,jqj,jqk,jql,jqm,jqn,and_true,true_and,and_assoc,jqo,jqp,jqq,Nat.reduceSub,Nat.reduceAdd,jqr,jqs,jqt,Int.reduceToNat,Int.reducePow,Int.reduceNeg,Int.reduceMul,Int.reduceAdd,if_true,ite_true,jqu,ite_false,if_false]
   rw [hrun] at hr
   by_cases hok:okT T=true
   ·rw [if_pos hok] at hr hps
    have e:L.map Prod.snd=[pst T]:=by injection hr with hr;exact hr.symm
    obtain ⟨n1,rfl⟩:∃ n1,L=[n1]:=List.length_eq_one_iff.mp (by have:=congrArg List.length e;simpa using this)
    have e1:n1.2=pst T:=by simpa using e
    have nA:=hN n1 (by simp)
    have nw:=ZB nA.2 hst
    rcases q with ⟨ps,e,hp2,q⟩ | ⟨hp2,_⟩
    ·rw [hps] at hp2
     cases hp2
     refine ⟨.inl ⟨_,SqL.of hst⟩,_,hst,_,rfl,by decide,fun p1 hp1=>?_⟩
     have S2:Same H (upd H' w (.lst [])):=yO hS hw0
     refine q _ p1 n1.1 (S2.trans (isV p1 hp1)) zd (isV p1 hp1 _ _ ?_)
     rw [zw nw,nA.2,e1]
    ·rw [hps] at hp2;cases hp2
   ·rw [if_neg hok] at hr;cases hr
theorem q_cps:(Str.ofString "q").cps.toList=[113]∧(Str.ofString "q").length=1:=by decide +kernel
theorem wB {H H':Hp} {D:Addr} (s:Same H H') (h:H' D=none):H D=none:=by
 cases e:H D with
 | none=>rfl
 | some o=>rw [s _ _ e] at h;cases h
theorem qL {H1:Hp} {R b:Addr} {o:HO} (h:H1 R=some o) (hb:H1 b=none):b≠R:=fun z=>by rw [z,h] at hb;cases hb
theorem wrF {P:Str→Option Value} (T:Txt K P t):WrF K t:=⟨T.cl_RowWords,T.na_RowWords_words,T.na_RowWords_number,T.na_RowWords_at⟩
theorem rdF {P:Str→Option Value} (T:Txt K P t):RdF K t:=⟨T.cl_Reading,T.na_Reading_rows,T.na_Reading_blocks,T.na_Reading_turned⟩
theorem SameX.refl (x:Addr) (H:Hp):SameX x H H:=fun _ _ _ e=>e
theorem SameX.trans {x:Addr} {H1 H2 H3:Hp} (a:SameX x H1 H2) (b:SameX x H2 H3):SameX x H1 H3:=fun c o n e=>b c o n (a c o n e)
theorem sx {x:Addr} {H H':Hp} (s:Same H H'):SameX x H H':=fun b o _ e=>s b o e
theorem SameX.upd {x:Addr} {H H':Hp} {o:HO} (s:SameX x H H'):SameX x H (upd H' x o):=fun b u n e=>by rw [zw n];exact s b u n e
theorem SameX.same {x:Addr} {H0 H H':Hp} (s:SameX x H H') (s0:Same H0 H) (f:H0 x=none):Same H0 H':=fun b u e=>s b u (zS e f) (s0 b u e)
theorem WrAt.same {H H':Hp} {x dx wa:Addr} {ws:List Str} {n:Int} {k:Nat} (W:WrAt t H x dx wa ws n k) (s:Same H H'):WrAt t H' x dx wa ws n k:=⟨s _ _ W.ix,s _ _ W.hw⟩
theorem WrAt.ne {H:Hp} {x dx wa:Addr} {ws:List Str} {n:Int} {k:Nat} (W:WrAt t H x dx wa ws n k):wa≠x:=jk W.hw W.ix (fun z=>nomatch z)
theorem WrAt.put {H:Hp} {x dx wa:Addr} {ws:List Str} {n:Int} {k:Nat} (W:WrAt t H x dx wa ws n k) (j:Nat):WrAt t (upd H x (.ins t.c_RowWords dx [("words",.ref wa),("number",.int n),("at",.int j)])) x dx wa ws n j:=⟨zd,by rw [zw W.ne];exact W.hw⟩
theorem Ya {x wa:Addr} {n:Int} {dx:Addr} {ws:List Str} (F:WrF K t) (h1:H x=some (.ins t.c_RowWords dx [])) (h2:H wa=some (.lst (List.map V.str ws))) (q:∀ H',SameX x H H'→WrAt t H' x dx wa ws n 0→Q .non H') :
  vC K t { nx:=fun _ H'=>Q .non H',rt:=Q } (L2.start ["self","words","number"] [.ref x,.ref wa,.int n]) H:=by
 simp only [vC,YS,xq,L2.start,zq,ze,tC,List.map,List.replicate,List.length,List.append,jqa,jqb,jqc,jqd,jqe,jqf,jqg,jqh,jqi,jqj,jqk,jql,jqm,jqn,and_true,true_and,and_assoc,jqo,jqp,jqq,Nat.reduceSub,Nat.reduceAdd,jqr,jqs,jqt,Int.reduceToNat,Int.reducePow,Int.reduceNeg,Int.reduceMul,Int.reduceAdd,if_true,ite_true,jqu,ite_false,if_false]
 have ne:wa≠x:=jk h2 h1 (fun z=>nomatch z)
 refine ⟨_,_,_,h1,F.cl,F.n1,by decide,_,_,_,zd,F.cl,F.n2,(by simp [xq]),_,_,_,zd,F.cl,F.n3,(by simp [xq];split <;> simp),q _ (SameX.upd (SameX.upd (SameX.upd (SameX.refl x H)))) ⟨zd,?_⟩⟩
 rw [zw ne,zw ne,zw ne];exact h2
theorem zby (T:Tw):1≤(pre T).length:=by cases T <;> simp [pre]
theorem Vm {A B:List Str} {n i:Nat} (h:n=A.length + i):(A ++ B)[n]?=B[i]?:=by subst h;rw [List.getElem?_append_right (by lia)];congr 1;lia
theorem Hd.w_ne (hd:Hd):hd.words≠[]:=by cases hd <;> simp [Hd.words]
theorem Vn {x:Addr} {H H':Hp} {b:Addr} {o:HO} (s:SameX x H H') (hx:H' x=some o) (hb:H' b=none):H b=none:=by
 cases e:H b with
 | none=>rfl
 | some u =>
  by_cases n:b=x
  ·rw [n,hx] at hb;cases hb
  ·rw [s b u n e] at hb;cases hb
theorem zbL:Str.ofString " "=wY:=by decide +kernel
theorem XD:Str.ofString "\n"=Vf:=by decide +kernel
theorem HdAt.to {F G:Addr→Prop} {H H':Hp} {v:V} {hd:Hd} (g:∀ b,F b→G b) (s:Same H H') (h:HdAt F H v hd):HdAt G H' v hd:=by
 cases hd with
 | take sh T sl =>
  obtain ⟨r,te,e,e1,e2⟩:=h
  exact ⟨r,te,e,s _ _ e1,s _ _ e2⟩
 | give sh T U =>
  obtain ⟨r,te,tf,e,e1,e2,e3⟩:=h
  exact ⟨r,te,tf,e,s _ _ e1,s _ _ e2,s _ _ e3⟩
 | lt sl T =>
  obtain ⟨r,te,e,e1,e2⟩:=h
  exact ⟨r,te,e,s _ _ e1,s _ _ e2⟩
 | say T =>
  obtain ⟨r,te,e,e1,e2⟩:=h
  exact ⟨r,te,e,s _ _ e1,s _ _ e2⟩
 | off T =>
  obtain ⟨r,te,e,e1,e2⟩:=h
  exact ⟨r,te,e,s _ _ e1,s _ _ e2⟩
 | iff T =>
  obtain ⟨r,te,la,lb,e,e1,e2,e3,e4,f1,f2,n⟩:=h
  exact ⟨r,te,la,lb,e,s _ _ e1,s _ _ e2,s _ _ e3,s _ _ e4,g _ f1,g _ f2,n⟩
 | els =>
  obtain ⟨r,e,e1⟩:=h
  exact ⟨r,e,s _ _ e1⟩
 | nd =>
  obtain ⟨r,e,e1⟩:=h
  exact ⟨r,e,s _ _ e1⟩
theorem jH {E:XK} {H1:Hp} {k:Int} (h:ndE t E H k) (s:Same H H1):∀ d,H1 d=none→E (.ref t.c_NoDealing) (some d) (upd H1 d (.xd [("row",.int k)])):=fun d hd=>h d _ (s.trans (isV d hd)) zd
theorem ndE.mono {E:XK} {H1:Hp} {k:Int} (h:ndE t E H k) (s:Same H H1):ndE t E H1 k:=fun d H' s' e=>h d H' (s.trans s') e
theorem jI {x:Addr} {y:V} (h1:H x=some (exN x t.c_NoDealing)) (q:∀ d,H d=none→d≠x→Q .non (upd (upd H d (.xd [("row",y)])) x (exM x t.c_NoDealing d))) :
  xO K t { nx:=fun _ H'=>Q .non H',rt:=Q } (L2.start ["self","row"] [.ref x,y]) H:=by
 simp only [xO,zay,L2.start,ze,List.map,List.replicate,List.length,List.append,jqa,jqb,jqc,jqd,jqe,jqf,jqg,jqh,jqi,jqj,jqk,jql,jqm,jqn,and_true,true_and,and_assoc,jqo,jqp,jqq,Nat.reduceSub,Nat.reduceAdd,jqr,jqs,jqt,Int.reduceToNat,Int.reducePow,Int.reduceNeg,Int.reduceMul,Int.reduceAdd,if_true,ite_true,jqu,ite_false,if_false]
 exact ⟨h1,q⟩
theorem ndX.to {E:XK} {x:Addr} {H1:Hp} {k:Int} (h:ndX t E x H k) (s:SameX x H H1):ndX t E x H1 k:=fun d H' s' e=>h d H' (s.trans s') e
theorem jh {E:XK} {x:Addr} {H1:Hp} {k:Int} (h:ndX t E x H k) (s:SameX x H H1):∀ d,H1 d=none→E (.ref t.c_NoDealing) (some d) (upd H1 d (.xd [("row",.int k)])):=fun d hd=>h d _ (s.trans (sx (isV d hd))) zd
theorem kQ {x dx wa:Addr} {ws:List Str} {n:Int} {k:Nat} {E:XK} (F:WrF K t) (W:WrAt t H x dx wa ws n k) (hk:k≤ws.length) (q:(∃ w,ws[k]?=some w∧∀ H',SameX x H H'→WrAt t H' x dx wa ws n (k + 1)→Q (.str w) H')∨(ws[k]?=none∧ndX t E x H n)) :
  xJ K t E { nx:=fun _ H'=>Q .non H',rt:=Q } (L2.start ["self","word"] [.ref x]) H:=by
 simp only [xJ,Y2,za1,y8,xq,Y2,za1,yj,L2.start,zq,zI,zo,zF,zx,tOp,ze,tC,zc,zk,zE,zp,tCB,yU,yC,rEq,z0,yR,List.map,List.replicate,List.length,List.append,jqa,jqb,jqc,jqd,jqe,jqf,jqg,jqh,jqi,jqj,jqk,jql,jqm,jqn,and_true,true_and,and_assoc,jqo,jqp,jqq,Nat.reduceSub,Nat.reduceAdd,jqr,jqs,jqt,Int.reduceToNat,Int.reducePow,Int.reduceNeg,Int.reduceMul,Int.reduceAdd,if_true,ite_true,jqu,ite_false,if_false]
 refine ⟨_,_,_,W.ix,F.cl,F.n3,_,rfl,_,_,_,W.ix,F.cl,F.n1,_,rfl,ws.length,.inl ⟨_,SqL.of W.hw,(List.length_map ..).symm⟩,rfl,?_⟩
 rcases q with ⟨w,h2,q⟩ | ⟨h2,q⟩
 ·have hk:k < ws.length:=(List.getElem?_eq_some_iff.mp h2).1
  rw [if_neg (fun z=>by have:=V.int.inj z;lia)]
  refine ⟨_,_,_,W.ix,F.cl,F.n1,_,rfl,_,_,_,W.ix,F.cl,F.n3,_,rfl,?_⟩
  exact ⟨wa,rfl,_,k,rfl,SqL.of W.hw,.str w,ka (by rw [List.getElem?_map,h2];rfl),_,_,_,W.ix,F.cl,F.n3,_,rfl,_,rfl,_,_,W.ix,(by simp),q _ (SameX.upd (SameX.refl x H)) (W.put (k + 1))⟩
 ·have hl:k=ws.length:=by have:=List.getElem?_eq_none_iff.mp h2;lia
  rw [if_pos (by rw [hl])]
  exact ⟨_,_,_,W.ix,F.cl,F.n2,_,rfl,jh q (SameX.refl x H)⟩
theorem qM {x dx wa:Addr} {ws:List Str} {n:Int} {k:Nat} {E:XK} (F:WrF K t) (W:WrAt t H x dx wa ws n k) (hk:k≤ws.length) (q:(ws[k]?=some ("as":Str)∧∀ H',SameX x H H'→WrAt t H' x dx wa ws n (k + 1)→Q .non H')∨(ws[k]?≠some ("as":Str)∧ndX t E x H n)) :
  wv K t E { nx:=fun _ H'=>Q .non H',rt:=Q } (L2.start ["self"] [.ref x]) H:=by
 simp only [wv,z6,y8,yJ,yj,L2.start,zx,tOp,ze,tC,zc,zk,zE,zp,rNe,yR,List.map,List.replicate,List.length,List.append,jqa,jqb,jqc,jqd,jqe,jqf,jqg,jqh,jqi,jqj,jqk,jql,jqm,jqn,and_true,true_and,and_assoc,jqo,jqp,jqq,Nat.reduceSub,Nat.reduceAdd,jqr,jqs,jqt,Int.reduceToNat,Int.reducePow,Int.reduceNeg,Int.reduceMul,Int.reduceAdd,if_true,ite_true,jqu,ite_false,if_false]
 refine ⟨_,_,W.ix,rfl,dx,wa,ws,n,k,W,hk,?_⟩
 rcases q with ⟨h2,q⟩ | ⟨h2,q⟩
 ·refine .inl ⟨_,h2,fun H' s w'=>?_⟩
  rw [if_neg (fun z=>z rfl)]
  exact q H' s w'
 ·cases e:ws[k]? with
  | none=>exact .inr ⟨rfl,q⟩
  | some w =>
   refine .inl ⟨w,rfl,fun H' s w'=>?_⟩
   rw [if_pos (fun z=>h2 (by rw [e,z]))]
   exact ⟨_,_,_,w'.ix,F.cl,F.n2,_,rfl,jh q s⟩
theorem kR {x dx wa:Addr} {ws:List Str} {n:Int} {k:Nat} {E:XK} (F:WrF K t) (W:WrAt t H x dx wa ws n k) (hk:k≤ws.length) (ho:vb ws) (q:(∃ w,ws[k]?=some w∧zZ w=true∧∀ H',SameX x H H'→WrAt t H' x dx wa ws n (k + 1)→Q (.str w) H')∨((∀ w,ws[k]?=some w→zZ w=false)∧ndX t E x H n)) :
  xK K t E { nx:=fun _ H'=>Q .non H',rt:=Q } (L2.start ["self","word"] [.ref x]) H:=by
 simp only [xK,z6,ju,y8,yJ,yj,L2.start,zq,zI,zo,zF,zx,ze,zc,zk,zE,vd,tB,zC,List.map,List.replicate,List.length,List.append,jqa,jqb,jqc,jqd,jqe,jqf,jqg,jqh,jqi,jqj,jqk,jql,jqm,jqn,and_true,true_and,and_assoc,jqo,jqp,jqq,Nat.reduceSub,Nat.reduceAdd,jqr,jqs,jqt,Int.reduceToNat,Int.reducePow,Int.reduceNeg,Int.reduceMul,Int.reduceAdd,if_true,ite_true,jqu,ite_false,if_false]
 refine ⟨_,_,W.ix,rfl,dx,wa,ws,n,k,W,hk,?_⟩
 rcases q with ⟨w,h2,h3,q⟩ | ⟨h2,q⟩
 ·refine .inl ⟨w,h2,fun H' s w'=>⟨(ho w (List.mem_of_getElem? h2)).1,fun H2 s2=>?_⟩⟩
  rw [if_neg (by rw [h3];decide)]
  exact q H2 (s.trans (sx s2)) (w'.same s2)
 ·cases e:ws[k]? with
  | none=>exact .inr ⟨rfl,q⟩
  | some w =>
   refine .inl ⟨w,rfl,fun H' s w'=>⟨(ho w (List.mem_of_getElem? e)).1,fun H2 s2=>?_⟩⟩
   rw [if_pos (h2 w e)]
   exact ⟨_,_,_,(w'.same s2).ix,F.cl,F.n2,_,rfl,jh q (s.trans (sx s2))⟩
theorem kS {x dx wa:Addr} {ws:List Str} {n:Int} {k:Nat} {E:XK} (F:WrF K t) (ex:PySem.W.exmOne K (.ref t.c_NoTerm) (.ref t.c_NoTerm)=some true) (W:WrAt t H x dx wa ws n k) (h3:ws.length≤1000) (h4:vb ws) (q:(∃ ps e,yk ws k=some (ps,e)∧∀ H' r,SameX x H H'→WrAt t H' x dx wa ws n e→H' r=some (.tup ps)→r≠x→Q (.ref r) H')∨(yk ws k=none∧ndX t E x H n)) :
  xL K t E { nx:=fun _ H'=>Q .non H',rt:=Q } (L2.start ["self","found"] [.ref x]) H:=by
 simp only [xL,kF,y8,YS,xq,Z7,zaD,JZ,L2.start,ZN,zq,zF,tOp,ze,tC,zc,zk,ZN,List.map,List.replicate,List.length,List.append,jqa,jqb,jqc,jqd,jqe,jqf,jqg,jqh,jqi,jqj,jqk,jql,jqm,jqn,and_true,true_and,and_assoc,jqo,jqp,jqq,Nat.reduceSub,Nat.reduceAdd,jqr,jqs,jqt,Int.reduceToNat,Int.reducePow,Int.reduceNeg,Int.reduceMul,Int.reduceAdd,if_true,ite_true,jqu,ite_false,if_false]
 refine ⟨_,_,_,W.ix,F.cl,F.n1,_,rfl,_,_,_,W.ix,F.cl,F.n3,_,rfl,_,rfl,ws,k,rfl,W.hw,h3,h4,?_⟩
 rcases q with ⟨ps,e,h2,q⟩ | ⟨h2,q⟩
 ·refine .inl ⟨ps,e,h2,fun H1 p r s1 hp hr=>?_⟩
  have np:p≠x:=jk hp (s1 _ _ W.ix) (fun z=>nomatch z)
  have nr:r≠x:=jk hr (s1 _ _ W.ix) (fun z=>nomatch z)
  exact ⟨_,SqT.of hp,_,rfl,_,_,_,s1 _ _ W.ix,F.cl,F.n3,(by simp),_,SqT.of (by rw [zw np];exact hp),_,rfl,q _ r (SameX.upd (sx s1)) ((W.same s1).put e) (by rw [zw nr];exact hr) nr⟩
 ·refine .inr ⟨h2,fun H1 s1=>⟨_,rfl,ex,?_⟩⟩
  exact ⟨_,_,_,s1 _ _ W.ix,F.cl,F.n2,_,rfl,jh q (sx s1)⟩
theorem k7 {x dx wa:Addr} {ws:List Str} {n:Int} {k:Nat} {E:XK} (F:WrF K t) (W:WrAt t H x dx wa ws n k) (hk:k≤ws.length) (q:(k=ws.length∧∀ H',Same H H'→Q .non H')∨(k < ws.length∧ndX t E x H n)) :
  xX K t E { nx:=fun _ H'=>Q .non H',rt:=Q } (L2.start ["self"] [.ref x]) H:=by
 simp only [xX,y8,yj,L2.start,zx,tOp,ze,zc,zk,zE,zp,tCB,yU,rI0,z0,List.map,List.replicate,List.length,List.append,jqa,jqb,jqc,jqd,jqe,jqf,jqg,jqh,jqi,jqj,jqk,jql,jqm,jqn,and_true,true_and,and_assoc,jqo,jqp,jqq,Nat.reduceSub,Nat.reduceAdd,jqr,jqs,jqt,Int.reduceToNat,Int.reducePow,Int.reduceNeg,Int.reduceMul,Int.reduceAdd,if_true,ite_true,jqu,ite_false,if_false]
 refine ⟨_,_,_,W.ix,F.cl,F.n3,_,rfl,_,_,_,W.ix,F.cl,F.n1,_,rfl,ws.length,.inl ⟨_,SqL.of W.hw,(List.length_map ..).symm⟩,_,rfl,?_⟩
 rcases q with ⟨h2,q⟩ | ⟨h2,q⟩
 ·rw [if_neg (by lia)]
  exact q H (Same.refl H)
 ·rw [if_pos (by lia)]
  exact ⟨_,_,_,W.ix,F.cl,F.n2,_,rfl,jh q (SameX.refl x H)⟩
theorem Qr {ws:List Str} {k e:Nat} {ps:List V} (h:yk ws k=some (ps,e)) (ho:vb ws):∃ T,ps=pst T∧TmOk T∧e=k + (pre T).length∧ws.drop k=pre T ++ ws.drop e∧e≤ws.length∧(pre T).length≤60:=by
 cases hs:yA (ws.drop k) 1 with
 | none=>unfold yk at h;rw [hs] at h;cases h
 | some n =>
  by_cases hn:n≤60
  ·obtain ⟨T,wf,tk,kn,ln⟩:=kE hs
   rw [jr hs hn wf tk] at h
   split at h
   ·rename_i ok
    cases h
    refine ⟨T,rfl,⟨wf,ok,fun w hw=>ho w ?_⟩,by rw [ln],?_,kn,by lia⟩
    ·rw [← tk] at hw;exact List.mem_of_mem_drop (List.mem_of_mem_take hw)
    ·rw [← tk,← List.drop_drop];exact (List.take_append_drop n _).symm
   ·cases h
  ·unfold yk at h;rw [hs] at h
   have h:(if n≤60 then (match vI ((ws.drop k).take n).reverse [] with | .ok [ps]=>some (ps,k + n) | _=>none) else none)=some (ps,e):=h
   rw [if_neg hn] at h;cases h
theorem xY {ws:List Str} {i:Nat} {w:Str} (h:ws[i]?=some w):ws.drop i=w :: ws.drop (i + 1):=by
 obtain ⟨hi,e⟩:=List.getElem?_eq_some_iff.mp h
 rw [← e];exact List.drop_eq_getElem_cons hi
theorem kT (ws:List Str) (k:Nat):(∃ w,ws[k]?=some w∧zZ w=true)∨∀ w,ws[k]?=some w→zZ w=false:=by
 by_cases h:∃ w,ws[k]?=some w∧zZ w=true
 ·exact .inl h
 ·exact .inr fun w e=>by
   cases q:zZ w with
   | false=>rfl
   | true=>exact absurd ⟨w,e,q⟩ h
theorem zaK {ws:List Str} {k:Nat} {w:Str} (h:ws[k]?=some w):k + 1≤ws.length:=(List.getElem?_eq_some_iff.mp h).1
theorem xZ (ws:List Str) (k:Nat) (ho:vb ws):yk ws k=none∨∃ T,yk ws k=some (pst T,k + (pre T).length)∧TmOk T∧ws.drop k=pre T ++ ws.drop (k + (pre T).length)∧k + (pre T).length≤ws.length:=by
 cases h:yk ws k with
 | none=>exact .inl rfl
 | some z =>
  obtain ⟨ps,e⟩:=z
  obtain ⟨T,rfl,tm,rfl,d,l,_⟩:=Qr h ho
  exact .inr ⟨T,rfl,tm,d,l⟩
theorem XE {x dx wa:Addr} {ws:List Str} {n:Int} {E:XK} (W:WrAt t H x dx wa ws n 1) (h1:1≤ws.length) (h4:vb ws) (h5:ws.length≤60) (q:(∃ sh T sl rest,ws=Hd.words (.take sh T sl) ++ rest∧Hd.ok (.take sh T sl)∧∀ H' v,SameX x H H'→WrAt t H' x dx wa ws n (Hd.words (.take sh T sl)).length→HdAt (fun b=>H b=none) H' v (.take sh T sl)→Q v H') ∨
 ((ws[0]?=some ("take":Str)∧∀ sh T sl rest,ws=Hd.words (.take sh T sl) ++ rest→¬ Hd.ok (.take sh T sl))∧ndX t E x H n)) :
  j9 K t E { nx:=fun _ H'=>Q .non H',rt:=Q } (L2.start ["words","shelf","place"] [.ref x]) H:=by
 simp only [j9,z7,zT,wu,yJ,L2.start,zq,zI,zo,zF,yq,ze,tC,xm,zc,zk,List.map,List.replicate,List.length,List.append,jqa,jqb,jqc,jqd,jqe,jqf,jqg,jqh,jqi,jqj,jqk,jql,jqm,jqn,and_true,true_and,and_assoc,jqo,jqp,jqq,Nat.reduceSub,Nat.reduceAdd,jqr,jqs,jqt,Int.reduceToNat,Int.reducePow,Int.reduceNeg,Int.reduceMul,Int.reduceAdd,if_true,ite_true,jqu,ite_false,if_false]
 rcases q with ⟨sh,T,sl,rest,h2,h3,q⟩ | ⟨⟨h0,hn⟩,q⟩
 ·obtain ⟨o1,o2,o3⟩:=h3
  have e0:ws=([("take":Str),sh] ++ pre T) ++ ([("as":Str),sl] ++ rest):=by rw [h2];simp [Hd.words]
  have lw:(Hd.words (.take sh T sl)).length=2 + (pre T).length + 2:=by simp [Hd.words];lia
  have l2:2 + (pre T).length + 2≤ws.length:=by rw [h2,List.length_append,lw];lia
  have e1:ws[1]?=some sh:=by rw [e0];simp
  have e2:yk ws 2=some (pst T,2 + (pre T).length):=by
   rw [e0]
   exact wJ (A:=[("take":Str),sh]) o2.wf o2.ok (by lia)
  have e3:ws[2 + (pre T).length]?=some ("as":Str):=by rw [e0];exact Vm (i:=0) (by simp;lia)
  have e4:ws[2 + (pre T).length + 1]?=some sl:=by rw [e0];exact Vm (i:=1) (by simp;lia)
  refine ⟨_,_,W.ix,rfl,dx,wa,ws,n,1,W,h1,h4,.inl ⟨sh,e1,o1,fun H1 s1 W1=>?_⟩⟩
  refine ⟨_,_,W1.ix,rfl,dx,wa,ws,n,2,W1,by lia,h4,.inl ⟨_,_,e2,fun H2 r s2 W2 hr nr=>?_⟩⟩
  refine ⟨_,_,W2.ix,rfl,dx,wa,ws,n,_,W2,by lia,.inl ⟨e3,fun H3 s3 W3=>?_⟩⟩
  refine ⟨_,_,W3.ix,rfl,dx,wa,ws,n,_,W3,by lia,h4,.inl ⟨sl,e4,o3,fun H4 s4 W4=>⟨by decide,fun p hp=>?_⟩⟩⟩
  have s5:=isV (o:=HO.tup [V.str (Str.ofString "take"),V.str sh,V.ref r,V.str sl]) p hp
  refine q _ (.ref p) (s1.trans (s2.trans (s3.trans (s4.trans (sx s5))))) (by rw [lw];exact W4.same s5) ⟨p,r,rfl,zd,s5 _ _ (s4 r _ nr (s3 r _ nr hr))⟩
 ·refine ⟨_,_,W.ix,rfl,dx,wa,ws,n,1,W,h1,h4,?_⟩
  rcases kT ws 1 with ⟨sh,e1,o1⟩ | e1
  case inr=>exact .inr ⟨e1,q⟩
  refine .inl ⟨sh,e1,o1,fun H1 s1 W1=>?_⟩
  refine ⟨_,_,W1.ix,rfl,dx,wa,ws,n,2,W1,by lia,h4,?_⟩
  rcases xZ ws 2 h4 with e2 | ⟨T,e2,tm,d2,l2⟩
  case inl=>exact .inr ⟨e2,q.to s1⟩
  refine .inl ⟨_,_,e2,fun H2 r s2 W2 hr nr=>?_⟩
  refine ⟨_,_,W2.ix,rfl,dx,wa,ws,n,_,W2,l2,?_⟩
  by_cases e3:ws[2 + (pre T).length]?=some ("as":Str)
  case neg=>exact .inr ⟨e3,q.to (s1.trans s2)⟩
  refine .inl ⟨e3,fun H3 s3 W3=>?_⟩
  refine ⟨_,_,W3.ix,rfl,dx,wa,ws,n,_,W3,zaK e3,h4,?_⟩
  rcases kT ws (2 + (pre T).length + 1) with ⟨sl,e4,o4⟩ | e4
  case inr=>exact .inr ⟨e4,q.to (s1.trans (s2.trans s3))⟩
  refine absurd (⟨o1,tm,o4⟩:Hd.ok (.take sh T sl)) (hn sh T sl (ws.drop (2 + (pre T).length + 2)) ?_)
  have a0:=xY h0
  have a1:=xY e1
  have a3:=xY e3
  have a4:=xY e4
  rw [List.drop_zero,a1,d2,a3,a4] at a0
  rw [Hd.words]
  simpa using a0
theorem inV2 {w a b:Str}:inV (.str w) [.str a,.str b]=true↔w=a∨w=b:=by
 show ((a == w) || ((b == w) || false))=true↔_
 rw [Bool.or_false,Bool.or_eq_true,beq_iff_eq,beq_iff_eq]
 exact ⟨fun z=>z.imp Eq.symm Eq.symm,fun z=>z.imp Eq.symm Eq.symm⟩
theorem Wa {x dx wa:Addr} {ws:List Str} {n:Int} {E:XK} (F:WrF K t) (W:WrAt t H x dx wa ws n 0) (h4:vb ws) (h5:ws.length≤60) (q:(∃ hd rest,ws=Hd.words hd ++ rest∧hd.ok∧∀ H' v,SameX x H H'→WrAt t H' x dx wa ws n hd.words.length→HdAt (fun b=>H b=none) H' v hd→Q v H')∨((∀ hd rest,ws=Hd.words hd ++ rest→¬ hd.ok)∧ndX t E x H n)) :
  kP K t E { nx:=fun _ H'=>Q .non H',rt:=Q } (L2.start ["words","first"] [.ref x]) H:=by
 simp only [kP,qK,qJ,qI,z6,z7,zT,jY,y8,yJ,yj,L2.start,zq,zI,zo,zF,zx,tOp,ze,tC,zW,xm,zc,zk,zE,zp,zC,rEq,rIn,yR,List.map,List.replicate,List.length,List.append,jqa,jqb,jqc,jqd,jqe,jqf,jqg,jqh,jqi,jqj,jqk,jql,jqm,jqn,and_true,true_and,and_assoc,jqo,jqp,jqq,Nat.reduceSub,Nat.reduceAdd,jqr,jqs,jqt,Int.reduceToNat,Int.reducePow,Int.reduceNeg,Int.reduceMul,Int.reduceAdd,if_true,ite_true,jqu,ite_false,if_false]
 rcases q with ⟨hd,rest,h2,h3,q⟩ | ⟨hn,q⟩
 ·cases hd with
  | take sh T sl =>
   have e0:ws=(([("take":Str),sh] ++ pre T) ++ [("as":Str),sl]) ++ rest:=h2
   refine ⟨_,_,W.ix,rfl,dx,wa,ws,n,0,W,Nat.zero_le _,.inl ⟨"take",by rw [e0];rfl,fun H1 s1 W1=>?_⟩⟩
   rw [if_pos rfl]
   exact ⟨dx,wa,ws,n,W1,(by rw [e0];simp),h4,h5,.inl ⟨sh,T,sl,rest,h2,h3,fun H' v s w h=>q H' v (s1.trans s) w h⟩⟩
  | give sh T U =>
   obtain ⟨o1,o2,o3⟩:=h3
   have e0:ws=(([("give":Str),sh] ++ pre T) ++ pre U) ++ rest:=h2
   have lw:(Hd.words (.give sh T U)).length=2 + (pre T).length + (pre U).length:=by simp [Hd.words];lia
   have l2:2 + (pre T).length + (pre U).length≤ws.length:=by rw [h2,List.length_append,lw];lia
   have e1:ws[1]?=some sh:=by rw [e0];simp
   have e2:yk ws 2=some (pst T,2 + (pre T).length):=by
    rw [e0,List.append_assoc]
    exact wJ (A:=[("give":Str),sh]) o2.wf o2.ok (by lia)
   have e3:yk ws (2 + (pre T).length)=some (pst U,2 + (pre T).length + (pre U).length):=by
    have:=wJ (A:=[("give":Str),sh] ++ pre T) (B:=rest) o3.wf o3.ok (by lia)
    rw [← e0,show ([("give":Str),sh] ++ pre T).length=2 + (pre T).length by simp;lia] at this
    exact this
   refine ⟨_,_,W.ix,rfl,dx,wa,ws,n,0,W,Nat.zero_le _,.inl ⟨"give",by rw [e0];rfl,fun H1 s1 W1=>?_⟩⟩
   rw [if_neg (by decide +kernel),if_pos rfl]
   refine ⟨_,_,W1.ix,rfl,dx,wa,ws,n,1,W1,by lia,h4,.inl ⟨sh,e1,o1,fun H2 s2 W2=>?_⟩⟩
   refine ⟨_,_,W2.ix,rfl,dx,wa,ws,n,2,W2,by lia,h4,.inl ⟨_,_,e2,fun H3 r s3 W3 hr nr=>?_⟩⟩
   refine ⟨_,_,W3.ix,rfl,dx,wa,ws,n,_,W3,by lia,h4,.inl ⟨_,_,e3,fun H4 r2 s4 W4 hr2 nr2=>⟨by decide,fun p hp=>?_⟩⟩⟩
   have s5:=isV (o:=HO.tup [V.str (Str.ofString "give"),V.str sh,V.ref r,V.ref r2]) p hp
   exact q _ (.ref p) (s1.trans (s2.trans (s3.trans (s4.trans (sx s5))))) (by rw [lw];exact W4.same s5) ⟨p,r,r2,rfl,zd,s5 _ _ (s4 r _ nr hr),s5 _ _ hr2⟩
  | lt sl T =>
   obtain ⟨o1,o2⟩:=h3
   have e0:ws=([("let":Str),sl] ++ pre T) ++ rest:=h2
   have lw:(Hd.words (.lt sl T)).length=2 + (pre T).length:=by simp [Hd.words];lia
   have l2:2 + (pre T).length≤ws.length:=by rw [h2,List.length_append,lw];lia
   have e1:ws[1]?=some sl:=by rw [e0];simp
   have e2:yk ws 2=some (pst T,2 + (pre T).length):=by
    have:=wJ (A:=[("let":Str),sl]) (B:=rest) o2.wf o2.ok (by lia)
    rw [← e0] at this
    exact this
   refine ⟨_,_,W.ix,rfl,dx,wa,ws,n,0,W,Nat.zero_le _,.inl ⟨"let",by rw [e0];rfl,fun H1 s1 W1=>?_⟩⟩
   rw [if_neg (by decide +kernel),if_neg (by decide +kernel),if_pos rfl]
   refine ⟨_,_,W1.ix,rfl,dx,wa,ws,n,1,W1,by lia,h4,.inl ⟨sl,e1,o1,fun H2 s2 W2=>?_⟩⟩
   refine ⟨_,_,W2.ix,rfl,dx,wa,ws,n,2,W2,by lia,h4,.inl ⟨_,_,e2,fun H3 r s3 W3 hr nr=>⟨by decide,fun p hp=>?_⟩⟩⟩
   have s5:=isV (o:=HO.tup [V.str (Str.ofString "let"),V.str sl,V.ref r]) p hp
   exact q _ (.ref p) (s1.trans (s2.trans (s3.trans (sx s5)))) (by rw [lw];exact W3.same s5) ⟨p,r,rfl,zd,s5 _ _ hr⟩
  | say T =>
   have e0:ws=([("say":Str)] ++ pre T) ++ rest:=h2
   have lw:(Hd.words (.say T)).length=1 + (pre T).length:=by simp [Hd.words];lia
   have l2:1 + (pre T).length≤ws.length:=by rw [h2,List.length_append,lw];lia
   have e2:yk ws 1=some (pst T,1 + (pre T).length):=by
    have:=wJ (A:=[("say":Str)]) (B:=rest) (TmOk.wf h3) (TmOk.ok h3) (by lia)
    rw [← e0] at this
    exact this
   refine ⟨_,_,W.ix,rfl,dx,wa,ws,n,0,W,Nat.zero_le _,.inl ⟨"say",by rw [e0];rfl,fun H1 s1 W1=>?_⟩⟩
   rw [if_neg (by decide +kernel),if_neg (by decide +kernel),if_neg (by decide +kernel)]
   refine ⟨by decide,fun p hp=>⟨_,.inr (SqT.of zd),rfl,rfl,?_⟩⟩
   rw [if_pos (by decide +kernel)]
   have s2:=isV (o:=HO.tup [V.str (Str.ofString "say"),V.str (Str.ofString "off")]) p hp
   have W2:=W1.same s2
   refine ⟨_,_,W2.ix,rfl,dx,wa,ws,n,1,W2,by lia,h4,.inl ⟨_,_,e2,fun H3 r s3 W3 hr nr=>⟨by decide,fun p2 hp2=>?_⟩⟩⟩
   have s5:=isV (o:=HO.tup [V.str (Str.ofString "say"),V.ref r]) p2 hp2
   exact q _ (.ref p2) (s1.trans ((sx s2).trans (s3.trans (sx s5)))) (by rw [lw];exact W3.same s5) ⟨p2,r,rfl,zd,s5 _ _ hr⟩
  | off T =>
   have e0:ws=([("off":Str)] ++ pre T) ++ rest:=h2
   have lw:(Hd.words (.off T)).length=1 + (pre T).length:=by simp [Hd.words];lia
   have l2:1 + (pre T).length≤ws.length:=by rw [h2,List.length_append,lw];lia
   have e2:yk ws 1=some (pst T,1 + (pre T).length):=by
    have:=wJ (A:=[("off":Str)]) (B:=rest) (TmOk.wf h3) (TmOk.ok h3) (by lia)
    rw [← e0] at this
    exact this
   refine ⟨_,_,W.ix,rfl,dx,wa,ws,n,0,W,Nat.zero_le _,.inl ⟨"off",by rw [e0];rfl,fun H1 s1 W1=>?_⟩⟩
   rw [if_neg (by decide +kernel),if_neg (by decide +kernel),if_neg (by decide +kernel)]
   refine ⟨by decide,fun p hp=>⟨_,.inr (SqT.of zd),rfl,rfl,?_⟩⟩
   rw [if_pos (by decide +kernel)]
   have s2:=isV (o:=HO.tup [V.str (Str.ofString "say"),V.str (Str.ofString "off")]) p hp
   have W2:=W1.same s2
   refine ⟨_,_,W2.ix,rfl,dx,wa,ws,n,1,W2,by lia,h4,.inl ⟨_,_,e2,fun H3 r s3 W3 hr nr=>⟨by decide,fun p2 hp2=>?_⟩⟩⟩
   have s5:=isV (o:=HO.tup [V.str (Str.ofString "off"),V.ref r]) p2 hp2
   exact q _ (.ref p2) (s1.trans ((sx s2).trans (s3.trans (sx s5)))) (by rw [lw];exact W3.same s5) ⟨p2,r,rfl,zd,s5 _ _ hr⟩
  | iff T =>
   have e0:ws=([("if":Str)] ++ pre T) ++ rest:=h2
   have lw:(Hd.words (.iff T)).length=1 + (pre T).length:=by simp [Hd.words];lia
   have l2:1 + (pre T).length≤ws.length:=by rw [h2,List.length_append,lw];lia
   have e2:yk ws 1=some (pst T,1 + (pre T).length):=by
    have:=wJ (A:=[("if":Str)]) (B:=rest) (TmOk.wf h3) (TmOk.ok h3) (by lia)
    rw [← e0] at this
    exact this
   refine ⟨_,_,W.ix,rfl,dx,wa,ws,n,0,W,Nat.zero_le _,.inl ⟨"if",by rw [e0];rfl,fun H1 s1 W1=>?_⟩⟩
   rw [if_neg (by decide +kernel),if_neg (by decide +kernel),if_neg (by decide +kernel)]
   refine ⟨by decide,fun p hp=>⟨_,.inr (SqT.of zd),rfl,rfl,?_⟩⟩
   rw [if_neg (by decide +kernel),if_pos rfl]
   have s2:=isV (o:=HO.tup [V.str (Str.ofString "say"),V.str (Str.ofString "off")]) p hp
   have W2:=W1.same s2
   refine ⟨_,_,W2.ix,rfl,dx,wa,ws,n,1,W2,by lia,h4,.inl ⟨_,_,e2,fun H3 r s3 W3 hr nr=>⟨Nat.zero_le _,fun la hla=>⟨Nat.zero_le _,fun lb hlb=>⟨by decide,fun p2 hp2=>?_⟩⟩⟩⟩⟩
   have s4:=isV (o:=HO.lst []) la hla
   have s5:=isV (o:=HO.lst []) lb hlb
   have s6:=isV (o:=HO.tup [V.str (Str.ofString "if"),V.ref r,V.ref la,V.ref lb]) p2 hp2
   have S3:=s1.trans ((sx s2).trans s3)
   have S:=s4.trans (s5.trans s6)
   have fa:H la=none:=Vn S3 W3.ix hla
   have fb:H lb=none:=Vn (S3.trans (sx s4)) (s4 _ _ W3.ix) hlb
   exact q _ (.ref p2) (S3.trans (sx S)) (by rw [lw];exact W3.same S) ⟨p2,r,la,lb,rfl,zd,S _ _ hr,s6 _ _ (s5 _ _ zd),s6 _ _ zd,fa,fb,Ne.symm (qL zd hlb)⟩
  | els =>
   have e0:ws=([("else":Str)]) ++ rest:=h2
   refine ⟨_,_,W.ix,rfl,dx,wa,ws,n,0,W,Nat.zero_le _,.inl ⟨"else",by rw [e0];rfl,fun H1 s1 W1=>?_⟩⟩
   rw [if_neg (by decide +kernel),if_neg (by decide +kernel),if_neg (by decide +kernel)]
   refine ⟨by decide,fun p hp=>⟨_,.inr (SqT.of zd),rfl,rfl,?_⟩⟩
   rw [if_neg (by decide +kernel),if_neg (by decide +kernel)]
   refine ⟨by decide,fun p2 hp2=>⟨_,.inr (SqT.of zd),rfl,rfl,?_⟩⟩
   rw [if_pos (by decide +kernel)]
   refine ⟨by decide,fun p3 hp3=>?_⟩
   have S:=(isV p hp).trans ((isV p2 hp2).trans (isV (o:=HO.tup [V.str (Str.ofString "else")]) p3 hp3))
   exact q _ (.ref p3) (s1.trans (sx S)) (W1.same S) ⟨p3,rfl,zd⟩
  | nd =>
   have e0:ws=([("end":Str)]) ++ rest:=h2
   refine ⟨_,_,W.ix,rfl,dx,wa,ws,n,0,W,Nat.zero_le _,.inl ⟨"end",by rw [e0];rfl,fun H1 s1 W1=>?_⟩⟩
   rw [if_neg (by decide +kernel),if_neg (by decide +kernel),if_neg (by decide +kernel)]
   refine ⟨by decide,fun p hp=>⟨_,.inr (SqT.of zd),rfl,rfl,?_⟩⟩
   rw [if_neg (by decide +kernel),if_neg (by decide +kernel)]
   refine ⟨by decide,fun p2 hp2=>⟨_,.inr (SqT.of zd),rfl,rfl,?_⟩⟩
   rw [if_pos (by decide +kernel)]
   refine ⟨by decide,fun p3 hp3=>?_⟩
   have S:=(isV p hp).trans ((isV p2 hp2).trans (isV (o:=HO.tup [V.str (Str.ofString "end")]) p3 hp3))
   exact q _ (.ref p3) (s1.trans (sx S)) (W1.same S) ⟨p3,rfl,zd⟩
 ·refine ⟨_,_,W.ix,rfl,dx,wa,ws,n,0,W,Nat.zero_le _,?_⟩
  cases e0:ws[0]? with
  | none=>exact .inr ⟨rfl,q⟩
  | some w =>
  have l1:=zaK e0
  have a0:=xY e0
  rw [List.drop_zero] at a0
  refine .inl ⟨w,rfl,fun H1 s1 W1=>?_⟩
  by_cases c1:w="take"
  ·subst c1
   rw [if_pos rfl]
   exact ⟨dx,wa,ws,n,W1,l1,h4,h5,.inr ⟨e0,fun sh T sl rest z=>hn (.take sh T sl) rest z,q.to s1⟩⟩
  rw [if_neg c1]
  by_cases c2:w="give"
  ·subst c2
   rw [if_pos rfl]
   refine ⟨_,_,W1.ix,rfl,dx,wa,ws,n,1,W1,l1,h4,?_⟩
   rcases kT ws 1 with ⟨sh,e1,o1⟩ | e1
   case inr=>exact .inr ⟨e1,q.to s1⟩
   refine .inl ⟨sh,e1,o1,fun H2 s2 W2=>?_⟩
   refine ⟨_,_,W2.ix,rfl,dx,wa,ws,n,2,W2,by lia,h4,?_⟩
   rcases xZ ws 2 h4 with e2 | ⟨T,e2,tm,d2,l2⟩
   case inl=>exact .inr ⟨e2,q.to (s1.trans s2)⟩
   refine .inl ⟨_,_,e2,fun H3 r s3 W3 hr nr=>?_⟩
   refine ⟨_,_,W3.ix,rfl,dx,wa,ws,n,_,W3,by lia,h4,?_⟩
   rcases xZ ws (2 + (pre T).length) h4 with e3 | ⟨U,e3,um,d3,l3⟩
   case inl=>exact .inr ⟨e3,q.to (s1.trans (s2.trans s3))⟩
   refine absurd (⟨o1,tm,um⟩:Hd.ok (.give sh T U)) (hn (.give sh T U) (ws.drop (2 + (pre T).length + (pre U).length)) ?_)
   rw [xY e1,d2,d3] at a0
   rw [Hd.words];simpa using a0
  rw [if_neg c2]
  by_cases c3:w="let"
  ·subst c3
   rw [if_pos rfl]
   refine ⟨_,_,W1.ix,rfl,dx,wa,ws,n,1,W1,l1,h4,?_⟩
   rcases kT ws 1 with ⟨sh,e1,o1⟩ | e1
   case inr=>exact .inr ⟨e1,q.to s1⟩
   refine .inl ⟨sh,e1,o1,fun H2 s2 W2=>?_⟩
   refine ⟨_,_,W2.ix,rfl,dx,wa,ws,n,2,W2,by lia,h4,?_⟩
   rcases xZ ws 2 h4 with e2 | ⟨T,e2,tm,d2,l2⟩
   case inl=>exact .inr ⟨e2,q.to (s1.trans s2)⟩
   refine absurd (⟨o1,tm⟩:Hd.ok (.lt sh T)) (hn (.lt sh T) (ws.drop (2 + (pre T).length)) ?_)
   rw [xY e1,d2] at a0
   rw [Hd.words];simpa using a0
  rw [if_neg c3]
  refine ⟨by decide,fun p hp=>⟨_,.inr (SqT.of zd),rfl,rfl,?_⟩⟩
  have s2:=isV (o:=HO.tup [V.str (Str.ofString "say"),V.str (Str.ofString "off")]) p hp
  have W2:=W1.same s2
  have q2:=q.to (s1.trans (sx s2))
  have one:∀ (f:Tw→Hd),(∀ T,(f T).words=[w] ++ pre T)→(∀ T,TmOk T→(f T).ok)→yk ws 1=none:=fun f f1 f2=>by
   rcases xZ ws 1 h4 with e2 | ⟨T,e2,tm,d2,l2⟩
   ·exact e2
   ·refine absurd (f2 T tm) (hn (f T) (ws.drop (1 + (pre T).length)) ?_)
    rw [d2] at a0
    rw [f1];simpa using a0
  by_cases c4:w="say"
  ·rw [if_pos (inV2.mpr (.inl c4))]
   exact ⟨_,_,W2.ix,rfl,dx,wa,ws,n,1,W2,by lia,h4,.inr ⟨one .say (fun T=>by rw [c4];rfl) (fun T z=>z),q2⟩⟩
  by_cases c5:w="off"
  ·rw [if_pos (inV2.mpr (.inr c5))]
   exact ⟨_,_,W2.ix,rfl,dx,wa,ws,n,1,W2,by lia,h4,.inr ⟨one .off (fun T=>by rw [c5];rfl) (fun T z=>z),q2⟩⟩
  rw [if_neg (fun z=>(inV2.mp z).elim c4 c5)]
  by_cases c6:w="if"
  ·rw [if_pos c6]
   exact ⟨_,_,W2.ix,rfl,dx,wa,ws,n,1,W2,by lia,h4,.inr ⟨one .iff (fun T=>by rw [c6];rfl) (fun T z=>z),q2⟩⟩
  rw [if_neg c6]
  refine ⟨by decide,fun p2 hp2=>⟨_,.inr (SqT.of zd),rfl,rfl,?_⟩⟩
  rw [if_neg]
  ·have s3:=isV (o:=HO.tup [V.str (Str.ofString "else"),V.str (Str.ofString "end")]) p2 hp2
   exact ⟨_,_,_,s3 _ _ W2.ix,F.cl,F.n2,_,rfl,jh q2 (sx s3)⟩
  ·intro z
   rcases inV2.mp z with z | z
   ·exact hn .els (ws.drop 1) (by rw [z] at a0;exact a0) trivial
   ·exact hn .nd (ws.drop 1) (by rw [z] at a0;exact a0) trivial
theorem Jj {c:Nat}:∀ {ws:List Str} {w:Str},w∈ws→w.length≤(Str.join ⟨#[c]⟩ ws).length∧∀ d∈w.cps.toList,d∈(Str.join ⟨#[c]⟩ ws).cps.toList
 | [],w,h=>nomatch h
 | [x],w,h=>by
  obtain rfl:=List.mem_singleton.mp h
  exact ⟨Nat.le_refl _,fun d hd=>hd⟩
 | x :: y :: r,w,h=>by
  have l:(Str.join ⟨#[c]⟩ (x :: y :: r)).length=x.length + (1 + (Str.join ⟨#[c]⟩ (y :: r)).length):=by rw [yK,xC,yK,yK];simp;lia
  rcases List.mem_cons.mp h with rfl | h
  ·exact ⟨by lia,fun d hd=>by rw [xC];exact List.mem_append_left _ hd⟩
  ·have i:=Jj (c:=c) h
   exact ⟨by lia,fun d hd=>by rw [xC];exact List.mem_append_right _ (List.mem_cons_of_mem _ (i.2 d hd))⟩
theorem XG {c:Nat}:∀ {ws:List Str},ws.length≤(Str.join ⟨#[c]⟩ ws).length + 1
 | []=>Nat.zero_le _
 | [x]=>by simp
 | x :: y :: r=>by
  have l:(Str.join ⟨#[c]⟩ (x :: y :: r)).length=x.length + (1 + (Str.join ⟨#[c]⟩ (y :: r)).length):=by rw [yK,xC,yK,yK];simp;lia
  have i:=XG (c:=c) (ws:=y :: r)
  simp only [List.length_cons] at i ⊢
  lia
theorem km {x w:Str} {c:Nat} (h:w∈Txt.split x ⟨#[c]⟩):w.length≤x.length∧(∀ d∈w.cps.toList,d∈x.cps.toList)∧c ∉ w.cps.toList:=by
 have:=Jj (c:=c) h
 rw [StrLaws.join_split] at this
 exact ⟨this.1,this.2,StrLaws.split_free _ _ _ h⟩
theorem vK (x:Str) (c:Nat):(Txt.split x ⟨#[c]⟩).length≤x.length + 1:=by
 have:=XG (c:=c) (ws:=Txt.split x ⟨#[c]⟩)
 rw [StrLaws.join_split] at this
 exact this
theorem ko {x:Str} {c:Nat} (hx:x.length≤20000) (ha:Asc x):vb (Txt.split x ⟨#[c]⟩):=fun w hw =>
 have m:=km hw
 ⟨by lia,fun d hd=>ha d (m.2.1 d hd)⟩
theorem XH {hd:Hd} (L:q8 hd):Txt.split hd.line wY=hd.words:=JV hd.w_ne fun w hw=>(L.bl w hw).1
theorem zaL {x:Str} {hd:Hd} (hx:x.length≤20000) (ha:Asc x) (hl:10 ∉ x.cps.toList) (h60:(Txt.split x wY).length≤60) (e:Txt.split x wY=hd.words) (ok:hd.ok):x=hd.line∧q8 hd:=by
 refine ⟨?_,ok,?_,?_,?_⟩
 ·show x=Str.join wY hd.words
  rw [← e];exact (StrLaws.join_split _ _).symm
 ·rw [← e];exact ko hx ha
 ·rw [← e];exact h60
 ·rw [← e];exact fun w hw=>⟨(km hw).2.2,fun z=>hl ((km hw).2.1 _ z)⟩
theorem Ka {x:Str} {n:Nat} {E:XK} (hx:x.length≤20000) (ha:Asc x) (hl:10 ∉ x.cps.toList) (q:(n < 40∧∃ hd:Hd,x=hd.line∧q8 hd∧∀ H' v,Same H H'→HdAt (fun b=>H b=none) H' v hd→Q v H')∨((40≤n∨KH x)∧ndE t E H n)) :
  Yx K t E { nx:=fun _ H'=>Q .non H',rt:=Q } (L2.start ["text","number","words","drawn","row"] [.str x,.int n]) H:=by
 simp only [Yx,vn,kG,xR,yJ,Xh,y0,yj,L2.start,zq,zI,zo,zF,yq,zx,tOp,ze,tC,zc,zk,zE,tOr,zp,tCB,tBM,tyV,zC,yU,rI0,z0,List.map,List.replicate,List.length,List.append,jqa,jqb,jqc,jqd,jqe,jqf,jqg,jqh,jqi,jqj,jqk,jql,jqm,jqn,and_true,true_and,and_assoc,jqo,jqp,jqq,Nat.reduceSub,Nat.reduceAdd,jqr,jqs,jqt,Int.reduceToNat,Int.reducePow,Int.reduceNeg,Int.reduceMul,Int.reduceAdd,if_true,ite_true,jqu,ite_false,if_false]
 rw [zbL]
 have wo:vb (Txt.split x wY):=ko hx ha
 have wc:(Txt.split x wY).length≤x.length + 1:=vK x 32
 have sw:∀ {hd:Hd},x=hd.line→q8 hd→Txt.split x wY=hd.words:=fun e L=>by rw [e];exact XH L
 have rw1:=fun (hd:Hd) (h60:(Txt.split x wY).length≤60) (e:Txt.split x wY=hd.words) (ok:hd.ok)=>zaL hx ha hl h60 e ok
 generalize Txt.split x wY=ws at *
 have lm:(List.map V.str ws).length=ws.length:=List.length_map ..
 refine ⟨by decide +kernel,by lia,by lia,fun l hl=>?_⟩
 have s0:=isV (o:=HO.lst (List.map V.str ws)) l hl
 by_cases h3:n < 40
 case neg =>
  rw [if_pos (by lia)]
  rcases q with ⟨z,_⟩ | ⟨_,q⟩
  ·exact absurd z h3
  ·exact jH q s0
 rw [if_neg (by lia)]
 refine ⟨ws.length,.inl ⟨_,SqL.of zd,lm.symm⟩,?_⟩
 by_cases h60:60 < ws.length
 ·rw [if_pos (by lia)]
  rcases q with ⟨_,hd,e,L,_⟩ | ⟨_,q⟩
  ·have:=L.ln;rw [← sw e L] at this;lia
  ·exact jH q s0
 rw [if_neg (by lia)]
 intro y dx hy hdx n
 have l1:upd H l (HO.lst (List.map V.str ws)) l=some (.lst (List.map V.str ws)):=zd
 generalize upd H l (HO.lst (List.map V.str ws))=H1 at *
 have s2:=isV (o:=HO.own y) dx hdx
 have hy2:upd H1 dx (HO.own y) y=none:=by rw [zw (Ne.symm n)];exact hy
 have s3:=isV (o:=HO.ins t.c_RowWords dx []) y hy2
 have fy:H y=none:=wB (s0.trans s2) hy2
 refine ⟨dx,zd,ws,(s2.trans s3) _ _ l1,fun H2 s4 W2=>?_⟩
 have S2:Same H H2:=s4.same (s0.trans (s2.trans s3)) fy
 refine ⟨dx,l,ws,_,W2,wo,by lia,?_⟩
 rcases q with ⟨_,hd,e,L,q⟩ | ⟨nr,q⟩
 ·have ew:=sw e L
  refine .inl ⟨hd,[],by rw [List.append_nil];exact ew,L.ok,fun H3 v s5 W3 hv=>?_⟩
  refine ⟨_,_,W3.ix,rfl,dx,l,ws,_,_,W3,by rw [ew];exact Nat.le_refl _,.inl ⟨by rw [ew],fun H4 s6=>?_⟩⟩
  have S3:Same H H3:=(s4.trans s5).same (s0.trans (s2.trans s3)) fy
  exact q H4 v (S3.trans s6) (hv.to (fun b hb=>wB S2 hb) s6)
 ·have ndx:∀ H3,SameX y H2 H3→ndX t E y H3 _:=fun H3 s5 d H' s6 e=>q d H' ((s4.trans (s5.trans s6)).same (s0.trans (s2.trans s3)) fy) e
  have nr:KH x:=nr.resolve_left (by lia)
  by_cases ex:∃ hd rest,ws=Hd.words hd ++ rest∧hd.ok
  ·obtain ⟨hd,rest,e,ok⟩:=ex
   have le:hd.words.length < ws.length:=by
    cases rest with
    | nil =>
     rw [List.append_nil] at e
     obtain ⟨z1,z2⟩:=rw1 hd (by lia) e ok
     exact absurd z2 (nr hd z1)
    | cons a r=>rw [e,List.length_append,List.length_cons];lia
   refine .inl ⟨hd,rest,e,ok,fun H3 v s5 W3 hv=>?_⟩
   exact ⟨_,_,W3.ix,rfl,dx,l,ws,_,_,W3,by lia,.inr ⟨le,ndx H3 s5⟩⟩
  ·exact .inr ⟨fun hd rest e ok=>ex ⟨hd,rest,e,ok⟩,ndx H2 (SameX.refl y H2)⟩
theorem YD {x dx:Addr} (F:RdF K t) (h1:H x=some (.ins t.c_Reading dx [])) (q:∀ H' rl bl tl,SameX x H H'→RdAt t H' x dx rl bl tl [] []→H' rl=some (.lst [])→H rl=none→H bl=none→H tl=none→Q .non H') :
  v4 K t { nx:=fun _ H'=>Q .non H',rt:=Q } (L2.start ["self"] [.ref x]) H:=by
 simp only [v4,YS,xq,L2.start,zq,ze,zW,zk,List.map,List.replicate,List.length,List.append,jqa,jqb,jqc,jqd,jqe,jqf,jqg,jqh,jqi,jqj,jqk,jql,jqm,jqn,and_true,true_and,and_assoc,jqo,jqp,jqq,Nat.reduceSub,Nat.reduceAdd,jqr,jqs,jqt,Int.reduceToNat,Int.reducePow,Int.reduceNeg,Int.reduceMul,Int.reduceAdd,if_true,ite_true,jqu,ite_false,if_false]
 refine ⟨Nat.zero_le _,fun rl hrl=>?_⟩
 have nr:x≠rl:=zS h1 hrl
 refine ⟨_,_,_,(by rw [zw nr];exact h1),F.cl,F.n1,by decide,Nat.zero_le _,?_⟩
 have S1:SameX x H (upd (upd H rl (.lst [])) x (.ins t.c_Reading dx (xq "rows" (.ref rl) []))):=SameX.upd (sx (isV rl hrl))
 have x1:upd (upd H rl (.lst [])) x (.ins t.c_Reading dx (xq "rows" (.ref rl) [])) x=some (.ins t.c_Reading dx (xq "rows" (.ref rl) [])):=zd
 have r1:upd (upd H rl (.lst [])) x (.ins t.c_Reading dx (xq "rows" (.ref rl) [])) rl=some (.lst []):=by rw [zw (Ne.symm nr),zd]
 generalize upd (upd H rl (.lst [])) x (.ins t.c_Reading dx (xq "rows" (.ref rl) []))=H1 at *
 intro bl hbl
 have nb:x≠bl:=zS x1 hbl
 refine ⟨_,_,_,(by rw [zw nb];exact x1),F.cl,F.n2,(by simp [xq]),Nat.zero_le _,?_⟩
 have S2:SameX x H (upd (upd H1 bl (.lst [])) x (.ins t.c_Reading dx (xq "blocks" (.ref bl) (xq "rows" (.ref rl) [])))):=SameX.upd (S1.trans (sx (isV bl hbl)))
 have x2:upd (upd H1 bl (.lst [])) x (.ins t.c_Reading dx (xq "blocks" (.ref bl) (xq "rows" (.ref rl) []))) x=some (.ins t.c_Reading dx (xq "blocks" (.ref bl) (xq "rows" (.ref rl) []))):=zd
 have r2:upd (upd H1 bl (.lst [])) x (.ins t.c_Reading dx (xq "blocks" (.ref bl) (xq "rows" (.ref rl) []))) rl=some (.lst []):=by rw [zw (Ne.symm nr),zw (zS r1 hbl)];exact r1
 have b2:upd (upd H1 bl (.lst [])) x (.ins t.c_Reading dx (xq "blocks" (.ref bl) (xq "rows" (.ref rl) []))) bl=some (.lst []):=by rw [zw (Ne.symm nb),zd]
 have nrb:rl≠bl:=zS r1 hbl
 generalize upd (upd H1 bl (.lst [])) x (.ins t.c_Reading dx (xq "blocks" (.ref bl) (xq "rows" (.ref rl) [])))=H2 at *
 intro tl htl
 have nt:x≠tl:=zS x2 htl
 refine ⟨_,_,_,(by rw [zw nt];exact x2),F.cl,F.n3,(by simp [xq];split <;> simp),q _ rl bl tl (SameX.upd (S2.trans (sx (isV tl htl)))) ⟨zd,?_,?_,nrb,zS r2 htl,zS b2 htl,rfl,Nat.zero_le _⟩ ?_ hrl (Vn S1 x1 hbl) (Vn S2 x2 htl)⟩
 ·rw [zw (Ne.symm nb),zw (zS b2 htl)];exact b2
 ·rw [zw (Ne.symm nt),zd];rfl
 ·rw [zw (Ne.symm nr),zw (zS r2 htl)];exact r2
theorem YE {α:Type} {xs:List α} {a:α}:atI (xs ++ [a]) (-1)=some a:=by
 unfold atI ixN
 rw [if_neg (by decide),if_pos (by simp;lia)]
 have:(-1 + ((xs ++ [a]).length:Int)).toNat=xs.length:=by simp;lia
 rw [this]
 simp
theorem k8 {x dx rl bl tl:Addr} {blocks:List V} {turned:List Bool} {inn:Addr} (F:RdF K t) (R:RdAt t H x dx rl bl tl blocks turned) (h2:Inn H rl blocks turned inn) (q:∀ H',Same H H'→Q (.ref inn) H') :
  xW K t { nx:=fun _ H'=>Q .non H',rt:=Q } (L2.start ["self"] [.ref x]) H:=by
 simp only [xW,y8,L2.start,wt,ZN,zq,zF,zx,tOp,tUn,ze,tC,zW,zk,zE,zp,tB,tIf,yC,ZN,rU,List.map,List.replicate,List.length,List.append,jqa,jqb,jqc,jqd,jqe,jqf,jqg,jqh,jqi,jqj,jqk,jql,jqm,jqn,and_true,true_and,and_assoc,jqo,jqp,jqq,Nat.reduceSub,Nat.reduceAdd,jqr,jqs,jqt,Int.reduceToNat,Int.reducePow,Int.reduceNeg,Int.reduceMul,Int.reduceAdd,if_true,ite_true,jqu,ite_false,if_false]
 refine ⟨_,_,_,R.ix,F.cl,F.n2,_,rfl,Nat.zero_le _,fun p hp=>?_⟩
 have s1:=isV (o:=HO.lst []) p hp
 refine ⟨bl,rfl,blocks,SqL.of (s1 _ _ R.hb),SqL.of zd,?_⟩
 rcases h2 with ⟨e,rfl⟩ | ⟨bs,r,hd,te,la,lb,cs,c,rfl,rfl,hr,e⟩
 ·rw [if_pos e]
  exact ⟨_,_,_,s1 _ _ R.ix,F.cl,F.n1,_,rfl,q _ s1⟩
 ·rw [if_neg (by simp)]
  have a1:atI ((cs ++ [c]).map V.bl) (-1)=some (V.bl c):=by rw [List.map_append];exact YE
  have a2:atI (bs ++ [V.ref r]) (-1)=some (V.ref r):=YE
  refine ⟨_,_,_,s1 _ _ R.ix,F.cl,F.n3,_,rfl,_,rfl,_,SqL.of (s1 _ _ R.ht),_,a1,c,rfl,?_⟩
  cases c with
  | true =>
   rw [if_pos rfl] at e ⊢
   subst e
   exact ⟨_,_,_,s1 _ _ R.ix,F.cl,F.n2,_,rfl,_,rfl,_,SqL.of (s1 _ _ R.hb),_,a2,_,rfl,_,SqT.of (s1 _ _ hr),_,rfl,q _ s1⟩
  | false =>
   rw [if_neg (by decide)] at e ⊢
   subst e
   exact ⟨_,_,_,s1 _ _ R.ix,F.cl,F.n2,_,rfl,_,rfl,_,SqL.of (s1 _ _ R.hb),_,a2,_,rfl,_,SqT.of (s1 _ _ hr),_,rfl,q _ s1⟩
theorem ZC {x:Addr} {v:V} {n:Int} {dx rl bl tl:Addr} {blocks:List V} {turned:List Bool} {inn:Addr} {zs:List V} (F:RdF K t) (R:RdAt t H x dx rl bl tl blocks turned) (h2:Inn H rl blocks turned inn) (h3:H inn=some (.lst zs)) (h4:zs.length≤1000) (h5:inn≠bl) (h6:inn≠tl) {E:XK} (hq:zcn t H inn bl tl zs blocks turned v n Q E) :
  w6 K t E { nx:=fun _ H'=>Q .non H',rt:=Q } (L2.start ["self","row","number"] [.ref x,v,.int n]) H:=by
 simp only [w6,yI,y8,yJ,yj,L2.start,zO,xx,zq,yq,zx,tOp,ze,tC,zc,zk,zE,zp,tCB,tBM,tyV,yU,rEq,z0,yR,List.map,List.replicate,List.length,List.append,jqa,jqb,jqc,jqd,jqe,jqf,jqg,jqh,jqi,jqj,jqk,jql,jqm,jqn,and_true,true_and,and_assoc,jqo,jqp,jqq,Nat.reduceSub,Nat.reduceAdd,jqr,jqs,jqt,Int.reduceToNat,Int.reducePow,Int.reduceNeg,Int.reduceMul,Int.reduceAdd,if_true,ite_true,jqu,ite_false,if_false]
 refine ⟨_,_,_,R.ix,F.cl,F.n2,_,rfl,blocks.length,.inl ⟨_,SqL.of R.hb,rfl⟩,?_⟩
 have l50:=R.l5
 by_cases h7:blocks.length < 5
 case neg=>rw [if_pos (by lia)];exact jH (hq.2 (by lia)) (Same.refl H)
 have q:=hq.1 h7
 rw [if_neg (by lia)]
 refine ⟨_,_,R.ix,rfl,dx,rl,bl,tl,blocks,turned,R,inn,h2,fun H1 s1=>⟨.inl ⟨_,SqL.of (s1 _ _ h3)⟩,zs,s1 _ _ h3,Nat.lt_of_le_of_lt (by lia:zs.length≤1000) (by decide),?_⟩⟩
 have nxi:x≠inn:=jk R.ix h3 (fun z=>nomatch z)
 have nxb:x≠bl:=jk R.ix R.hb (fun z=>nomatch z)
 have hb1:upd H1 inn (HO.lst (zs ++ [v])) bl=some (.lst blocks):=by rw [zw (Ne.symm h5)];exact s1 _ _ R.hb
 have ht1:upd (upd H1 inn (HO.lst (zs ++ [v]))) bl (HO.lst (blocks ++ [v])) tl=some (.lst (turned.map V.bl)):=by rw [zw (Ne.symm R.n3),zw (Ne.symm h6)];exact s1 _ _ R.ht
 have l5:=R.l5
 have le:=R.le
 have hx1:upd H1 inn (HO.lst (zs ++ [v])) x=some (.ins t.c_Reading dx [("rows",.ref rl),("blocks",.ref bl),("turned",.ref tl)]):=by rw [zw nxi];exact s1 _ _ R.ix
 have hx2:upd (upd H1 inn (HO.lst (zs ++ [v]))) bl (HO.lst (blocks ++ [v])) x=some (.ins t.c_Reading dx [("rows",.ref rl),("blocks",.ref bl),("turned",.ref tl)]):=by rw [zw nxb,zw nxi];exact s1 _ _ R.ix
 refine ⟨_,_,_,hx1,F.cl,F.n2,_,rfl,.inl ⟨_,SqL.of hb1⟩,bl,rfl,blocks,hb1,Nat.lt_of_le_of_lt (by lia:blocks.length≤1000) (by decide),_,_,_,hx2,F.cl,F.n3,_,rfl,.inl ⟨_,SqL.of ht1⟩,tl,rfl,_,ht1,Nat.lt_of_le_of_lt (by rw [List.length_map];lia:(turned.map V.bl).length≤1000) (by decide),?_⟩
 rw [show turned.map V.bl ++ [V.bl false]=(turned ++ [false]).map V.bl by simp]
 exact q H1 s1
theorem Yb {x:Addr} {n:Int} {dx rl bl tl:Addr} {bks:List V} {trd:List Bool} {E:XK} (F:RdF K t) (R0:RdAt t H x dx rl bl tl bks trd) (hq:zcp t H bl tl bks trd n Q E) :
  vA K t E { nx:=fun _ H'=>Q .non H',rt:=Q } (L2.start ["self","number"] [.ref x,.int n]) H:=by
 simp only [vA,y8,yj,L2.start,wt,wy,JC,zq,yq,zx,tOp,ze,zW,zc,zk,zE,zp,Xk,tyV,List.map,List.replicate,List.length,List.append,jqa,jqb,jqc,jqd,jqe,jqf,jqg,jqh,jqi,jqj,jqk,jql,jqm,jqn,and_true,true_and,and_assoc,jqo,jqp,jqq,Nat.reduceSub,Nat.reduceAdd,jqr,jqs,jqt,Int.reduceToNat,Int.reducePow,Int.reduceNeg,Int.reduceMul,Int.reduceAdd,if_true,ite_true,jqu,ite_false,if_false]
 refine ⟨_,_,_,R0.ix,F.cl,F.n2,_,rfl,Nat.zero_le _,fun p hp=>?_⟩
 have s1:=isV (o:=HO.lst []) p hp
 refine ⟨bl,rfl,_,SqL.of (s1 _ _ R0.hb),SqL.of zd,?_⟩
 rcases hq with ⟨blocks,b,turned,c,rfl,rfl,q⟩ | ⟨e,q⟩
 case inr=>rw [if_pos e];exact jH q s1
 have R:=R0
 rw [if_neg (by simp)]
 refine ⟨_,_,_,s1 _ _ R.ix,F.cl,F.n2,_,rfl,.inl ⟨_,SqL.of (s1 _ _ R.hb)⟩,_,rfl,_,s1 _ _ R.hb,_,Z9,?_⟩
 rw [kl]
 have nxb:x≠bl:=jk R.ix R.hb (fun z=>nomatch z)
 have ht1:upd (upd H p (HO.lst [])) bl (HO.lst blocks) tl=some (.lst (turned.map V.bl ++ [V.bl c])):=by
  rw [zw (Ne.symm R.n3)]
  have:=s1 _ _ R.ht
  rw [List.map_append] at this
  exact this
 have hx1:upd (upd H p (HO.lst [])) bl (HO.lst blocks) x=some (.ins t.c_Reading dx [("rows",.ref rl),("blocks",.ref bl),("turned",.ref tl)]):=by rw [zw nxb];exact s1 _ _ R.ix
 refine ⟨_,_,_,hx1,F.cl,F.n3,_,rfl,.inl ⟨_,SqL.of ht1⟩,tl,rfl,_,ht1,_,Z9,?_⟩
 rw [kl]
 exact q _ s1
theorem zbz {F:Addr→Prop} {v:V} {hd:Hd} (h:HdAt F H v hd):∃ r xs w,v=.ref r∧H r=some (.tup xs)∧atI xs 0=some (.str w)∧(w="else"↔hd=.els)∧(w="end"↔hd=.nd)∧(w="if"↔∃ T,hd=.iff T):=by
 cases hd with
 | take sh T sl =>
  obtain ⟨r,te,e,e1,e2⟩:=h
  exact ⟨r,_,"take",e,e1,rfl,⟨fun z=>absurd z (by decide +kernel),fun z=>nomatch z⟩,⟨fun z=>absurd z (by decide +kernel),fun z=>nomatch z⟩,⟨fun z=>absurd z (by decide +kernel),fun ⟨_,z⟩=>nomatch z⟩⟩
 | give sh T U =>
  obtain ⟨r,te,tf,e,e1,e2⟩:=h
  exact ⟨r,_,"give",e,e1,rfl,⟨fun z=>absurd z (by decide +kernel),fun z=>nomatch z⟩,⟨fun z=>absurd z (by decide +kernel),fun z=>nomatch z⟩,⟨fun z=>absurd z (by decide +kernel),fun ⟨_,z⟩=>nomatch z⟩⟩
 | lt sl T =>
  obtain ⟨r,te,e,e1,e2⟩:=h
  exact ⟨r,_,"let",e,e1,rfl,⟨fun z=>absurd z (by decide +kernel),fun z=>nomatch z⟩,⟨fun z=>absurd z (by decide +kernel),fun z=>nomatch z⟩,⟨fun z=>absurd z (by decide +kernel),fun ⟨_,z⟩=>nomatch z⟩⟩
 | say T =>
  obtain ⟨r,te,e,e1,e2⟩:=h
  exact ⟨r,_,"say",e,e1,rfl,⟨fun z=>absurd z (by decide +kernel),fun z=>nomatch z⟩,⟨fun z=>absurd z (by decide +kernel),fun z=>nomatch z⟩,⟨fun z=>absurd z (by decide +kernel),fun ⟨_,z⟩=>nomatch z⟩⟩
 | off T =>
  obtain ⟨r,te,e,e1,e2⟩:=h
  exact ⟨r,_,"off",e,e1,rfl,⟨fun z=>absurd z (by decide +kernel),fun z=>nomatch z⟩,⟨fun z=>absurd z (by decide +kernel),fun z=>nomatch z⟩,⟨fun z=>absurd z (by decide +kernel),fun ⟨_,z⟩=>nomatch z⟩⟩
 | iff T =>
  obtain ⟨r,te,la,lb,e,e1,e2⟩:=h
  exact ⟨r,_,"if",e,e1,rfl,⟨fun z=>absurd z (by decide +kernel),fun z=>nomatch z⟩,⟨fun z=>absurd z (by decide +kernel),fun z=>nomatch z⟩,⟨fun _=>⟨T,rfl⟩,fun _=>rfl⟩⟩
 | els =>
  obtain ⟨r,e,e1⟩:=h
  exact ⟨r,_,"else",e,e1,rfl,⟨fun _=>rfl,fun _=>rfl⟩,⟨fun z=>absurd z (by decide +kernel),fun z=>nomatch z⟩,⟨fun z=>absurd z (by decide +kernel),fun ⟨_,z⟩=>nomatch z⟩⟩
 | nd =>
  obtain ⟨r,e,e1⟩:=h
  exact ⟨r,_,"end",e,e1,rfl,⟨fun z=>absurd z (by decide +kernel),fun z=>nomatch z⟩,⟨fun _=>rfl,fun _=>rfl⟩,⟨fun z=>absurd z (by decide +kernel),fun ⟨_,z⟩=>nomatch z⟩⟩
theorem Qs {o1:V} {xl rd dx rl bl tl:Addr} {o3 o4:Option V} {blocks vs:List V} {turned:List Bool} {E:XK} (F:RdF K t) (R:RdAt t H rd dx rl bl tl blocks turned) (hl:H xl=some (.lst vs)) (q:blocks=[]→∀ H',Same H H'→Q (.ref rl) H') (q2:blocks≠[]→ndE t E H vs.length) :
  Yy K t E { nx:=fun _ H'=>Q .non H',rt:=Q } [some o1,some (.ref xl),some (.ref rd),o3,o4] H:=by
 simp only [Yy,y8,y6,yj,L2.start,zq,zF,zx,tOp,ze,zW,zc,zk,zE,zp,tCB,yU,z0,List.map,List.replicate,List.length,List.append,jqa,jqb,jqc,jqd,jqe,jqf,jqg,jqh,jqi,jqj,jqk,jql,jqm,jqn,and_true,true_and,and_assoc,jqo,jqp,jqq,Nat.reduceSub,Nat.reduceAdd,jqr,jqs,jqt,Int.reduceToNat,Int.reducePow,Int.reduceNeg,Int.reduceMul,Int.reduceAdd,if_true,ite_true,jqu,ite_false,if_false]
 refine ⟨_,_,_,R.ix,F.cl,F.n2,_,rfl,Nat.zero_le _,fun p hp=>?_⟩
 have s1:=isV (o:=HO.lst []) p hp
 refine ⟨bl,rfl,_,SqL.of (s1 _ _ R.hb),SqL.of zd,?_⟩
 by_cases e:blocks=[]
 ·rw [if_neg (by simp [e])]
  exact ⟨_,_,_,s1 _ _ R.ix,F.cl,F.n1,_,rfl,q e _ s1⟩
 ·rw [if_pos (by simp [e])]
  exact ⟨vs.length,.inl ⟨_,SqL.of (s1 _ _ hl),rfl⟩,jH (q2 e) s1⟩
theorem RdAt.same {H H':Hp} {x dx rl bl tl:Addr} {b:List V} {c:List Bool} (R:RdAt t H x dx rl bl tl b c) (s:Same H H'):RdAt t H' x dx rl bl tl b c:=⟨s _ _ R.ix,s _ _ R.hb,s _ _ R.ht,R.n1,R.n2,R.n3,R.le,R.l5⟩
def TS (H H':Hp):Prop:=∀ b ys,H b=some (.tup ys)→H' b=some (.tup ys)
theorem zcS {H H':Hp} {v:V} {hd:Hd} (p:hd.plain) (s:TS H H') (h:HdAt W9 H v hd):HdAt W9 H' v hd:=by
 cases hd with
 | take sh T' sl =>
  obtain ⟨r,te,e,e1,e2⟩:=h
  exact ⟨r,te,e,s _ _ e1,s _ _ e2⟩
 | give sh T' U =>
  obtain ⟨r,te,tf,e,e1,e2,e3⟩:=h
  exact ⟨r,te,tf,e,s _ _ e1,s _ _ e2,s _ _ e3⟩
 | lt sl T' =>
  obtain ⟨r,te,e,e1,e2⟩:=h
  exact ⟨r,te,e,s _ _ e1,s _ _ e2⟩
 | say T' =>
  obtain ⟨r,te,e,e1,e2⟩:=h
  exact ⟨r,te,e,s _ _ e1,s _ _ e2⟩
 | off T' =>
  obtain ⟨r,te,e,e1,e2⟩:=h
  exact ⟨r,te,e,s _ _ e1,s _ _ e2⟩
 | iff T'=>exact p.elim
 | els=>exact p.elim
 | nd=>exact p.elim
mutual
theorem TrAt.to {F G:Addr→Prop} {H H':Hp} (g:∀ b ys,F b→H b=some (.lst ys)→G b) (s:TS H H') (l:∀ b ys,F b→H b=some (.lst ys)→H' b=some (.lst ys)):∀ (x:Tr) {v:V},x.ok→TrAt F H v x→TrAt G H' v x
 | .row h,v,k,a=>by
  unfold Tr.ok at k
  unfold TrAt at a ⊢
  exact zcS k.2 s a
 | .iff T a b,v,k,h=>by
  unfold Tr.ok at k
  unfold TrAt at h ⊢
  obtain ⟨r,te,la,lb,xs,ys,e,f1,f2,e1,e2,e3,e4,e5,e6⟩:=h
  exact ⟨r,te,la,lb,xs,ys,e,g _ _ f1 e3,g _ _ f2 e5,s _ _ e1,s _ _ e2,l _ _ f1 e3,TrsAt.to g s l a k.2.1 e4,l _ _ f2 e5,TrsAt.to g s l b k.2.2 e6⟩
theorem TrsAt.to {F G:Addr→Prop} {H H':Hp} (g:∀ b ys,F b→H b=some (.lst ys)→G b) (s:TS H H') (l:∀ b ys,F b→H b=some (.lst ys)→H' b=some (.lst ys)):∀ (x:Trs) {vs:List V},x.ok→TrsAt F H vs x→TrsAt G H' vs x
 | .nil,vs,k,h=>by
  unfold TrsAt at h ⊢
  exact h
 | .cons x r,vs,k,h=>by
  unfold Trs.ok at k
  unfold TrsAt at h ⊢
  obtain ⟨v,ws,e,h1,h2⟩:=h
  exact ⟨v,ws,e,TrAt.to g s l x k.1 h1,TrsAt.to g s l r k.2 h2⟩
end
theorem TrsAt.same {F:Addr→Prop} {H H':Hp} (s:Same H H') {x:Trs} {vs:List V} (k:x.ok) (h:TrsAt F H vs x):TrsAt F H' vs x:=TrsAt.to (fun _ _ f _=>f) (fun _ _ e=>s _ _ e) (fun _ _ _ e=>s _ _ e) x k h
theorem TrsAt.any {F:Addr→Prop} {H:Hp} {x:Trs} {vs:List V} (k:x.ok) (h:TrsAt F H vs x):TrsAt W9 H vs x:=TrsAt.to (fun _ _ _ _=>trivial) (fun _ _ e=>e) (fun _ _ _ e=>e) x k h
theorem TrsAt.snoc {F:Addr→Prop} {H:Hp} {v:V} {x:Tr} (hx:TrAt F H v x):∀ (r:Trs) {vs:List V},TrsAt F H vs r→TrsAt F H (vs ++ [v]) (r.snoc x)
 | .nil,vs,h=>by
  unfold TrsAt at h
  subst h
  show TrsAt F H [v] (.cons x .nil)
  unfold TrsAt
  exact ⟨v,[],rfl,hx,by unfold TrsAt;rfl⟩
 | .cons y r,vs,h=>by
  unfold TrsAt at h
  obtain ⟨u,ws,rfl,e2,e3⟩:=h
  show TrsAt F H (u :: (ws ++ [v])) (.cons y (r.snoc x))
  unfold TrsAt
  exact ⟨u,ws ++ [v],rfl,e2,TrsAt.snoc hx r e3⟩
theorem TrsAt.len {F:Addr→Prop} {H:Hp}:∀ (r:Trs) {vs:List V},TrsAt F H vs r→vs.length=r.len
 | .nil,vs,h=>by
  unfold TrsAt at h
  subst h
  rfl
 | .cons x r,vs,h=>by
  unfold TrsAt at h
  obtain ⟨u,ws,rfl,e2,e3⟩:=h
  rw [List.length_cons,TrsAt.len r e3];rfl
theorem XI {x:Tr} (hx:x.ok):∀ (r:Trs),r.ok→(r.snoc x).ok
 | .nil,_=>by show (Trs.cons x .nil).ok;unfold Trs.ok;exact ⟨hx,by unfold Trs.ok;trivial⟩
 | .cons y r,h=>by
  unfold Trs.ok at h
  show (Trs.cons y (r.snoc x)).ok
  unfold Trs.ok
  exact ⟨h.1,XI hx r h.2⟩
theorem qW (x:Tr):∀ (r:Trs),(r.snoc x).len=r.len + 1
 | .nil=>rfl
 | .cons y r=>by show (r.snoc x).len + 1=_;rw [qW x r];rfl
theorem ZD (x:Tr):∀ (r:Trs),(r.snoc x).deep=max r.deep x.deep
 | .nil=>by show (Trs.cons x .nil).deep=_;simp [Trs.deep]
 | .cons y r=>by
  show (Trs.cons y (r.snoc x)).deep=_
  rw [Trs.deep,Trs.deep,ZD x r];exact (Nat.max_assoc _ _ _).symm
def LvAt (F:Addr→Prop) (H:Hp) (L:Addr) (D:Trs) (tail:List V):Prop:=∃ xs,H L=some (.lst (xs ++ tail))∧TrsAt F H xs D
def ZAt (F:Addr→Prop) (H:Hp) (rl:Addr):List Fm→Addr→Trs→List V→List V→List Addr→Prop
 | [],inn,D,tail,bs,sp=>bs=[]∧inn=rl∧sp=[rl]∧LvAt F H rl D tail
 | f :: fs,inn,D,tail,bs,sp=>LvAt F H inn D tail∧∃ r te la lb up bs' sp',bs=.ref r :: bs'∧sp=la :: lb :: sp'∧H r=some (.tup [.str "if",.ref te,.ref la,.ref lb])∧H te=some (.tup (pst f.T)) ∧
  ((f.c=true∧inn=lb∧LvAt F H la f.a [])∨(f.c=false∧inn=la∧H lb=some (.lst [])))∧ZAt F H rl fs up f.up [.ref r] bs' sp'
def gdZ (n:Nat):Trs→List Fm→Prop
 | D,[]=>D.ok∧D.len≤n∧D.deep≤5
 | D,f :: fs=>(D.ok∧D.len≤n∧D.deep + (fs.length + 1)≤5)∧(f.a.ok∧f.a.len≤n∧f.a.deep + (fs.length + 1)≤5)∧q8 (.iff f.T)∧gdZ n f.up fs
theorem gdZ.mono {n m:Nat} (h:n≤m):∀ (fs:List Fm) {D:Trs},gdZ n D fs→gdZ m D fs
 | [],D,g=>⟨g.1,Nat.le_trans g.2.1 h,g.2.2⟩
 | f :: fs,D,g=>⟨⟨g.1.1,Nat.le_trans g.1.2.1 h,g.1.2.2⟩,⟨g.2.1.1,Nat.le_trans g.2.1.2.1 h,g.2.1.2.2⟩,g.2.2.1,gdZ.mono h fs g.2.2.2⟩
theorem gdZ.top {n:Nat}:∀ (fs:List Fm) {D:Trs},gdZ n D fs→D.ok∧D.len≤n∧D.deep + fs.length≤5
 | [],D,g=>g
 | f :: fs,D,g=>g.1
theorem gdZ.put {n:Nat} {D':Trs} (fs:List Fm) {D:Trs} (g:gdZ n D fs) (ok:D'.ok) (ln:D'.len≤n) (dp:D'.deep + fs.length≤5):gdZ n D' fs:=by
 cases fs with
 | nil=>exact ⟨ok,ln,dp⟩
 | cons f fs=>exact ⟨⟨ok,ln,dp⟩,g.2⟩
theorem Vo {n:Nat} {D D':Trs} {fs fs':List Fm} {h:Hd} (g:gdZ n D fs) (L:q8 h) (e:stp D fs h=some (D',fs')):gdZ (n + 1) D' fs':=by
 have g1:=gdZ.mono (Nat.le_succ n) fs g
 have tp:=gdZ.top fs g
 have plain:h.plain→stp D fs h=some (D.snoc (.row h),fs)→gdZ (n + 1) D' fs':=fun p e'=>by
  rw [e'] at e
  cases e
  exact gdZ.put fs g1 (XI (by unfold Tr.ok;exact ⟨L,p⟩) D tp.1) (by rw [qW];lia) (by rw [ZD,Tr.deep];lia)
 cases h with
 | take sh T sl=>exact plain trivial rfl
 | give sh T U=>exact plain trivial rfl
 | lt sl T=>exact plain trivial rfl
 | say T=>exact plain trivial rfl
 | off T=>exact plain trivial rfl
 | iff T =>
  have e:(if fs.length < 5 then some (Trs.nil,(⟨T,false,.nil,D⟩:Fm) :: fs) else none)=some (D',fs'):=e
  split at e
  ·cases e
   exact ⟨⟨by unfold Trs.ok;trivial,Nat.zero_le _,by rw [Trs.deep];lia⟩,⟨by unfold Trs.ok;trivial,Nat.zero_le _,by rw [Trs.deep];lia⟩,L,g1⟩
  ·cases e
 | els =>
  cases fs with
  | nil=>cases e
  | cons f fs =>
   have e:(if f.c=false then some (Trs.nil,(⟨f.T,true,D,f.up⟩:Fm) :: fs) else none)=some (D',fs'):=e
   split at e
   ·cases e
    exact ⟨⟨by unfold Trs.ok;trivial,Nat.zero_le _,by rw [Trs.deep];have:=tp.2.2;simp at this;lia⟩,g1.1,g1.2.2⟩
   ·cases e
 | nd =>
  cases fs with
  | nil=>cases e
  | cons f fs =>
   have e:some (f.up.snoc (.iff f.T (if f.c=true then f.a else D) (if f.c=true then D else .nil)),fs)=some (D',fs'):=e
   obtain ⟨rfl,rfl⟩:f.up.snoc (.iff f.T (if f.c=true then f.a else D) (if f.c=true then D else .nil))=D'∧fs=fs':=by
    have:=Option.some.inj e
    exact ⟨congrArg Prod.fst this,congrArg Prod.snd this⟩
   obtain ⟨⟨o1,l1,d1⟩,⟨o2,l2,d2⟩,L2,g2⟩:=g
   have tp2:=gdZ.top fs g2
   have okx:(Tr.iff f.T (if f.c=true then f.a else D) (if f.c=true then D else .nil)).ok:=by
    unfold Tr.ok
    refine ⟨L2,?_,?_⟩
    ·split
     ·exact o2
     ·exact o1
    ·split
     ·exact o1
     ·unfold Trs.ok;trivial
   have dpx:(Tr.iff f.T (if f.c=true then f.a else D) (if f.c=true then D else .nil)).deep + fs.length≤5:=by
    rw [Tr.deep]
    split
    ·lia
    ·rw [Trs.deep];lia
   exact gdZ.put fs (gdZ.mono (Nat.le_succ n) fs g2) (XI okx _ tp2.1) (by rw [qW];lia) (by rw [ZD];lia)
theorem LvAt.to {F G:Addr→Prop} {H H':Hp} {L:Addr} {D:Trs} {tail:List V} (k:D.ok) (g:∀ b ys,F b→H b=some (.lst ys)→G b) (s:TS H H') (l:∀ b ys,F b→H b=some (.lst ys)→H' b=some (.lst ys)) (p:∀ ys,H L=some (.lst ys)→H' L=some (.lst ys)) (h:LvAt F H L D tail):LvAt G H' L D tail:=by
 obtain ⟨xs,h1,h2⟩:=h
 exact ⟨xs,p _ h1,TrsAt.to g s l D k h2⟩
theorem ZAt.to {F G:Addr→Prop} {H H':Hp} {rl:Addr} (g:∀ b ys,F b→H b=some (.lst ys)→G b) (s:TS H H') (l:∀ b ys,F b→H b=some (.lst ys)→H' b=some (.lst ys)):∀ (fs:List Fm) {n:Nat} {inn:Addr} {D:Trs} {tail bs:List V} {sp:List Addr},gdZ n D fs→(∀ a∈sp,∀ ys,H a=some (.lst ys)→H' a=some (.lst ys))→ZAt F H rl fs inn D tail bs sp→ZAt G H' rl fs inn D tail bs sp
 | [],n,inn,D,tail,bs,sp,k,p,h=>by
  obtain ⟨e1,e2,e3,h⟩:=h
  subst e3
  exact ⟨e1,e2,rfl,h.to k.1 g s l (p rl (by simp))⟩
 | f :: fs,n,inn,D,tail,bs,sp,k,p,h=>by
  obtain ⟨h1,r,te,la,lb,up,bs',sp',e1,e2,e3,e4,e5,e6⟩:=h
  subst e2
  have pi:∀ ys,H inn=some (.lst ys)→H' inn=some (.lst ys):=by
   rcases e5 with ⟨_,e,_⟩ | ⟨_,e,_⟩ <;> rw [e]
   ·exact p lb (by simp)
   ·exact p la (by simp)
  refine ⟨h1.to k.1.1 g s l pi,r,te,la,lb,up,bs',sp',e1,rfl,s _ _ e3,s _ _ e4,?_,ZAt.to g s l fs k.2.2.2 (fun a ha=>p a (by simp [ha])) e6⟩
  rcases e5 with ⟨c1,c2,c3⟩ | ⟨c1,c2,c3⟩
  ·exact .inl ⟨c1,c2,c3.to k.2.1.1 g s l (p la (by simp))⟩
  ·exact .inr ⟨c1,c2,p lb (by simp) _ c3⟩
theorem ZAt.inn {F:Addr→Prop} {H:Hp} {rl:Addr}:∀ (fs:List Fm) {inn:Addr} {D:Trs} {tail bs:List V} {sp:List Addr},ZAt F H rl fs inn D tail bs sp→inn∈sp∧LvAt F H inn D tail∧bs.length=fs.length
 | [],inn,D,tail,bs,sp,h=>by
  obtain ⟨e1,e2,e3,h⟩:=h
  subst e1 e2 e3
  exact ⟨by simp,h,rfl⟩
 | f :: fs,inn,D,tail,bs,sp,h=>by
  obtain ⟨h1,r,te,la,lb,up,bs',sp',e1,e2,e3,e4,e5,e6⟩:=h
  have:=ZAt.inn fs e6
  refine ⟨?_,h1,by rw [e1,List.length_cons,this.2.2];rfl⟩
  rw [e2]
  rcases e5 with ⟨_,e,_⟩ | ⟨_,e,_⟩ <;> rw [e] <;> simp
theorem ZAt.tail {F G:Addr→Prop} {H H':Hp} {rl:Addr} (g:∀ b ys,F b→H b=some (.lst ys)→G b) (s:TS H H') (l:∀ b ys,F b→H b=some (.lst ys)→H' b=some (.lst ys)) {fs:List Fm} {n:Nat} {inn:Addr} {D:Trs} {bs:List V} {sp:List Addr} {xs:List V} {v:V} (k:gdZ n D fs) (nd:sp.Nodup) (p:∀ a∈sp,a≠inn→∀ ys,H a=some (.lst ys)→H' a=some (.lst ys)) (hx:H inn=some (.lst xs)) (hy:H' inn=some (.lst (xs ++ [v]))) (h:ZAt F H rl fs inn D [] bs sp):ZAt G H' rl fs inn D [v] bs sp:=by
 have lv:∀ {D:Trs},D.ok→LvAt F H inn D []→LvAt G H' inn D [v]:=fun kd h=>by
  obtain ⟨ys,h1,h2⟩:=h
  rw [List.append_nil] at h1
  rw [h1] at hx
  cases hx
  exact ⟨_,hy,TrsAt.to g s l _ kd h2⟩
 cases fs with
 | nil =>
  obtain ⟨e1,e2,e3,h⟩:=h
  subst e2
  exact ⟨e1,rfl,e3,lv k.1 h⟩
 | cons f fs =>
  obtain ⟨h1,r,te,la,lb,up,bs',sp',e1,e2,e3,e4,e5,e6⟩:=h
  subst e2
  rw [List.nodup_cons,List.nodup_cons] at nd
  obtain ⟨n1,n2,n3⟩:=nd
  have nab:la≠lb:=fun z=>n1 (by rw [z];simp)
  have ni:inn ∉ sp':=by
   rcases e5 with ⟨_,e,_⟩ | ⟨_,e,_⟩ <;> rw [e]
   ·exact n2
   ·exact fun z=>n1 (by simp [z])
  refine ⟨lv k.1.1 h1,r,te,la,lb,up,bs',sp',e1,rfl,s _ _ e3,s _ _ e4,?_,ZAt.to g s l fs k.2.2.2 (fun a ha=>p a (by simp [ha]) (fun z=>ni (z ▸ ha))) e6⟩
  rcases e5 with ⟨c1,c2,c3⟩ | ⟨c1,c2,c3⟩
  ·exact .inl ⟨c1,c2,c3.to k.2.1.1 g s l (p la (by simp) (by rw [c2];exact nab))⟩
  ·exact .inr ⟨c1,c2,p lb (by simp) (by rw [c2];exact Ne.symm nab) _ c3⟩
theorem ZAt.snoc {F:Addr→Prop} {H:Hp} {rl:Addr} {fs:List Fm} {inn:Addr} {D:Trs} {bs:List V} {sp:List Addr} {v:V} {x:Tr} (hx:TrAt F H v x) (h:ZAt F H rl fs inn D [v] bs sp):ZAt F H rl fs inn (D.snoc x) [] bs sp:=by
 have lv:∀ {L:Addr},LvAt F H L D [v]→LvAt F H L (D.snoc x) []:=fun h=>by
  obtain ⟨ys,h1,h2⟩:=h
  exact ⟨ys ++ [v],by rw [List.append_nil];exact h1,TrsAt.snoc hx D h2⟩
 cases fs with
 | nil =>
  obtain ⟨e1,e2,e3,h⟩:=h
  exact ⟨e1,e2,e3,lv h⟩
 | cons f fs =>
  obtain ⟨h1,h2⟩:=h
  exact ⟨lv h1,h2⟩
theorem Yc {x:Addr} {n:Int} {dx rl bl tl:Addr} {bks:List V} {trd:List Bool} {E:XK} (F:RdF K t) (R0:RdAt t H x dx rl bl tl bks trd) (hq:zco t H tl bks trd n Q E) :
  vz K t E { nx:=fun _ H'=>Q .non H',rt:=Q } (L2.start ["self","number"] [.ref x,.int n]) H:=by
 simp only [vz,y8,zat,yj,L2.start,wt,zq,zx,tOp,tUn,ze,tC,zW,zc,zk,zE,tOr,zp,tB,yC,rU,List.map,List.replicate,List.length,List.append,jqa,jqb,jqc,jqd,jqe,jqf,jqg,jqh,jqi,jqj,jqk,jql,jqm,jqn,and_true,true_and,and_assoc,jqo,jqp,jqq,Nat.reduceSub,Nat.reduceAdd,jqr,jqs,jqt,Int.reduceToNat,Int.reducePow,Int.reduceNeg,Int.reduceMul,Int.reduceAdd,if_true,ite_true,jqu,ite_false,if_false]
 refine ⟨_,_,_,R0.ix,F.cl,F.n2,_,rfl,Nat.zero_le _,fun p hp=>?_⟩
 have s1:=isV (o:=HO.lst []) p hp
 refine ⟨bl,rfl,_,SqL.of (s1 _ _ R0.hb),SqL.of zd,?_⟩
 rcases hq with ⟨blocks,b,turned,rfl,rfl,q⟩ | ⟨e | ⟨blocks,b,turned,rfl,rfl⟩,q⟩
 case inr.inl=>rw [if_pos e];exact jH q s1
 case inr.inr =>
  rw [if_neg (by simp)]
  have ht1:=s1 _ _ R0.ht
  rw [List.map_append] at ht1
  refine ⟨_,_,_,s1 _ _ R0.ix,F.cl,F.n3,_,rfl,tl,rfl,_,SqL.of ht1,_,YE,_,rfl,?_⟩
  rw [if_pos rfl]
  exact jH q s1
 have R:=R0
 rw [if_neg (by simp)]
 have ht1:=s1 _ _ R.ht
 rw [List.map_append] at ht1
 refine ⟨_,_,_,s1 _ _ R.ix,F.cl,F.n3,_,rfl,tl,rfl,_,SqL.of ht1,_,YE,_,rfl,?_⟩
 rw [if_neg (by decide)]
 refine ⟨_,_,_,s1 _ _ R.ix,F.cl,F.n3,_,rfl,tl,rfl,_,ht1,turned.length,?_,by decide,by decide,?_⟩
 ·unfold ixN
  rw [if_neg (by decide),if_pos (by simp;lia)]
  simp
  lia
 ·have e:(turned.map V.bl ++ [false].map V.bl).set turned.length (V.bl true)=(turned ++ [true]).map V.bl:=by
   rw [List.map_append,List.set_append,if_neg (by simp)]
   simp
  rw [e]
  exact q _ s1
theorem Yd {x:Addr} {v:V} {n:Int} {dx rl bl tl:Addr} {blocks:List V} {turned:List Bool} {hd:Hd} {F:Addr→Prop} {E:XK} (R:RdAt t H x dx rl bl tl blocks turned) (h2:HdAt F H v hd)
  (h3:zcR t H rl bl tl blocks turned v n hd Q E) :
  vB K t E { nx:=fun _ H'=>Q .non H',rt:=Q } (L2.start ["self","row","number"] [.ref x,v,.int n]) H:=by
 obtain ⟨r,xs,w,rfl,hr,ha,i1,i2,i3⟩:=zbz h2
 simp only [vB,yI,wZ,vp,vo,yJ,L2.start,zO,xx,ZN,yq,tOp,ze,tC,zc,zk,zE,zp,tBM,tyV,ZN,rEq,yR,List.map,List.replicate,List.length,List.append,jqa,jqb,jqc,jqd,jqe,jqf,jqg,jqh,jqi,jqj,jqk,jql,jqm,jqn,and_true,true_and,and_assoc,jqo,jqp,jqq,Nat.reduceSub,Nat.reduceAdd,jqr,jqs,jqt,Int.reduceToNat,Int.reducePow,Int.reduceNeg,Int.reduceMul,Int.reduceAdd,if_true,ite_true,jqu,ite_false,if_false]
 refine ⟨_,SqT.of hr,_,ha,rfl,?_⟩
 rcases h3 with ⟨rfl,q⟩ | ⟨rfl,q⟩ | ⟨hI,inn,zs,hi,hz,lz,n1,n2,q⟩ | ⟨hP,inn,zs,hi,hz,lz,q⟩
 ·rw [if_pos (congrArg V.str (i1.mpr rfl))]
  exact ⟨_,_,R.ix,rfl,dx,rl,bl,tl,blocks,turned,R,q⟩
 ·rw [if_neg (fun z=>nomatch i1.mp (V.str.inj z))]
  refine ⟨_,SqT.of hr,_,ha,rfl,?_⟩
  rw [if_pos (congrArg V.str (i2.mpr rfl))]
  exact ⟨_,_,R.ix,rfl,dx,rl,bl,tl,blocks,turned,R,q⟩
 ·rw [if_neg (fun z=>by obtain ⟨T,e⟩:=hI;have:=i1.mp (V.str.inj z);rw [e] at this;cases this)]
  refine ⟨_,SqT.of hr,_,ha,rfl,?_⟩
  rw [if_neg (fun z=>by obtain ⟨T,e⟩:=hI;have:=i2.mp (V.str.inj z);rw [e] at this;cases this)]
  refine ⟨_,SqT.of hr,_,ha,rfl,?_⟩
  rw [if_pos (congrArg V.str (i3.mpr hI))]
  exact ⟨_,_,R.ix,rfl,dx,rl,bl,tl,blocks,turned,R,inn,hi,zs,hz,lz,n1,n2,q⟩
 ·rw [if_neg (fun z=>by have:=i1.mp (V.str.inj z);rw [this] at hP;exact hP)]
  refine ⟨_,SqT.of hr,_,ha,rfl,?_⟩
  rw [if_neg (fun z=>by have:=i2.mp (V.str.inj z);rw [this] at hP;exact hP)]
  refine ⟨_,SqT.of hr,_,ha,rfl,?_⟩
  rw [if_neg (fun z=>by obtain ⟨T,e⟩:=i3.mp (V.str.inj z);rw [e] at hP;exact hP)]
  exact ⟨_,_,R.ix,rfl,dx,rl,bl,tl,blocks,turned,R,inn,hi,fun H1 s1=>⟨.inl ⟨_,SqL.of (s1 _ _ hz)⟩,zs,s1 _ _ hz,Nat.lt_of_le_of_lt (by lia:zs.length≤1000) (by decide),q H1 s1⟩⟩
theorem ZE {H:Hp} {u:Addr} {xs ys:List V} (h:H u=some (.lst xs)):TS H (upd H u (.lst ys)):=fun b zs e=>by
 rw [zw (jk e h (fun z=>nomatch z))];exact e
theorem TS.trans {H H1 H2:Hp} (a:TS H H1) (b:TS H1 H2):TS H H2:=fun x ys e=>b _ _ (a _ _ e)
def Fz (sp:List Addr) (bl tl:Addr) (b:Addr):Prop:=b ∉ sp∧b≠bl∧b≠tl
structure RZ (t:Adr) (H0 H:Hp) (rd dx rl bl tl:Addr) (i:Nat) (D:Trs) (fs:List Fm) (inn:Addr) (bs:List V) (sp:List Addr):Prop where
 sm:Same H0 H
 gd:gdZ i D fs
 ra:RdAt t H rd dx rl bl tl bs.reverse (fs.map Fm.c).reverse
 za:ZAt (Fz sp bl tl) H rl fs inn D [] bs sp
 nd:sp.Nodup
 sp:∀ a∈sp,H0 a=none∧a≠bl∧a≠tl
 f2:H0 bl=none
 f3:H0 tl=none
theorem RZ.same {H0 H H':Hp} {rd dx rl bl tl:Addr} {i:Nat} {D:Trs} {fs:List Fm} {inn:Addr} {bs:List V} {sp:List Addr} (Z:RZ t H0 H rd dx rl bl tl i D fs inn bs sp) (s:Same H H'):RZ t H0 H' rd dx rl bl tl i D fs inn bs sp :=
 ⟨Z.sm.trans s,Z.gd,Z.ra.same s,ZAt.to (fun _ _ f _=>f) (fun _ _ e=>s _ _ e) (fun _ _ _ e=>s _ _ e) fs Z.gd (fun _ _ _ e=>s _ _ e) Z.za,Z.nd,Z.sp,Z.f2,Z.f3⟩
theorem RZ.inn {H0 H:Hp} {rd dx rl bl tl:Addr} {i:Nat} {D:Trs} {fs:List Fm} {inn:Addr} {bs:List V} {sp:List Addr} (Z:RZ t H0 H rd dx rl bl tl i D fs inn bs sp):Inn H rl bs.reverse (fs.map Fm.c).reverse inn∧inn∈sp∧∃ zs,H inn=some (.lst zs)∧zs.length≤i:=by
 obtain ⟨h1,⟨xs,h2,h3⟩,h4⟩:=ZAt.inn fs Z.za
 rw [List.append_nil] at h2
 refine ⟨?_,h1,xs,h2,by rw [TrsAt.len D h3];exact (gdZ.top fs Z.gd).2.1⟩
 have za:=Z.za
 cases fs with
 | nil=>exact .inl ⟨by rw [za.1];rfl,za.2.1⟩
 | cons f fs =>
  obtain ⟨_,r,te,la,lb,up,bs',sp',e1,e2,e3,e4,e5,e6⟩:=za
  refine .inr ⟨bs'.reverse,r,_,_,la,lb,(fs.map Fm.c).reverse,f.c,by rw [e1,List.reverse_cons],by rw [List.map_cons,List.reverse_cons],e3,?_⟩
  rcases e5 with ⟨c1,c2,_⟩ | ⟨c1,c2,_⟩
  ·rw [c2,if_pos c1]
  ·rw [c2,if_neg (by rw [c1];decide)]
theorem yp {H:Hp} {u b:Addr} {o:HO} {ys:List V} (n:b≠u) (e:H b=some (.lst ys)):upd H u o b=some (.lst ys):=by rw [zw n];exact e
theorem RZ.plain {H0 H:Hp} {rd dx rl bl tl:Addr} {i:Nat} {D D':Trs} {fs fs':List Fm} {inn:Addr} {bs:List V} {sp:List Addr} {zs:List V} {v:V} {h:Hd} (Z:RZ t H0 H rd dx rl bl tl i D fs inn bs sp) (hz:H inn=some (.lst zs)) (p:h.plain) (L:q8 h) (hv:HdAt W9 H v h) (e:stp D fs h=some (D',fs')):RZ t H0 (upd H inn (.lst (zs ++ [v]))) rd dx rl bl tl (i + 1) D' fs' inn bs sp:=by
 have mi:=Z.inn.2.1
 have si:=Z.sp inn mi
 have e':D'=D.snoc (.row h)∧fs'=fs:=by
  cases h <;> first | exact p.elim | (cases e;exact ⟨rfl,rfl⟩)
 have g:=Vo Z.gd L e
 obtain ⟨rfl,rfl⟩:=e'
 have T:=ZE (ys:=zs ++ [v]) hz
 refine ⟨yO Z.sm si.1,g,⟨?_,?_,?_,Z.ra.n1,Z.ra.n2,Z.ra.n3,Z.ra.le,Z.ra.l5⟩,?_,Z.nd,Z.sp,Z.f2,Z.f3⟩
 ·rw [zw (jk Z.ra.ix hz (fun z=>nomatch z))];exact Z.ra.ix
 ·exact yp (Ne.symm si.2.1) Z.ra.hb
 ·exact yp (Ne.symm si.2.2) Z.ra.ht
 ·refine ZAt.snoc (x:=.row h) (by unfold TrAt;exact zcS p T hv) ?_
  exact ZAt.tail (fun _ _ f _=>f) T (fun b ys f e=>yp (fun z=>f.1 (z ▸ mi)) e) Z.gd Z.nd (fun a _ n ys e=>yp n e) hz zd Z.za
theorem ZAt.alive {F:Addr→Prop} {H:Hp} {rl:Addr}:∀ (fs:List Fm) {inn:Addr} {D:Trs} {tail bs:List V} {sp:List Addr},ZAt F H rl fs inn D tail bs sp→∀ a∈sp,∃ o,H a=some o
 | [],inn,D,tail,bs,sp,h=>by
  obtain ⟨e1,e2,e3,xs,h1,h2⟩:=h
  subst e3
  exact fun a ha=>by rw [List.mem_singleton.mp ha];exact ⟨_,h1⟩
 | f :: fs,inn,D,tail,bs,sp,h=>by
  obtain ⟨⟨xs,h1,h2⟩,r,te,la,lb,up,bs',sp',e1,e2,e3,e4,e5,e6⟩:=h
  subst e2
  intro a ha
  simp only [List.mem_cons] at ha
  rcases ha with rfl | rfl | ha
  ·rcases e5 with ⟨_,_,⟨ys,h3,_⟩⟩ | ⟨_,e,_⟩
   ·exact ⟨_,h3⟩
   ·rw [← e];exact ⟨_,h1⟩
  ·rcases e5 with ⟨_,e,_⟩ | ⟨_,_,h3⟩
   ·rw [← e];exact ⟨_,h1⟩
   ·exact ⟨_,h3⟩
  ·exact ZAt.alive fs e6 a ha
theorem RZ.alive {H0 H:Hp} {rd dx rl bl tl:Addr} {i:Nat} {D:Trs} {fs:List Fm} {inn:Addr} {bs:List V} {sp:List Addr} (Z:RZ t H0 H rd dx rl bl tl i D fs inn bs sp) {a:Addr} (ha:a∈sp):∃ o,H a=some o:=ZAt.alive fs Z.za a ha
theorem RZ.iff {H0 Hf H:Hp} {rd dx rl bl tl:Addr} {i:Nat} {D D':Trs} {fs fs':List Fm} {inn:Addr} {bs:List V} {sp:List Addr} {zs:List V} {v:V} {T:Tw} (Zf:RZ t H0 Hf rd dx rl bl tl i D fs inn bs sp) (s:Same Hf H) (hz:H inn=some (.lst zs)) (L:q8 (.iff T)) (hv:HdAt (fun b=>Hf b=none) H v (.iff T)) (e:stp D fs (.iff T)=some (D',fs')):∃ inn' bs' sp',RZ t H0 (upd (upd (upd H inn (.lst (zs ++ [v]))) bl (.lst (bs.reverse ++ [v]))) tl (.lst (((fs.map Fm.c).reverse ++ [false]).map V.bl))) rd dx rl bl tl (i + 1) D' fs' inn' bs' sp':=by
 have Z:=Zf.same s
 have mi:=Z.inn.2.1
 have si:=Z.sp inn mi
 have g:=Vo Z.gd L e
 obtain ⟨r,te,la,lb,rfl,hr,hte,hla,hlb,fa,fb,nab⟩:=hv
 have e:(if fs.length < 5 then some (Trs.nil,(⟨T,false,.nil,D⟩:Fm) :: fs) else none)=some (D',fs'):=e
 split at e
 ·rename_i l5
  cases e
  have hb1:upd H inn (.lst (zs ++ [V.ref r])) bl=some (.lst bs.reverse):=yp (Ne.symm si.2.1) Z.ra.hb
  have ht1:upd (upd H inn (.lst (zs ++ [V.ref r]))) bl (.lst (bs.reverse ++ [V.ref r])) tl=some (.lst ((fs.map Fm.c).reverse.map V.bl)):=yp (Ne.symm Z.ra.n3) (yp (Ne.symm si.2.2) Z.ra.ht)
  have T1:=ZE (ys:=zs ++ [V.ref r]) hz
  have T2:=ZE (ys:=bs.reverse ++ [V.ref r]) hb1
  have T3:=ZE (ys:=((fs.map Fm.c).reverse ++ [false]).map V.bl) ht1
  have TT:=T1.trans (T2.trans T3)
  have al:∀ {a:Addr},a∈sp→∃ o,Hf a=some o:=fun {a} ha=>Zf.alive ha
  have na:la ∉ sp:=fun z=>by obtain ⟨o,h⟩:=al z;rw [fa] at h;cases h
  have nb:lb ∉ sp:=fun z=>by obtain ⟨o,h⟩:=al z;rw [fb] at h;cases h
  have nA:la≠bl∧la≠tl:=⟨qL Zf.ra.hb fa,qL Zf.ra.ht fa⟩
  have nB:lb≠bl∧lb≠tl:=⟨qL Zf.ra.hb fb,qL Zf.ra.ht fb⟩
  have ia:la≠inn:=fun z=>na (z ▸ mi)
  have ib:lb≠inn:=fun z=>nb (z ▸ mi)
  have ix:upd (upd (upd H inn (.lst (zs ++ [V.ref r]))) bl (.lst (bs.reverse ++ [V.ref r]))) tl (.lst (((fs.map Fm.c).reverse ++ [false]).map V.bl)) rd=H rd:=by
   rw [zw (jk Z.ra.ix Z.ra.ht (fun z=>nomatch z)),zw (jk Z.ra.ix Z.ra.hb (fun z=>nomatch z)),zw (jk Z.ra.ix hz (fun z=>nomatch z))]
  have le:=(ZAt.inn fs Z.za).2.2
  refine ⟨la,.ref r :: bs,la :: lb :: sp,yO (yO (yO Z.sm si.1) Z.f2) Z.f3,g,⟨?_,?_,?_,Z.ra.n1,Z.ra.n2,Z.ra.n3,?_,?_⟩,?_,?_,?_,Z.f2,Z.f3⟩
  ·rw [ix];exact Z.ra.ix
  ·rw [zw Z.ra.n3,zd,List.reverse_cons]
  ·rw [zd,List.map_cons,List.reverse_cons]
  ·simp [le]
  ·simp;lia
  ·refine ⟨⟨[],?_,by unfold TrsAt;rfl⟩,r,te,la,lb,inn,bs,sp,rfl,rfl,TT _ _ hr,TT _ _ hte,.inr ⟨rfl,rfl,?_⟩,?_⟩
   ·exact yp nA.2 (yp nA.1 (yp ia hla))
   ·exact yp nB.2 (yp nB.1 (yp ib hlb))
   ·have Z0:=ZAt.to (F:=Fz sp bl tl) (G:=Fz (la :: lb :: sp) bl tl) (H:=Hf) (H':=H) (rl:=rl) (fun b ys f e=>⟨by
      simp only [List.mem_cons,not_or]
      exact ⟨zS e fa,zS e fb,f.1⟩,f.2⟩) (fun _ _ e=>s _ _ e) (fun _ _ _ e=>s _ _ e) fs Zf.gd (fun _ _ _ e=>s _ _ e) Zf.za
    refine ZAt.tail (fun _ _ f _=>f) TT (fun b ys f e=>?_) Z.gd Z.nd (fun a ha n ys e=>?_) hz ?_ Z0
    ·have:b≠inn:=fun z=>f.1 (by simp [z,mi])
     exact yp f.2.2 (yp f.2.1 (yp this e))
    ·exact yp (Z.sp a ha).2.2 (yp (Z.sp a ha).2.1 (yp n e))
    ·exact yp si.2.2 (yp si.2.1 zd)
  ·rw [List.nodup_cons,List.nodup_cons]
   exact ⟨by simp [nab,na],nb,Z.nd⟩
  ·intro a ha
   simp only [List.mem_cons] at ha
   rcases ha with rfl | rfl | ha
   ·exact ⟨wB Zf.sm fa,nA⟩
   ·exact ⟨wB Zf.sm fb,nB⟩
   ·exact Z.sp a ha
 ·cases e
theorem RZ.els {H0 H:Hp} {rd dx rl bl tl:Addr} {i:Nat} {D D':Trs} {fs fs':List Fm} {inn:Addr} {bs:List V} {sp:List Addr} (Z:RZ t H0 H rd dx rl bl tl i D fs inn bs sp) (L:q8 .els) (e:stp D fs .els=some (D',fs')):∃ bs1 b cs,bs.reverse=bs1 ++ [b]∧(fs.map Fm.c).reverse=cs ++ [false]∧∃ inn',RZ t H0 (upd H tl (.lst ((cs ++ [true]).map V.bl))) rd dx rl bl tl (i + 1) D' fs' inn' bs sp:=by
 have g:=Vo Z.gd L e
 cases fs with
 | nil=>cases e
 | cons f fs =>
  have e:(if f.c=false then some (Trs.nil,(⟨f.T,true,D,f.up⟩:Fm) :: fs) else none)=some (D',fs'):=e
  split at e
  ·rename_i fc
   cases e
   have za:=Z.za
   obtain ⟨h1,r,te,la,lb,up,bs',sp',e1,e2,e3,e4,e5,e6⟩:=za
   have T:=ZE (ys:=((fs.map Fm.c).reverse ++ [true]).map V.bl) Z.ra.ht
   have pr:∀ a∈sp,∀ ys,H a=some (.lst ys)→upd H tl (.lst (((fs.map Fm.c).reverse ++ [true]).map V.bl)) a=some (.lst ys):=fun a ha ys h=>yp (Z.sp a ha).2.2 h
   have l:∀ b ys,Fz sp bl tl b→H b=some (.lst ys)→upd H tl (.lst (((fs.map Fm.c).reverse ++ [true]).map V.bl)) b=some (.lst ys):=fun b ys f h=>yp f.2.2 h
   refine ⟨bs'.reverse,.ref r,(fs.map Fm.c).reverse,by rw [e1,List.reverse_cons],by rw [List.map_cons,List.reverse_cons,fc],lb,yO Z.sm Z.f3,g,⟨?_,?_,?_,Z.ra.n1,Z.ra.n2,Z.ra.n3,?_,Z.ra.l5⟩,?_,Z.nd,Z.sp,Z.f2,Z.f3⟩
   ·rw [zw (jk Z.ra.ix Z.ra.ht (fun z=>nomatch z))];exact Z.ra.ix
   ·exact yp Z.ra.n3 Z.ra.hb
   ·rw [zd,List.map_cons,List.reverse_cons]
   ·have:=Z.ra.le;simpa using this
   ·rcases e5 with ⟨c1,_⟩ | ⟨c1,c2,c3⟩
    ·rw [fc] at c1;cases c1
    ·subst e2
     subst c2
     refine ⟨⟨[],?_,by unfold TrsAt;rfl⟩,r,te,inn,lb,up,bs',sp',e1,rfl,T _ _ e3,T _ _ e4,.inl ⟨rfl,rfl,?_⟩,?_⟩
     ·exact pr lb (by simp) _ c3
     ·exact h1.to Z.gd.1.1 (fun _ _ f _=>f) T l (pr inn (by simp))
     ·exact ZAt.to (fun _ _ f _=>f) T l fs Z.gd.2.2.2 (fun a ha=>pr a (by simp [ha])) e6
  ·cases e
theorem RZ.nd_ {H0 H:Hp} {rd dx rl bl tl:Addr} {i:Nat} {D D':Trs} {fs fs':List Fm} {inn:Addr} {bs:List V} {sp:List Addr} (Z:RZ t H0 H rd dx rl bl tl i D fs inn bs sp) (L:q8 .nd) (e:stp D fs .nd=some (D',fs')):∃ bs1 b cs c,bs.reverse=bs1 ++ [b]∧(fs.map Fm.c).reverse=cs ++ [c]∧∃ inn' bs' sp',RZ t H0 (upd (upd H bl (.lst bs1)) tl (.lst (cs.map V.bl))) rd dx rl bl tl (i + 1) D' fs' inn' bs' sp':=by
 have g:=Vo Z.gd L e
 cases fs with
 | nil=>cases e
 | cons f fs =>
  have e:some (f.up.snoc (.iff f.T (if f.c=true then f.a else D) (if f.c=true then D else .nil)),fs)=some (D',fs'):=e
  obtain ⟨rfl,rfl⟩:f.up.snoc (.iff f.T (if f.c=true then f.a else D) (if f.c=true then D else .nil))=D'∧fs=fs':=by
   have:=Option.some.inj e
   exact ⟨congrArg Prod.fst this,congrArg Prod.snd this⟩
  have za:=Z.za
  obtain ⟨h1,r,te,la,lb,up,bs',sp',e1,e2,e3,e4,e5,e6⟩:=za
  have ht1:upd H bl (.lst bs'.reverse) tl=some (.lst (((f :: fs).map Fm.c).reverse.map V.bl)):=yp (Ne.symm Z.ra.n3) Z.ra.ht
  have T:=(ZE (ys:=bs'.reverse) Z.ra.hb).trans (ZE (ys:=(fs.map Fm.c).reverse.map V.bl) ht1)
  have pr:∀ a∈sp,∀ ys,H a=some (.lst ys)→upd (upd H bl (.lst bs'.reverse)) tl (.lst ((fs.map Fm.c).reverse.map V.bl)) a=some (.lst ys):=fun a ha ys h=>yp (Z.sp a ha).2.2 (yp (Z.sp a ha).2.1 h)
  have l:∀ b ys,Fz sp bl tl b→H b=some (.lst ys)→upd (upd H bl (.lst bs'.reverse)) tl (.lst ((fs.map Fm.c).reverse.map V.bl)) b=some (.lst ys):=fun b ys f h=>yp f.2.2 (yp f.2.1 h)
  have nd:=Z.nd
  have sp0:=Z.sp
  subst e2
  rw [List.nodup_cons,List.nodup_cons] at nd
  obtain ⟨n1,n2,n3⟩:=nd
  have gF:∀ b ys,Fz (la :: lb :: sp') bl tl b→H b=some (.lst ys)→Fz sp' bl tl b:=fun b _ f _=>⟨fun z=>f.1 (by simp [z]),f.2⟩
  have fa:Fz sp' bl tl la:=⟨fun z=>n1 (by simp [z]),(sp0 la (by simp)).2⟩
  have fb:Fz sp' bl tl lb:=⟨n2,(sp0 lb (by simp)).2⟩
  have le:=(ZAt.inn fs e6).2.2
  have l5:=Z.ra.l5
  refine ⟨bs'.reverse,.ref r,(fs.map Fm.c).reverse,f.c,by rw [e1,List.reverse_cons],by rw [List.map_cons,List.reverse_cons],up,bs',sp',yO (yO Z.sm Z.f2) Z.f3,g,⟨?_,?_,?_,Z.ra.n1,Z.ra.n2,Z.ra.n3,?_,?_⟩,?_,n3,fun a ha=>sp0 a (by simp [ha]),Z.f2,Z.f3⟩
  ·rw [zw (jk Z.ra.ix Z.ra.ht (fun z=>nomatch z)),zw (jk Z.ra.ix Z.ra.hb (fun z=>nomatch z))];exact Z.ra.ix
  ·exact yp Z.ra.n3 zd
  ·exact zd
  ·simp [le]
  ·rw [e1] at l5;simp at l5 ⊢;lia
  ·refine ZAt.snoc ?_ (ZAt.to gF T l fs Z.gd.2.2.2 (fun a ha=>pr a (by simp [ha])) e6)
   unfold TrAt
   rcases e5 with ⟨c1,c2,ys,c3,c4⟩ | ⟨c1,c2,c3⟩
   ·subst c2
    obtain ⟨xs,h2,h3⟩:=h1
    rw [List.append_nil] at h2 c3
    rw [if_pos c1,if_pos c1]
    exact ⟨r,te,la,inn,ys,xs,rfl,fa,fb,T _ _ e3,T _ _ e4,pr la (by simp) _ c3,TrsAt.to gF T l _ Z.gd.2.1.1 c4,pr inn (by simp) _ h2,TrsAt.to gF T l _ Z.gd.1.1 h3⟩
   ·subst c2
    obtain ⟨xs,h2,h3⟩:=h1
    rw [List.append_nil] at h2
    rw [if_neg (by rw [c1];decide),if_neg (by rw [c1];decide)]
    exact ⟨r,te,inn,lb,xs,[],rfl,fa,fb,T _ _ e3,T _ _ e4,pr inn (by simp) _ h2,TrsAt.to gF T l _ Z.gd.1.1 h3,pr lb (by simp) _ c3,by unfold TrsAt;rfl⟩
theorem Jk {x:Str} {h:Hd} (e:hdS x=some h):x=h.line∧q8 h:=by
 unfold hdS at e
 split at e
 ·rename_i z
  rw [← Option.some.inj e]
  exact z.choose_spec
 ·cases e
theorem Jl {x:Str} (e:hdS x=none):KH x:=fun hd h L=>by
 unfold hdS at e
 split at e
 ·cases e
 ·rename_i z
  exact z ⟨hd,h,L⟩
def rdI (t:Adr) (o1:V) (xl rd dx rl bl tl:Addr) (ls:List Str) (H0:Hp) (i:Nat) (σ:St) (H':Hp):Prop:=(∃ o3 o4,σ=[some o1,some (.ref xl),some (.ref rd),o3,o4])∧∃ D fs inn bs sp,rdE .nil [] 0 ls=rdE D fs i (ls.drop i)∧RZ t H0 H' rd dx rl bl tl i D fs inn bs sp
theorem Qt {o1:V} {xl rd dx rl bl tl:Addr} {ls:List Str} {H0:Hp} {E:XK} (F:RdF K t) (hl:H0 xl=some (.lst (ls.map V.str))) (s0:Same H0 H) (R:RdAt t H rd dx rl bl tl [] []) (hr:H rl=some (.lst [])) (f1:H0 rl=none) (f2:H0 bl=none) (f3:H0 tl=none) (L:∀ x∈ls,(x.length≤20000∧Asc x)∧10 ∉ x.cps.toList) (q:∀ D,rdE .nil [] 0 ls=.ok D→∀ H' xs,Same H0 H'→H' rl=some (.lst xs)→TrsAt W9 H' xs D→Q (.ref rl) H') (q2:∀ k,rdE .nil [] 0 ls=.error k→ndE t E H0 k) :
  Yz K t E { nx:=fun _ H'=>Q .non H',rt:=Q } [some o1,some (.ref xl),some (.ref rd),none,none] H:=by
 simp only [Yz,Yw,vq,y8,yJ,y6,Qk,yj,L2.start,zq,zo,WL,qb,WK,zF,yq,zx,tOp,ze,zW,zc,zk,xP,zE,zp,tCB,zC,yU,z0,List.map,List.replicate,List.length,List.append,jqa,jqb,jqc,jqd,jqe,jqf,jqg,jqh,jqi,jqj,jqk,jql,jqm,jqn,and_true,true_and,and_assoc,jqo,jqp,jqq,Nat.reduceSub,Nat.reduceAdd,jqr,jqs,jqt,Int.reduceToNat,Int.reducePow,Int.reduceNeg,Int.reduceMul,Int.reduceAdd,if_true,ite_true,jqu,ite_false,if_false]
 refine ⟨_,SqL.of (s0 _ _ hl),JU (ls.map V.str) (rdI t o1 xl rd dx rl bl tl ls H0) ⟨⟨_,_,rfl⟩,.nil,[],rl,[],[rl],rfl,s0,⟨by unfold Trs.ok;trivial,Nat.zero_le _,by rw [Trs.deep];lia⟩,R,⟨rfl,rfl,rfl,[],hr,by unfold TrsAt;rfl⟩,by simp,fun a ha=>by rw [List.mem_singleton.mp ha];exact ⟨f1,R.n1,R.n2⟩,f2,f3⟩ (fun i σ H' ⟨_,_,_,_,_,_,_,Z⟩=>SqL.of (Z.sm _ _ hl)) ?_ ?_⟩
 ·rintro i u A σ H' hu hA ⟨⟨o3,o4,rfl⟩,D1,fs,inn,bs,sp,r1,Z⟩
  rw [List.getElem?_map] at hu
  cases ht:ls[i]? with
  | none=>rw [ht] at hu;cases hu
  | some x =>
   rw [ht] at hu
   have hu:V.str x=u:=Option.some.inj hu
   subst hu
   have hi:=(List.getElem?_eq_some_iff.mp ht).1
   have Lx:=L x (List.mem_of_getElem? ht)
   have dr:ls.drop i=x :: ls.drop (i + 1):=xY ht
   rw [dr] at r1
   have r1:rdE .nil [] 0 ls=if 40≤i then .error i else match hdS x with | some h=>(match stp D1 fs h with | some z=>rdE z.1 z.2 (i + 1) (ls.drop (i + 1)) | none=>.error i) | none=>.error i:=r1
   have s1:=isV (o:=HO.tup [V.int (i:Int),V.str x]) A hA
   have Z1:=Z.same s1
   simp only [y8,yJ,y6,Qk,yj,L2.start,zq,zo,WL,qb,WK,zF,yq,zx,tOp,ze,zW,zc,zk,xP,zE,zp,tCB,zC,yU,z0,List.map,List.replicate,List.length,List.append,jqa,jqb,jqc,jqd,jqe,jqf,jqg,jqh,jqi,jqj,jqk,jql,jqm,jqn,and_true,true_and,and_assoc,jqo,jqp,jqq,Nat.reduceSub,Nat.reduceAdd,jqr,jqs,jqt,Int.reduceToNat,Int.reducePow,Int.reduceNeg,Int.reduceMul,Int.reduceAdd,if_true,ite_true,jqu,ite_false,if_false]
   refine ⟨_,SqT.of zd,rfl,_,_,rfl,_,_,rfl,rfl,_,_,s1 _ _ Z.ra.ix,rfl,_,rfl,i,rfl,Lx.1.1,Lx.1.2,Lx.2,?_⟩
   by_cases h40:40≤i
   ·rw [if_pos h40] at r1;exact .inr ⟨.inl h40,(q2 i r1).mono Z1.sm⟩
   rw [if_neg h40] at r1
   cases hh:hdS x with
   | none=>rw [hh] at r1;exact .inr ⟨.inr (Jl hh),(q2 i r1).mono Z1.sm⟩
   | some h =>
   rw [hh] at r1
   have r1:rdE .nil [] 0 ls=match stp D1 fs h with | some z=>rdE z.1 z.2 (i + 1) (ls.drop (i + 1)) | none=>.error i:=r1
   obtain ⟨ex,Lh⟩:=Jk hh
   refine .inl ⟨by lia,h,ex,Lh,fun H2 v s2 hv=>?_⟩
   have Z2:=Z1.same s2
   refine ⟨(i:Int),rfl,dx,rl,bl,tl,bs.reverse,(fs.map Fm.c).reverse,Z2.ra,h,_,hv,?_⟩
   obtain ⟨hin,him,zs,hz,lz⟩:=Z2.inn
   have le:=(ZAt.inn fs Z2.za).2.2
   have er:stp D1 fs h=none→ndE t E H2 i:=fun e=>by rw [e] at r1;exact (q2 i r1).mono Z2.sm
   cases h with
   | iff T =>
    have si:=Z2.sp inn him
    refine .inr (.inr (.inl ⟨⟨T,rfl⟩,inn,zs,hin,hz,by lia,si.2.1,si.2.2,fun l5 H3 s3=>?_,fun l5=>er ?_⟩))
    ·rw [List.length_reverse] at l5
     have st:stp D1 fs (.iff T)=some (Trs.nil,(⟨T,false,.nil,D1⟩:Fm) :: fs):=if_pos (by lia)
     rw [st] at r1
     obtain ⟨inn',bs',sp',Z3⟩:=Z1.iff (s2.trans s3) (s3 _ _ hz) Lh (hv.to (fun _ f=>f) s3) st
     exact ⟨⟨_,_,rfl⟩,_,_,inn',bs',sp',r1,Z3⟩
    ·rw [List.length_reverse] at l5
     exact if_neg (by lia)
   | els =>
    refine .inl ⟨rfl,?_⟩
    cases st:stp D1 fs .els with
    | some z =>
     obtain ⟨D',fs'⟩:=z
     rw [st] at r1
     obtain ⟨bs1,b,cs,e1,e2,_⟩:=Z2.els Lh st
     refine .inl ⟨bs1,b,cs,e1,e2,fun H3 s3=>?_⟩
     obtain ⟨bs1',b',cs',e1',e2',inn',Z3⟩:=(Z2.same s3).els Lh st
     have:cs'=cs:=List.append_inj_left' (e2'.symm.trans e2) rfl
     subst this
     exact ⟨⟨_,_,rfl⟩,D',fs',inn',bs,sp,r1,Z3⟩
    | none =>
     refine .inr ⟨?_,er st⟩
     cases fs with
     | nil=>exact .inl (by have e:=Z2.za.1;rw [e];rfl)
     | cons f fs =>
      have st:(if f.c=false then some (Trs.nil,(⟨f.T,true,D1,f.up⟩:Fm) :: fs) else none)=none:=st
      have fc:f.c=true:=by
       cases q:f.c with
       | true=>rfl
       | false=>rw [if_pos q] at st;cases st
      obtain ⟨b0,bs0,e0⟩:∃ b0 bs0,bs=b0 :: bs0:=by
       cases bs with
       | nil=>cases le
       | cons b0 bs0=>exact ⟨b0,bs0,rfl⟩
      exact .inr ⟨bs0.reverse,b0,(fs.map Fm.c).reverse,by rw [e0,List.reverse_cons],by rw [List.map_cons,List.reverse_cons,fc]⟩
   | nd =>
    refine .inr (.inl ⟨rfl,?_⟩)
    cases st:stp D1 fs .nd with
    | some z =>
     obtain ⟨D',fs'⟩:=z
     rw [st] at r1
     obtain ⟨bs1,b,cs,c,e1,e2,_⟩:=Z2.nd_ Lh st
     refine .inl ⟨bs1,b,cs,c,e1,e2,fun H3 s3=>?_⟩
     obtain ⟨bs1',b',cs',c',e1',e2',inn',bs',sp',Z3⟩:=(Z2.same s3).nd_ Lh st
     have:cs'=cs:=List.append_inj_left' (e2'.symm.trans e2) rfl
     subst this
     have:bs1'=bs1:=List.append_inj_left' (e1'.symm.trans e1) rfl
     subst this
     exact ⟨⟨_,_,rfl⟩,D',fs',inn',bs',sp',r1,Z3⟩
    | none =>
     refine .inr ⟨?_,er st⟩
     cases fs with
     | nil=>have e:=Z2.za.1;rw [e];rfl
     | cons f fs=>cases st
   | _=>exact .inr (.inr (.inr ⟨trivial,inn,zs,hin,hz,by lia,fun H3 s3=>⟨⟨_,_,rfl⟩,_,_,inn,bs,sp,r1,(Z2.same s3).plain (s3 _ _ hz) (by exact trivial) Lh (hv.to (fun _ _=>trivial) s3) rfl⟩⟩))
 ·rintro σ H' ⟨⟨o3,o4,rfl⟩,D1,fs,inn,bs,sp,r1,Z⟩
  rw [List.length_map,List.drop_of_length_le (Nat.le_refl _)] at r1
  have r1:rdE .nil [] 0 ls=if fs.length=0 then .ok D1 else .error ls.length:=r1
  have le:=(ZAt.inn fs Z.za).2.2
  refine Qs F Z.ra (Z.sm _ _ hl) (fun e=>fun H2 s2=>?_) fun e=>?_
  ·have e0:bs=[]:=List.reverse_eq_nil_iff.mp e
   have f0:fs=[]:=by rw [e0] at le;exact List.length_eq_zero_iff.mp le.symm
   subst f0
   obtain ⟨e1,e2,e3,xs,h1,h2⟩:=Z.za
   rw [List.append_nil] at h1
   exact q D1 r1 H2 xs (Z.sm.trans s2) (s2 _ _ h1) (TrsAt.any Z.gd.1 (TrsAt.same s2 Z.gd.1 h2))
  ·rw [if_neg (fun z=>e (by rw [List.reverse_eq_nil_iff];exact List.length_eq_zero_iff.mp (by lia)))] at r1
   rw [List.length_map]
   exact (q2 _ r1).mono Z.sm
theorem WG {o1:V} {l:Addr} {ls:List Str} {E:XK} (F:RdF K t) (hl:H l=some (.lst (ls.map V.str))) (L:∀ x∈ls,(x.length≤20000∧Asc x)∧10 ∉ x.cps.toList) (q:∀ D,rdE .nil [] 0 ls=.ok D→∀ H' l xs,Same H H'→H' l=some (.lst xs)→TrsAt W9 H' xs D→Q (.ref l) H') (q2:∀ k,rdE .nil [] 0 ls=.error k→ndE t E H k) :
  YA K t E { nx:=fun _ H'=>Q .non H',rt:=Q } [some o1,some (.ref l),none,none,none] H:=by
 simp only [YA,vQ,y8,yJ,Xh,y6,Qk,yj,L2.start,zq,zI,zo,WL,qb,WK,zF,yq,zx,tOp,ze,zW,zc,zk,xP,zE,zp,tCB,zC,yU,z0,List.map,List.replicate,List.length,List.append,jqa,jqb,jqc,jqd,jqe,jqf,jqg,jqh,jqi,jqj,jqk,jql,jqm,jqn,and_true,true_and,and_assoc,jqo,jqp,jqq,Nat.reduceSub,Nat.reduceAdd,jqr,jqs,jqt,Int.reduceToNat,Int.reducePow,Int.reduceNeg,Int.reduceMul,Int.reduceAdd,if_true,ite_true,jqu,ite_false,if_false]
 intro x dx hx hdx n
 have s2:=isV (o:=HO.own x) dx hdx
 have hx2:upd H dx (HO.own x) x=none:=by rw [zw (Ne.symm n)];exact hx
 have s3:=isV (o:=HO.ins t.c_Reading dx []) x hx2
 refine ⟨dx,zd,fun H' rl bl tl sX R hr f1 f2 f3=>?_⟩
 have S:Same H H':=sX.same (s2.trans s3) hx
 exact Qt F hl S R hr (wB (s2.trans s3) f1) (wB (s2.trans s3) f2) (wB (s2.trans s3) f3) L (fun D e H2 xs s h1 h2=>q D e H2 rl xs s h1 h2) q2
theorem zaM {x:Str} {E:XK} (F:RdF K t) (ha:Asc x) (lx:x.length≤20000) (q:∀ D,rdE .nil [] 0 (yw x)=.ok D→∀ H' l xs,Same H H'→H' l=some (.lst xs)→TrsAt W9 H' xs D→Q (.ref l) H') (q2:∀ k,rdE .nil [] 0 (yw x)=.error k→ndE t E H k) :
  Vg K t E { nx:=fun _ H'=>Q .non H',rt:=Q } (L2.start ["text","texts","reading","number","one"] [.str x]) H:=by
 simp only [Vg,y8,yJ,Xh,y6,Qk,y0,yj,L2.start,zq,zI,zo,WL,qb,WK,zF,yq,zx,tOp,ze,tC,zW,zc,zk,xP,zE,zp,tIf,tCB,tBM,tyV,zC,yU,rNe,z0,yR,List.map,List.replicate,List.length,List.append,jqa,jqb,jqc,jqd,jqe,jqf,jqg,jqh,jqi,jqj,jqk,jql,jqm,jqn,and_true,true_and,and_assoc,jqo,jqp,jqq,Nat.reduceSub,Nat.reduceAdd,jqr,jqs,jqt,Int.reduceToNat,Int.reducePow,Int.reduceNeg,Int.reduceMul,Int.reduceAdd,if_true,ite_true,jqu,ite_false,if_false]
 by_cases hx:x=""
 ·rw [if_neg (fun z=>z hx)]
  rw [show yw x=[] from if_pos hx] at q q2
  refine ⟨Nat.zero_le _,fun l hl=>?_⟩
  have s1:=isV (o:=HO.lst []) l hl
  exact WG (ls:=[]) F zd (fun _ z=>nomatch z) (fun D e H' l' xs s h1 h2=>q D e H' l' xs (s1.trans s) h1 h2) fun k e=>(q2 k e).mono s1
 ·rw [if_pos hx,XD]
  rw [show yw x=Txt.split x Vf from if_neg hx] at q q2
  have wc:(Txt.split x Vf).length≤x.length + 1:=vK x 10
  refine ⟨by decide +kernel,by lia,by lia,fun l hl=>?_⟩
  have s1:=isV (o:=HO.lst (List.map V.str (Txt.split x Vf))) l hl
  exact WG F zd (fun y hy=>⟨ko lx ha y hy,(km hy).2.2⟩) (fun D e H' l' xs s h1 h2=>q D e H' l' xs (s1.trans s) h1 h2) fun k e=>(q2 k e).mono s1
theorem XJ {c k:Int} (hk:0≤k) (hk2:k≤100) (q:∀ r H',0≤r→r < 2147483648→Same H H'→Q (.int r) H') :
  j0 K t { nx:=fun _ H'=>Q .non H',rt:=Q } (L2.start ["cell","k","number"] [.int c,.int k]) H:=by
 simp only [j0,L2.start,zq,zI,zo,zF,tOp,ze,tC,rI,rI0,List.map,List.replicate,List.length,List.append,jqa,jqb,jqc,jqd,jqe,jqf,jqg,jqh,jqi,jqj,jqk,jql,jqm,jqn,and_true,true_and,and_assoc,jqo,jqp,jqq,Nat.reduceSub,Nat.reduceAdd,jqr,jqs,jqt,Int.reduceToNat,Int.reducePow,Int.reduceNeg,Int.reduceMul,Int.reduceAdd,if_true,ite_true,jqu,ite_false,if_false]
 have g1:=Int.emod_nonneg c (b:=2147483647) (by decide)
 have g2:=Int.emod_lt_of_pos c (b:=2147483647) (by decide)
 generalize c % 2147483647=u at *
 have hb:(100000000000:Int) < big:=by decide +kernel
 refine ⟨by decide,⟨by lia,by lia⟩,⟨by lia,by lia⟩,by decide,dB,?_⟩
 generalize (u + 11 * k + 7) * (u + 11 * k + 7 + 48271 + k)=z
 have g3:=Int.emod_nonneg z (b:=2147483647) (by decide)
 have g4:=Int.emod_lt_of_pos z (b:=2147483647) (by decide)
 exact q _ _ (by lia) (by lia) (Same.refl H)
theorem zcq {n:Int} (h0:0≤n) (h1:n≤31):(ZV (Str.ofString "0") n).length≤31∧Asc (ZV (Str.ofString "0") n):=by
 have e:(Str.ofString "0").length=1:=by decide +kernel
 refine ⟨by rw [qh,e];lia,Asc.rep ?_ _⟩
 unfold Asc;decide +kernel
open PySem.NumText in
theorem XL:∀ (r:List Nat) (c:Nat),digitsVal (c :: r)=(c - 48) * 10 ^ r.length + digitsVal r:=fun r c=>by
 have g:∀ (r:List Nat) (a:Nat),r.foldl (fun acc c=>acc * 10 + (c - 48)) a=a * 10 ^ r.length + r.foldl (fun acc c=>acc * 10 + (c - 48)) 0:=by
  intro r
  induction r with
  | nil=>intro a;simp
  | cons d r ih =>
   intro a
   rw [List.foldl_cons,List.foldl_cons,ih,ih (0 * 10 + (d - 48)),List.length_cons,Nat.pow_succ,Nat.add_mul]
   rw [Nat.zero_mul,Nat.zero_add,Nat.mul_assoc,Nat.mul_comm 10]
   lia
 unfold digitsVal
 rw [List.foldl_cons,g,Nat.zero_mul,Nat.zero_add]
open PySem.NumText in
theorem XM:∀ {r:List Nat},AllDigits r→digitsVal r=0→r=List.replicate r.length 48
 | [],_,_=>rfl
 | c :: r,h,e=>by
  rw [XL] at e
  have hc:=h c List.mem_cons_self
  have hp:0 < 10 ^ r.length:=Nat.pow_pos (by decide)
  have e1:(c - 48) * 10 ^ r.length=0:=by lia
  have e2:digitsVal r=0:=by lia
  have e3:c - 48=0:=by
   rcases Nat.mul_eq_zero.mp e1 with z | z
   ·exact z
   ·lia
  have e4:c=48:=by lia
  rw [List.length_cons,List.replicate_succ,← XM (fun x hx=>h x (List.mem_cons_of_mem _ hx)) e2,e4]
open PySem.NumText in
theorem WH:∀ {d:List Nat},AllDigits d→digitsVal d < 10 ^ d.length
 | [],_=>by decide
 | c :: r,h=>by
  rw [XL,List.length_cons,Nat.pow_succ]
  have hc:=h c List.mem_cons_self
  have ih:=WH (d:=r) fun x hx=>h x (List.mem_cons_of_mem _ hx)
  have:(c - 48) * 10 ^ r.length≤9 * 10 ^ r.length:=Nat.mul_le_mul_right _ (by lia)
  lia
open PySem.NumText in
theorem zcT {d:List Nat} (h:AllDigits d) (hl:d.length=31) (hh:d.head?≠some 48):digitsVal d≤1000000000000000000000000000000↔d=49 :: List.replicate 30 48:=by
 constructor
 ·intro hv
  match d,hl with
  | c :: r,hl =>
   have hr:r.length=30:=by simpa using hl
   rw [XL,hr] at hv
   have hc:=h c List.mem_cons_self
   have hc2:c≠48:=fun z=>hh (by rw [z];rfl)
   have e30:(10:Nat) ^ 30=1000000000000000000000000000000:=by decide +kernel
   rw [e30] at hv
   have hc3:c=49:=by lia
   rw [hc3] at hv ⊢
   have:=XM (r:=r) (fun x hx=>h x (List.mem_cons_of_mem _ hx)) (by lia)
   rw [this,hr]
 ·intro e
  rw [e]
  decide +kernel
def vc:List Str→Nat→Option Nat
 | _,0=>some 0
 | [],_ + 1=>none
 | w :: r,d + 1=>if isJ (.str w)=true then (vc r (d + 2)).map (· + 1) else match wW w with | none=>none | some _=>(vc r d).map (· + 1)
theorem XN (l:List Str):vc l 0=some 0:=by cases l <;> (unfold vc;rfl)
theorem ji:∀ (l:List Str) (d n:Nat),vc l d=some n↔(yA l d=some n∧∀ w∈l.take n,isJ (.str w)=true∨(wW w).isSome=true)
 | l,0,n=>by
  rw [XN,WF]
  constructor
  ·intro h;cases h;exact ⟨rfl,by simp⟩
  ·rintro ⟨h,_⟩;exact h
 | [],d + 1,n=>by
  unfold vc yA
  constructor
  ·intro h;cases h
  ·rintro ⟨h,_⟩;cases h
 | w :: r,d + 1,n=>by
  unfold vc yA
  by_cases hj:isJ (.str w)=true
  ·rw [if_pos hj,if_pos hj]
   constructor
   ·intro h
    obtain ⟨m,hm,rfl⟩:=Option.map_eq_some_iff.mp h
    obtain ⟨h1,h2⟩:=(ji r (d + 2) m).mp hm
    refine ⟨by rw [h1];rfl,fun v hv=>?_⟩
    rw [List.take_succ_cons] at hv
    rcases List.mem_cons.mp hv with rfl | hv
    ·exact .inl hj
    ·exact h2 v hv
   ·rintro ⟨h,h2⟩
    obtain ⟨m,hm,rfl⟩:=Option.map_eq_some_iff.mp h
    rw [(ji r (d + 2) m).mpr ⟨hm,fun v hv=>h2 v (by rw [List.take_succ_cons];exact List.mem_cons_of_mem _ hv)⟩];rfl
  ·rw [if_neg hj,if_neg hj]
   cases hp:wW w with
   | none =>
    constructor
    ·intro h;cases h
    ·rintro ⟨h,h2⟩
     obtain ⟨m,hm,rfl⟩:=Option.map_eq_some_iff.mp h
     rcases h2 w (by rw [List.take_succ_cons];exact List.mem_cons_self) with z | z
     ·exact absurd z hj
     ·rw [hp] at z;cases z
   | some u =>
    constructor
    ·intro h
     obtain ⟨m,hm,rfl⟩:=Option.map_eq_some_iff.mp h
     obtain ⟨h1,h2⟩:=(ji r d m).mp hm
     refine ⟨by rw [h1];rfl,fun v hv=>?_⟩
     rw [List.take_succ_cons] at hv
     rcases List.mem_cons.mp hv with rfl | hv
     ·exact .inr (by rw [hp];rfl)
     ·exact h2 v hv
    ·rintro ⟨h,h2⟩
     obtain ⟨m,hm,rfl⟩:=Option.map_eq_some_iff.mp h
     show (vc r d).map (· + 1)=_
     rw [(ji r d m).mpr ⟨hm,fun v hv=>h2 v (by rw [List.take_succ_cons];exact List.mem_cons_of_mem _ hv)⟩];rfl
theorem Kb {l:List Str} {i d:Nat} {w:Str} {R:Option Nat} (h:R=(vc (l.drop i) (d + 1)).map (· + i)) (hw:l[i]?=some w) :
  R=if isJ (.str w)=true then (vc (l.drop (i + 1)) (d + 2)).map (· + (i + 1)) else match wW w with | none=>none | some _=>(vc (l.drop (i + 1)) d).map (· + (i + 1)):=by
 have hi:=(List.getElem?_eq_some_iff.mp hw).1
 have hv:=(List.getElem?_eq_some_iff.mp hw).2
 have mm:∀ x:Option Nat,(x.map (· + 1)).map (· + i)=x.map (· + (i + 1)):=fun x=>by
  rw [Option.map_map]
  exact congrArg (fun f=>Option.map f x) (funext fun n=>by show n + 1 + i=n + (i + 1);lia)
 rw [h,List.drop_eq_getElem_cons hi,hv]
 show (if isJ (.str w)=true then (vc (l.drop (i + 1)) (d + 2)).map (· + 1) else match wW w with | none=>none | some _=>(vc (l.drop (i + 1)) d).map (· + 1)).map (· + i)=_
 by_cases hj:isJ (.str w)=true
 ·rw [if_pos hj,if_pos hj,mm]
 ·rw [if_neg hj,if_neg hj]
  cases wW w with
  | none=>rfl
  | some u=>exact mm _
theorem zcU {x:Str} (h1:inV (.str x) wl=false) (h2:inV (.str x) jw=false):zZ x=(decide (1≤x.length∧x.length≤6) && x.cps.toList.all inL):=by
 unfold zZ
 rw [h1,h2]
 have e:(decide (x=""))=decide (x.length=0):=by
  refine decide_eq_decide.mpr ⟨fun z=>by rw [z];decide +kernel,fun z=>?_⟩
  refine vE ?_
  rw [yK] at z
  rw [List.length_eq_zero_iff.mp z];decide +kernel
 rw [e]
 congr 1
 rw [Bool.or_false,Bool.not_false,Bool.and_true,← Bool.decide_or,← decide_not]
 exact decide_eq_decide.mpr (by lia)
def poI (x:Str) (H:Hp) (i:Nat) (σ:St) (H':Hp):Prop:=(∃ o,σ=[some (.str x),o])∧H'=H∧∀ k < i,∀ c,x.cps[k]?=some c→inL c=true
theorem YF {x:Str} (hx:x.length≤20000) (q:∀ H',Same H H'→Q (.bl (zZ x)) H') :
  vS K t { nx:=fun _ H'=>Q .non H',rt:=Q } (L2.start ["word","sign"] [.str x]) H:=by
 have no:zZ x=false→∀ H',Same H H'→Q (.bl false) H':=fun h H' s=>by have:=q H' s;rw [h] at this;exact this
 simp only [vS,L2.start,zq,zo,zF,zx,tOp,ze,tC,xm,zc,zk,xP,zE,zp,tCB,Zl,yU,Zq,rI0,rIn,vD,z0,List.map,List.replicate,List.length,List.append,jqa,jqb,jqc,jqd,jqe,jqf,jqg,jqh,jqi,jqj,jqk,jql,jqm,jqn,and_true,true_and,and_assoc,jqo,jqp,jqq,Nat.reduceSub,Nat.reduceAdd,jqr,jqs,jqt,Int.reduceToNat,Int.reducePow,Int.reduceNeg,Int.reduceMul,Int.reduceAdd,if_true,ite_true,jqu,ite_false,if_false]
 refine ⟨by decide,fun p hp=>⟨_,.inr (SqT.of zd),rfl,rfl,yu (fun c=>no ?_ _ (isV p hp)) fun c=>⟨by decide,fun p1 hp1=>⟨_,.inr (SqT.of zd),rfl,rfl,yu (fun d=>no ?_ _ ((isV p hp).trans (isV p1 hp1))) fun d=>?_⟩⟩⟩⟩
 ·unfold zZ;rw [show inV (.str x) wl=true from c];simp
 ·unfold zZ;rw [show inV (.str x) jw=true from d];simp
 have s2:=(isV (o:=HO.tup wl) p hp).trans (isV (o:=HO.tup jw) p1 hp1)
 have en:=zcU (x:=x) (Bool.eq_false_iff.mpr c) (Bool.eq_false_iff.mpr d)
 refine VR (poI x _) ⟨⟨_,rfl⟩,rfl,fun k h=>nomatch h⟩ ?_ ?_
 ·rintro i c σ H' hc ⟨⟨o,rfl⟩,rfl,hl⟩
  simp only [zbi,L2.start,zq,zo,zF,zx,tOp,ze,tC,xm,zc,zk,xP,zE,zp,tCB,Zl,yU,Zq,rI0,rIn,vD,z0,List.map,List.replicate,List.length,List.append,jqa,jqb,jqc,jqd,jqe,jqf,jqg,jqh,jqi,jqj,jqk,jql,jqm,jqn,and_true,true_and,and_assoc,jqo,jqp,jqq,Nat.reduceSub,Nat.reduceAdd,jqr,jqs,jqt,Int.reduceToNat,Int.reducePow,Int.reduceNeg,Int.reduceMul,Int.reduceAdd,if_true,ite_true,jqu,ite_false,if_false]
  refine yu (fun e=>?_) fun e=>⟨⟨_,rfl⟩,rfl,fun k hk d hd=>?_⟩
  ·refine no ?_ _ s2
   rw [en]
   have:x.cps.toList.all inL=false:=List.all_eq_false.mpr ⟨c,List.mem_of_getElem? (i:=i) (by simpa using hc),by simp [e]⟩
   rw [this,Bool.and_false]
  ·by_cases hki:k=i
   ·subst hki
    rw [hc] at hd
    cases hd
    simpa using e
   ·exact hl k (by lia) d hd
 ·rintro σ H' ⟨⟨o,rfl⟩,rfl,hl⟩
  have:x.cps.toList.all inL=true:=by
   rw [List.all_eq_true]
   intro c hc
   obtain ⟨k,hk,e⟩:=List.getElem_of_mem hc
   have hk':k < x.cps.size:=by simpa using hk
   exact hl k hk' c (by rw [← e];simp)
  rw [this,Bool.and_true] at en
  rw [en] at q
  simp only [L2.start,zq,zo,zF,zx,tOp,ze,tC,xm,zc,zk,xP,zE,zp,tCB,Zl,yU,Zq,rI0,rIn,vD,z0,List.map,List.replicate,List.length,List.append,jqa,jqb,jqc,jqd,jqe,jqf,jqg,jqh,jqi,jqj,jqk,jql,jqm,jqn,and_true,true_and,and_assoc,jqo,jqp,jqq,Nat.reduceSub,Nat.reduceAdd,jqr,jqs,jqt,Int.reduceToNat,Int.reducePow,Int.reduceNeg,Int.reduceMul,Int.reduceAdd,if_true,ite_true,jqu,ite_false,if_false]
  refine ⟨zj (by lia),yu (fun c=>?_) fun c=>?_⟩
  ·have q:=q _ s2
   rw [show decide (1≤x.length∧x.length≤6)=decide ((x.length:Int)≤6) from decide_eq_decide.mpr (by lia)] at q
   exact q
  ·have q:=q _ s2
   rw [decide_eq_false (by lia)] at q
   exact q
theorem str_nil {x:Str}:x=Str.ofString ""↔x.cps.toList=[]:=⟨fun h=>by rw [h];decide +kernel,fun h=>vE (by rw [h];decide +kernel)⟩
def noI (x f:Str) (H:Hp) (i:Nat) (σ:St) (H':Hp):Prop:=(∃ o,σ=[some (.str x),some (.str f),o])∧PySem.NumText.AllDigits (f.cps.toList.take i)∧H'=H
theorem KJ {x f:Str} (hf:f=y9 x) (hx:x.length≤20000) (h0:fig x≠[]) (h1:(fig x).length≤31) (h2:¬ ((fig x).head?=some 48∧x≠"0")) (q:∀ H',Same H H'→Q (.bl (xb x)) H') :
  xU K t { nx:=fun _ H'=>Q .non H',rt:=Q } [some (.str x),some (.str f),none] H:=by
 have q:=q H (Same.refl H)
 have ef:f.cps.toList=fig x:=by rw [hf];rfl
 have lf:f.length=(fig x).length:=by rw [yK,ef]
 have no:¬ xb x=true→Q (.bl false) H:=fun h=>by
  rw [Bool.eq_false_iff.mpr h] at q;exact q
 have yes:xb x=true→Q (.bl true) H:=fun h=>by rw [h] at q;exact q
 simp only [xU,L2.start,jO,zq,zo,zF,zx,tOp,ze,tC,zc,zk,xP,zE,zp,Jt,tCB,yU,Zq,rEq,rI0,zQ,vD,z0,yR,List.map,List.replicate,List.length,List.append,jqa,jqb,jqc,jqd,jqe,jqf,jqg,jqh,jqi,jqj,jqk,jql,jqm,jqn,and_true,true_and,and_assoc,jqo,jqp,jqq,Nat.reduceSub,Nat.reduceAdd,jqr,jqs,jqt,Int.reduceToNat,Int.reducePow,Int.reduceNeg,Int.reduceMul,Int.reduceAdd,if_true,ite_true,jqu,ite_false,if_false]
 refine VR (noI x f H) ⟨⟨_,rfl⟩,(fun c z=>by simp at z),rfl⟩ ?_ ?_
 ·rintro i c σ H' hc ⟨⟨o,rfl⟩,hd,rfl⟩
  have hc':f.cps.toList[i]?=some c:=by simpa using hc
  have hmem:c∈fig x:=by rw [← ef];exact List.mem_of_getElem? hc'
  simp only [L2.start,jO,zq,zo,zF,zx,tOp,ze,tC,zc,zk,xP,zE,zp,Jt,tCB,yU,Zq,rEq,rI0,zQ,vD,z0,yR,List.map,List.replicate,List.length,List.append,jqa,jqb,jqc,jqd,jqe,jqf,jqg,jqh,jqi,jqj,jqk,jql,jqm,jqn,and_true,true_and,and_assoc,jqo,jqp,jqq,Nat.reduceSub,Nat.reduceAdd,jqr,jqs,jqt,Int.reduceToNat,Int.reducePow,Int.reduceNeg,Int.reduceMul,Int.reduceAdd,if_true,ite_true,jqu,ite_false,if_false]
  rw [zbe]
  refine yu (fun z=>?_) fun z=>?_
  ·refine no fun h=>?_
   have:=(W5 c).mpr ((num_iffL.mp h).2.2.1 c hmem)
   rw [this] at z;cases z
  ·have hF:=(W5 c).mp (by simpa using z)
   refine ⟨⟨_,rfl⟩,?_,rfl⟩
   rw [List.take_add_one,hc']
   intro d hd2
   rcases List.mem_append.mp hd2 with z | z
   ·exact hd d z
   ·have:d=c:=by simpa using z
    lia
 ·rintro σ H' ⟨⟨o,rfl⟩,hd,rfl⟩
  have tk:f.cps.toList.take f.cps.size=fig x:=by rw [← ef];exact List.take_of_length_le (by simp)
  rw [tk] at hd
  simp only [L2.start,jO,zq,zo,zF,zx,tOp,ze,tC,zc,zk,xP,zE,zp,Jt,tCB,yU,Zq,rEq,rI0,zQ,vD,z0,yR,List.map,List.replicate,List.length,List.append,jqa,jqb,jqc,jqd,jqe,jqf,jqg,jqh,jqi,jqj,jqk,jql,jqm,jqn,and_true,true_and,and_assoc,jqo,jqp,jqq,Nat.reduceSub,Nat.reduceAdd,jqr,jqs,jqt,Int.reduceToNat,Int.reducePow,Int.reduceNeg,Int.reduceMul,Int.reduceAdd,if_true,ite_true,jqu,ite_false,if_false]
  have em:f=Str.ofString "1" ++ ZV (Str.ofString "0") 30↔fig x=49 :: List.replicate 30 48:=by
   have e1:(Str.ofString "1" ++ ZV (Str.ofString "0") 30).cps.toList=49 :: List.replicate 30 48:=by decide +kernel
   constructor
   ·intro z;rw [← ef,z,e1]
   ·intro z;exact vE (by rw [e1,ef,z])
  have r1:=zcq (n:=30) (by decide) (by decide)
  have l1:(Str.ofString "1").length=1:=by decide +kernel
  refine ⟨zj (by lia),yu (fun c=>yes (num_iffL.mpr ⟨h0,h1,hd,h2,?_⟩)) fun c=>⟨by decide,by decide,by decide +kernel,zj (by lia),?_⟩⟩
  ·have vs:=WH hd
   have:(10:Nat) ^ (fig x).length≤10 ^ 30:=Nat.pow_le_pow_right (by decide) (by lia)
   have e30:(10:Nat) ^ 30=1000000000000000000000000000000:=by decide +kernel
   lia
  ·have hh:(fig x).head?≠some 48:=fun z=>h2 ⟨z,fun y=>by
    have:(fig x).length=1:=by rw [y];decide +kernel
    lia⟩
   have e31:=zcT hd (by lia) hh
   by_cases d:f=Str.ofString "1" ++ ZV (Str.ofString "0") 30
   ·rw [decide_eq_true d];exact yes (num_iffL.mpr ⟨h0,h1,hd,h2,e31.mpr (em.mp d)⟩)
   ·rw [decide_eq_false d];exact no fun z=>d (em.mpr (e31.mp (num_iffL.mp z).2.2.2.2))
theorem KK {x f:Str} (hf:f=y9 x) (hx:x.length≤20000) (q:∀ H',Same H H'→Q (.bl (xb x)) H') :
  xV K t { nx:=fun _ H'=>Q .non H',rt:=Q } [some (.str x),some (.str f),none] H:=by
 have ef:f.cps.toList=fig x:=by rw [hf];rfl
 have no:xb x=false→Q (.bl false) H:=fun h=>by
  have q:=q H (Same.refl H)
  rw [h] at q;exact q
 have lf:f.length=(fig x).length:=by rw [yK,ef]
 have hfl:=VU x
 rw [← hf] at hfl
 simp only [xV,L2.start,jO,zq,zo,zF,zx,tOp,ze,tC,zc,zk,xP,zE,wS,tOr,zp,Jt,tCB,yU,Zq,Xj,rEq,rNe,rI0,zQ,vD,z0,yR,List.map,List.replicate,List.length,List.append,jqa,jqb,jqc,jqd,jqe,jqf,jqg,jqh,jqi,jqj,jqk,jql,jqm,jqn,and_true,true_and,and_assoc,jqo,jqp,jqq,Nat.reduceSub,Nat.reduceAdd,jqr,jqs,jqt,Int.reduceToNat,Int.reducePow,Int.reduceNeg,Int.reduceMul,Int.reduceAdd,if_true,ite_true,jqu,ite_false,if_false]
 refine yu (fun c=>no (Bool.eq_false_iff.mpr fun z=>(num_iffL.mp z).1 (by rw [← ef];exact str_nil.mp c))) fun c0=>⟨zj (by lia),yu (fun c=>no (Bool.eq_false_iff.mpr fun z=>by have:=(num_iffL.mp z).2.1;lia)) fun c1=>?_⟩
 have h0:fig x≠[]:=fun z=>c0 (str_nil.mpr (ef.trans z))
 obtain ⟨a,r,har⟩:=List.exists_cons_of_ne_nil h0
 refine ⟨zj (by lia),a,by rw [ef,har];simp [atI,ixN],?_⟩
 have hd:(⟨#[a]⟩:Str)=Str.ofString "0"↔(fig x).head?=some 48:=by
  rw [har]
  constructor
  ·intro z
   have:=(congrArg (fun y:Str=>y.cps.toList) z).trans zero_cps
   have e:a=48:=(List.cons.inj this).1
   rw [e];rfl
  ·intro z
   have e:a=48:=by simpa using z
   rw [e];decide +kernel
 refine yu (fun c2=>yu (fun c3=>no (Bool.eq_false_iff.mpr fun z=>(num_iffL.mp z).2.2.2.1 ⟨hd.mp c2,c3⟩)) fun c3=>KJ hf hx h0 (by lia) (fun z=>c3 z.2) q) fun c2=>KJ hf hx h0 (by lia) (fun z=>c2 (hd.mpr z.1)) q
theorem q9 {x:Str} (hx:x.length≤20000) (q:∀ H',Same H H'→Q (.bl (xb x)) H') :
  wH K t { nx:=fun _ H'=>Q .non H',rt:=Q } (L2.start ["word","figures","sign"] [.str x]) H:=by
 simp only [wH,L2.start,jO,zq,zI,zo,zF,zx,tOp,ze,tC,zc,zk,xP,zE,wS,tOr,zp,Jt,tCB,tSl,z8,zP,yU,Zq,Xj,rEq,rNe,rI0,ZS,zQ,vD,z0,yR,List.map,List.replicate,List.length,List.append,jqa,jqb,jqc,jqd,jqe,jqf,jqg,jqh,jqi,jqj,jqk,jql,jqm,jqn,and_true,true_and,and_assoc,jqo,jqp,jqq,Nat.reduceSub,Nat.reduceAdd,jqr,jqs,jqt,Int.reduceToNat,Int.reducePow,Int.reduceNeg,Int.reduceMul,Int.reduceAdd,if_true,ite_true,jqu,ite_false,if_false]
 have e:Txt.slice x none (some 1)=Str.ofString "-"↔(x.cps.toList.take 1 == [45])=true:=by
  have s1:=Q5 x 1
  have e1:(Str.ofString "-").cps.toList=[45]:=by decide +kernel
  rw [beq_iff_eq,← s1,← e1]
  exact ⟨fun z=>by rw [← z];rfl,fun z=>vE z⟩
 refine ⟨zj (by lia),yu (fun c=>⟨zj (by lia),KK ?_ hx q⟩) fun c=>KK ?_ hx q⟩
 ·unfold y9
  rw [if_pos (e.mp c)]
 ·unfold y9
  rw [if_neg fun z=>c (e.mpr z)]
def zcV (k:Nat):Option Nat→Int
 | some n=>((k + n:Nat):Int)
 | none=>-1
theorem Vp (ws:List Str) (k:Nat) (hl:ws.length≤60):Xx (yk ws k)=zcV k (vc (ws.drop k) 1):=by
 cases h:vc (ws.drop k) 1 with
 | some n =>
  obtain ⟨a1,b⟩:=(ji _ _ _).mp h
  obtain ⟨T,hT,hpre,a2,_⟩:=kE a1
  have hok:okT T=true:=(Y8 hT).mpr fun w hw=>b w (by rw [hpre];exact hw)
  rw [jr a1 (by lia) hT hpre,if_pos hok]
  rfl
 | none =>
  show Xx (yk ws k)=-1
  cases hs:yA (ws.drop k) 1 with
  | none =>
   have:yk ws k=none:=by unfold yk;rw [hs]
   rw [this];rfl
  | some n =>
   obtain ⟨T,hT,hpre,a2,_⟩:=kE hs
   rw [jr hs (by lia) hT hpre]
   by_cases hok:okT T=true
   ·have:=(ji (ws.drop k) 1 n).mpr ⟨hs,fun w hw=>by
     rw [hpre] at hw
     exact (Y8 hT).mp hok w hw⟩
    rw [h] at this;cases this
   ·rw [if_neg hok];rfl
theorem YG (w:Str):(wW w=none)↔(zZ w=false∧xb w=false):=by
 unfold wW
 cases zZ w <;> cases xb w <;> simp
def leI (a:Addr) (k:Nat) (l:List Str) (R:Option Nat) (H:Hp) (i:Nat) (σ:St) (H':Hp):Prop:=∃ d:Nat,(∃ o,σ=[some (.ref a),some (.int (k:Int)),some (.int ((d + 1:Nat):Int)),o])∧R=(vc (l.drop i) (d + 1)).map (· + i)∧Same H H'
theorem Vq {a:Addr} {ws:List Str} {k:Nat} (h1:H a=some (.lst (ws.map V.str))) (h2:ws.length≤60) (h3:k≤60) (h4:vb ws) (q:∀ H',Same H H'→Q (.int (Xx (yk ws k))) H') :
  qB K t { nx:=fun _ H'=>Q .non H',rt:=Q } (L2.start ["words","at","lacking","k"] [.ref a,.int k]) H:=by
 simp only [qB,yB,wG,L2.start,zq,zI,zo,zF,zx,tOp,tUn,ze,tC,xm,zc,zk,xP,zE,tOr,zp,tB,tCB,qc,ipI,zC,yU,Kk,yC,rEq,rI0,rU,rIn,z0,yR,List.map,List.replicate,List.length,List.append,jqa,jqb,jqc,jqd,jqe,jqf,jqg,jqh,jqi,jqj,jqk,jql,jqm,jqn,and_true,true_and,and_assoc,jqo,jqp,jqq,Nat.reduceSub,Nat.reduceAdd,jqr,jqs,jqt,Int.reduceToNat,Int.reducePow,Int.reduceNeg,Int.reduceMul,Int.reduceAdd,if_true,ite_true,jqu,ite_false,if_false]
 rw [Vp ws k h2] at q
 have hl:(ws.drop k).length=ws.length - k:=List.length_drop
 have hw:∀ i w,(ws.drop k)[i]?=some w→ws[k + i]?=some w:=fun i w h=>by
  rw [List.getElem?_drop] at h
  exact h
 generalize ws.drop k=l at *
 generalize hR:vc l 1=R at *
 refine ⟨ws.length,.inl ⟨_,SqL.of h1,by rw [List.length_map]⟩,?_⟩
 have em:((ws.length:Int) - (k:Int)).toNat=l.length:=by lia
 refine ⟨by lia,by lia,by lia,by lia,?_⟩
 rw [em]
 refine Zr (leI a k l R H) ⟨0,⟨_,rfl⟩,by rw [← hR];simp,Same.refl H⟩ ?_ ?_
 ·rintro i σ H' hi ⟨d,⟨o,rfl⟩,hs,S⟩
  obtain ⟨w,hlw⟩:∃ w,l[i]?=some w:=⟨_,List.getElem?_eq_getElem hi⟩
  have hww:=hw i w hlw
  have hwV:(ws.map V.str)[k + i]?=some (V.str w):=by rw [List.getElem?_map,hww];rfl
  have hat:atI (ws.map V.str) ((k:Int) + (i:Int))=some (V.str w):=by
   have:=ka hwV
   rwa [show ((k + i:Nat):Int)=(k:Int) + (i:Int) by lia] at this
  have okw:=h4 w (List.mem_of_getElem? hww)
  have st:=Kb hs hlw
  simp only [L2.start,zq,zI,zo,zF,zx,tOp,tUn,ze,tC,xm,zc,zk,xP,zE,tOr,zp,tB,tCB,qc,ipI,zC,yU,Kk,yC,rEq,rI0,rU,rIn,z0,yR,List.map,List.replicate,List.length,List.append,jqa,jqb,jqc,jqd,jqe,jqf,jqg,jqh,jqi,jqj,jqk,jql,jqm,jqn,and_true,true_and,and_assoc,jqo,jqp,jqq,Nat.reduceSub,Nat.reduceAdd,jqr,jqs,jqt,Int.reduceToNat,Int.reducePow,Int.reduceNeg,Int.reduceMul,Int.reduceAdd,if_true,ite_true,jqu,ite_false,if_false]
  refine ⟨_,SqL.of (S _ _ h1),_,hat,by decide,fun p hp=>⟨_,.inr (SqT.of zd),rfl,rfl,yu (fun j=>?_) fun j=>?_⟩⟩
  ·rw [if_pos (show isJ (.str w)=true from j)] at st
   rw [if_neg (by lia)]
   refine ⟨d + 1,⟨some (.int ((k:Int) + (i:Int))),?_⟩,st,S.trans (isV p hp)⟩
   rw [show (((d + 1:Nat):Int) + 1)=((d + 1 + 1:Nat):Int) by lia]
  ·rw [if_neg (show ¬ isJ (.str w)=true from j)] at st
   have less:∀ {H2:Hp},Same H H2→wW w≠none→(if ((d + 1:Nat):Int) - 1=0 then Q (.int ((k:Int) + (i:Int) + 1)) H2 else leI a k l R H (i + 1) [some (.ref a),some (.int (k:Int)),some (.int (((d + 1:Nat):Int) - 1)),some (.int ((k:Int) + (i:Int)))] H2):=fun {H2} S2 hp2=>by
    cases hp3:wW w with
    | none=>exact absurd hp3 hp2
    | some v =>
    rw [hp3] at st
    have st:R=(vc (l.drop (i + 1)) d).map (· + (i + 1)):=st
    refine yu (fun e=>?_) fun e=>?_
    ·obtain rfl:d=0:=by lia
     rw [XN] at st
     rw [st] at q
     have q:=q _ S2
     have e2:zcV k (Option.map (· + (i + 1)) (some 0))=(k:Int) + (i:Int) + 1:=by
      show ((k + (0 + (i + 1)):Nat):Int)=_
      lia
     rw [e2] at q
     exact q
    ·obtain ⟨d,rfl⟩:∃ d0,d=d0 + 1:=⟨d - 1,by lia⟩
     refine ⟨d,⟨some (.int ((k:Int) + (i:Int))),?_⟩,st,S2⟩
     rw [show (((d + 1 + 1:Nat):Int) - 1)=((d + 1:Nat):Int) by lia]
   refine ⟨_,SqL.of (isV p hp _ _ (S _ _ h1)),_,hat,w,rfl,okw.1,fun H2 s2=>?_⟩
   have S2:=S.trans ((isV p hp).trans s2)
   refine yu (fun n1=>less S2 fun z=>by rw [((YG w).mp z).1] at n1;cases n1) fun n1=>?_
   refine ⟨_,SqL.of (S2 _ _ h1),_,hat,w,rfl,okw.1,fun H3 s3=>?_⟩
   have S3:=S2.trans s3
   refine yu (fun n2=>less S3 fun z=>by rw [((YG w).mp z).2] at n2;cases n2) fun n2=>?_
   rw [(YG w).mpr ⟨Bool.eq_false_iff.mpr n1,Bool.eq_false_iff.mpr n2⟩] at st
   have st:R=none:=st
   rw [st] at q
   exact q _ S3
 ·rintro σ H' ⟨d,⟨o,rfl⟩,hs,S⟩
  rw [List.drop_eq_nil_of_le (Nat.le_refl _)] at hs
  have hs:R=none:=hs
  rw [hs] at q
  exact q _ S
theorem inV3 {w a b c:Str}:inV (.str w) [.str a,.str b,.str c]=true↔w=a∨w=b∨w=c:=by
 show ((a == w) || ((b == w) || ((c == w) || false)))=true↔_
 rw [Bool.or_false,Bool.or_eq_true,Bool.or_eq_true,beq_iff_eq,beq_iff_eq,beq_iff_eq]
 exact ⟨fun z=>z.imp Eq.symm fun y=>y.imp Eq.symm Eq.symm,fun z=>z.imp Eq.symm fun y=>y.imp Eq.symm Eq.symm⟩
theorem Vr {ws:List Str} {k:Nat} (ho:vb ws) (h:Xx (yk ws k)=ws.length):∃ T,TmOk T∧ws.drop k=pre T:=by
 rcases xZ ws k ho with e | ⟨T,e,tm,d,l⟩
 ·rw [e] at h
  exact absurd h (by show ¬ (-1:Int)=_;lia)
 ·rw [e] at h
  have h:((k + (pre T).length:Nat):Int)=ws.length:=h
  rw [d,List.drop_of_length_le (by lia),List.append_nil]
  exact ⟨T,tm,rfl⟩
theorem Vs {A B ws:List Str} {T:Tw} {k:Nat} (tm:TmOk T) (e:ws=A ++ pre T ++ B) (hk:k=A.length) (hl:ws.length≤60):Xx (yk ws k)=((k + (pre T).length:Nat):Int):=by
 have l:(pre T).length≤60:=by rw [e] at hl;simp at hl;lia
 rw [e,hk,wJ tm.wf tm.ok l]
 rfl
theorem zaN {w:Str} {r:List Str} (hl:(w :: r).length≤60) (ho:vb (w :: r)) (c:w="say"∨w="off"∨w="if"):Xy (w :: r)↔Xx (yk (w :: r) 1)=(w :: r).length:=by
 constructor
 ·rintro ⟨hd,e,ok,n1,n2⟩
  have one:∀ T:Tw,TmOk T→w :: r=[w] ++ pre T→Xx (yk (w :: r) 1)=(w :: r).length:=fun T tm e=>by
   rw [Vs (k:=1) (A:=[w]) (B:=[]) tm (by rw [List.append_nil];exact e) rfl hl,e]
   simp;lia
  have no:∀ {x:Str} {l:List Str},w :: r=x :: l→(x="take"∨x="give"∨x="let")→False:=fun {x l} e z=>by
   obtain ⟨rfl,_⟩:=List.cons.inj e
   revert c z
   rintro (rfl | rfl | rfl) <;> decide +kernel
  cases hd with
  | take sh T sl=>exact (no e (.inl rfl)).elim
  | give sh T U=>exact (no e (.inr (.inl rfl))).elim
  | lt sl T=>exact (no e (.inr (.inr rfl))).elim
  | say T=>obtain ⟨rfl,e2⟩:=List.cons.inj e;exact one T ok e
  | off T=>obtain ⟨rfl,e2⟩:=List.cons.inj e;exact one T ok e
  | iff T=>obtain ⟨rfl,e2⟩:=List.cons.inj e;exact one T ok e
  | els=>exact absurd rfl n1
  | nd=>exact absurd rfl n2
 ·intro h
  obtain ⟨T,tm,d⟩:=Vr ho h
  have d:r=pre T:=d
  subst d
  rcases c with rfl | rfl | rfl
  ·exact ⟨.say T,rfl,tm,nofun,nofun⟩
  ·exact ⟨.off T,rfl,tm,nofun,nofun⟩
  ·exact ⟨.iff T,rfl,tm,nofun,nofun⟩
theorem kU {w:Str} {r:List Str} (c:¬ (w="say"∨w="off"∨w="if")) (h:Xy (w :: r)):(w="take"∧∃ sh T sl,r=(sh :: pre T) ++ [("as":Str),sl]∧zZ sh=true∧TmOk T∧zZ sl=true)∨(w="give"∧∃ sh T U,r=(sh :: pre T) ++ pre U∧zZ sh=true∧TmOk T∧TmOk U)∨(w="let"∧∃ sh T,r=sh :: pre T∧zZ sh=true∧TmOk T):=by
 obtain ⟨hd,e,ok,n1,n2⟩:=h
 cases hd with
 | take sh T sl=>obtain ⟨rfl,rfl⟩:=List.cons.inj e;exact .inl ⟨rfl,sh,T,sl,rfl,ok⟩
 | give sh T U=>obtain ⟨rfl,rfl⟩:=List.cons.inj e;exact .inr (.inl ⟨rfl,sh,T,U,rfl,ok⟩)
 | lt sl T=>obtain ⟨rfl,rfl⟩:=List.cons.inj e;exact .inr (.inr ⟨rfl,sl,T,rfl,ok⟩)
 | say T=>obtain ⟨rfl,_⟩:=List.cons.inj e;exact absurd (.inl rfl) c
 | off T=>obtain ⟨rfl,_⟩:=List.cons.inj e;exact absurd (.inr (.inl rfl)) c
 | iff T=>obtain ⟨rfl,_⟩:=List.cons.inj e;exact absurd (.inr (.inr rfl)) c
 | els=>exact absurd rfl n1
 | nd=>exact absurd rfl n2
theorem Wb {a:Addr} {ws:List Str} (h1:H a=some (.lst (ws.map V.str))) (h2:ws.length≤60) (h0:ws≠[]) (h4:vb ws) (q:∀ H',Same H H'→Q (.bl (qu ws)) H') :
  kN K t { nx:=fun _ H'=>Q .non H',rt:=Q } (L2.start ["words","end"] [.ref a]) H:=by
 obtain ⟨w,r,rfl⟩:=List.exists_cons_of_ne_nil h0
 have dec:∀ (P:Prop) [Decidable P],(Xy (w :: r)↔P)→∀ H',Same H H'→Q (.bl (decide P)) H':=fun P _ h H' s=>by
  have q:=q H' s
  rw [show qu (w :: r)=decide P from by unfold qu;exact decide_eq_decide.mpr h] at q
  exact q
 have no:¬ Xy (w :: r)→∀ H',Same H H'→Q (.bl false) H':=fun h H' s=>dec False ⟨h,False.elim⟩ H' s
 have a0:atI ((w :: r).map V.str) 0=some (V.str w):=ka (n:=0) rfl
 simp only [kN,qF,qE,qD,qC,vJ,yB,L2.start,zq,zI,zo,zF,zx,tOp,ze,tC,xm,zc,zk,zE,tOr,vd,zp,tB,jM,tCB,zC,yU,yC,rEq,rI0,rIn,z0,yR,List.map,List.replicate,List.length,List.append,jqa,jqb,jqc,jqd,jqe,jqf,jqg,jqh,jqi,jqj,jqk,jql,jqm,jqn,and_true,true_and,and_assoc,jqo,jqp,jqq,Nat.reduceSub,Nat.reduceAdd,jqr,jqs,jqt,Int.reduceToNat,Int.reducePow,Int.reduceNeg,Int.reduceMul,Int.reduceAdd,if_true,ite_true,jqu,ite_false,if_false]
 refine ⟨_,SqL.of h1,_,a0,by decide,fun p hp=>⟨_,.inr (SqT.of zd),rfl,rfl,?_⟩⟩
 have s1:=isV (o:=HO.tup [V.str (Str.ofString "say"),V.str (Str.ofString "off"),V.str (Str.ofString "if")]) p hp
 by_cases c:w="say"∨w="off"∨w="if"
 ·rw [if_pos (inV3.mpr c)]
  refine ⟨w :: r,1,rfl,s1 _ _ h1,h2,by decide,h4,fun H2 s2=>⟨(w :: r).length,.inl ⟨_,SqL.of (s2 _ _ (s1 _ _ h1)),(List.length_map ..).symm⟩,?_⟩⟩
  exact dec _ (zaN h2 h4 c) _ (s1.trans s2)
 rw [if_neg (fun z=>c (inV3.mp z))]
 refine ⟨_,SqL.of (s1 _ _ h1),_,a0,by decide,fun p1 hp1=>⟨_,.inr (SqT.of zd),rfl,rfl,?_⟩⟩
 have s2:=s1.trans (isV (o:=HO.tup [V.str (Str.ofString "take"),V.str (Str.ofString "give"),V.str (Str.ofString "let")]) p1 hp1)
 generalize upd (upd H p (HO.tup [V.str (Str.ofString "say"),V.str (Str.ofString "off"),V.str (Str.ofString "if")])) p1 (HO.tup [V.str (Str.ofString "take"),V.str (Str.ofString "give"),V.str (Str.ofString "let")])=H2 at *
 by_cases c3:w="take"∨w="give"∨w="let"
 case neg =>
  rw [if_pos (Bool.eq_false_iff.mpr fun z=>c3 (inV3.mp z))]
  exact no (fun z=>c3 ((kU c z).imp And.left (Or.imp And.left And.left))) _ s2
 rw [if_neg (by rw [inV3.mpr c3];decide)]
 refine ⟨(w :: r).length,.inl ⟨_,SqL.of (s2 _ _ h1),(List.length_map ..).symm⟩,?_⟩
 cases r with
 | nil =>
  rw [if_pos (by simp)]
  refine no (fun z=>?_) _ s2
  rcases kU c z with ⟨_,_,_,_,z,_⟩ | ⟨_,_,_,_,z,_⟩ | ⟨_,_,_,z,_⟩ <;> cases z
 | cons sh r =>
 rw [if_neg (by simp;lia)]
 refine ⟨_,SqL.of (s2 _ _ h1),_,ka (n:=1) rfl,sh,rfl,(h4 sh (by simp)).1,fun H3 s3=>?_⟩
 have s3:=s2.trans s3
 by_cases ns:zZ sh=true
 case neg =>
  rw [if_pos (Bool.eq_false_iff.mpr ns)]
  refine no (fun z=>?_) _ s3
  rcases kU c z with ⟨_,_,_,_,z,z2,_⟩ | ⟨_,_,_,_,z,z2,_⟩ | ⟨_,_,_,z,z2,_⟩ <;> (obtain ⟨rfl,_⟩:=List.cons.inj z;exact ns z2)
 rw [if_neg (by rw [ns];decide)]
 refine ⟨_,2,rfl,s3 _ _ h1,h2,by decide,h4,fun H4 s4=>⟨_,SqL.of (s4 _ _ (s3 _ _ h1)),_,a0,?_⟩⟩
 have s4:=s3.trans s4
 have e2:∀ {T:Tw} {B:List Str},TmOk T→r=pre T ++ B→Xx (yk (w :: sh :: r) 2)=((2 + (pre T).length:Nat):Int):=fun {T B} tm z=>Vs (A:=[w,sh]) (B:=B) tm (by rw [z];simp) rfl h2
 have L4:SqL K H4 a ((w :: sh :: r).map V.str):=SqL.of (s4 _ _ h1)
 have nsf:∀ {z:Str},V.str w=V.str z↔w=z:=⟨V.str.inj,fun z=>by rw [z]⟩
 refine ⟨rfl,?_⟩
 by_cases cl:w="let"
 ·rw [if_pos (nsf.mpr cl)]
  refine ⟨(w :: sh :: r).length,.inl ⟨_,L4,(List.length_map ..).symm⟩,dec _ ⟨fun z=>?_,fun z=>?_⟩ _ s4⟩
  ·rcases kU c z with ⟨z,_⟩ | ⟨z,_⟩ | ⟨_,sh',T,z,_,tm⟩
   ·rw [cl] at z;exact absurd z (by decide +kernel)
   ·rw [cl] at z;exact absurd z (by decide +kernel)
   ·obtain ⟨rfl,zr⟩:=List.cons.inj z
    rw [e2 (B:=[]) tm (by rw [List.append_nil];exact zr),zr]
    simp;lia
  ·obtain ⟨T,tm,d⟩:=Vr h4 z
   have d:r=pre T:=d
   exact ⟨.lt sh T,by rw [cl,d];rfl,⟨ns,tm⟩,nofun,nofun⟩
 rw [if_neg (fun z=>cl (nsf.mp z))]
 have fm:Xy (w :: sh :: r)→∃ T B,TmOk T∧r=pre T ++ B∧B≠[]:=fun z=>by
  rcases kU c z with ⟨_,sh',T,sl,z,_,tm,_⟩ | ⟨_,sh',T,U,z,_,tm,um⟩ | ⟨z,_⟩
  ·obtain ⟨rfl,zr⟩:=List.cons.inj z
   exact ⟨T,_,tm,zr,by simp⟩
  ·obtain ⟨rfl,zr⟩:=List.cons.inj z
   exact ⟨T,_,tm,zr,fun y=>by have:=zby U;rw [y] at this;simp at this⟩
  ·exact absurd z cl
 rcases xZ (w :: sh :: r) 2 h4 with e | ⟨T,e,tm,d,l⟩
 ·rw [e,show Xx none=-1 from rfl,if_pos (by decide)]
  refine no (fun z=>?_) _ s4
  obtain ⟨T,B,tm,zr,_⟩:=fm z
  have:=e2 tm zr
  rw [e] at this
  exact absurd this (by show ¬ (-1:Int)=_;lia)
 have ev:Xx (yk (w :: sh :: r) 2)=((2 + (pre T).length:Nat):Int):=by rw [e];rfl
 rw [ev,if_neg (by lia)]
 refine ⟨(w :: sh :: r).length,.inl ⟨_,L4,(List.length_map ..).symm⟩,?_⟩
 have same:∀ {T':Tw} {B:List Str},TmOk T'→r=pre T' ++ B→(pre T').length=(pre T).length:=fun tm' z=>by
  have:=e2 tm' z
  rw [ev] at this
  lia
 by_cases lt:(w :: sh :: r).length≤2 + (pre T).length
 ·rw [if_pos (by lia)]
  refine no (fun z=>?_) _ s4
  obtain ⟨T',B,tm',zr,nb⟩:=fm z
  have:=same tm' zr
  have lb:=List.length_pos_iff.mpr nb
  rw [zr] at lt
  simp at lt
  lia
 rw [if_neg (by lia)]
 refine ⟨_,L4,_,a0,rfl,?_⟩
 by_cases cg:w="give"
 ·rw [if_pos (nsf.mpr cg)]
  refine ⟨w :: sh :: r,_,rfl,s4 _ _ h1,h2,by lia,h4,fun H5 s5=>⟨(w :: sh :: r).length,.inl ⟨_,SqL.of (s5 _ _ (s4 _ _ h1)),(List.length_map ..).symm⟩,dec _ ⟨fun z=>?_,fun z=>?_⟩ _ (s4.trans s5)⟩⟩
  ·rcases kU c z with ⟨z,_⟩ | ⟨_,sh',T',U,z,_,tm',um⟩ | ⟨z,_⟩
   ·rw [cg] at z;exact absurd z (by decide +kernel)
   ·obtain ⟨rfl,zr⟩:=List.cons.inj z
    have lT:=same tm' zr
    rw [Vs (A:=w :: sh :: pre T') (B:=[]) um (by rw [zr];simp) (by simp;lia) h2,zr]
    simp;lia
   ·rw [cg] at z;exact absurd z (by decide +kernel)
  ·obtain ⟨U,um,d2⟩:=Vr h4 z
   have d:r=pre T ++ (w :: sh :: r).drop (2 + (pre T).length):=d
   rw [d2] at d
   exact ⟨.give sh T U,by rw [cg,d];simp [Hd.words],⟨ns,tm,um⟩,nofun,nofun⟩
 rw [if_neg (fun z=>cg (nsf.mp z))]
 have ct:w="take":=c3.elim id fun z=>z.elim (fun z=>absurd z cg) fun z=>absurd z cl
 obtain ⟨x,hx⟩:∃ x,(w :: sh :: r)[2 + (pre T).length]?=some x:=⟨_,List.getElem?_eq_getElem (by lia)⟩
 have d:r=pre T ++ (w :: sh :: r).drop (2 + (pre T).length):=d
 have tk:Xy (w :: sh :: r)→x="as"∧(w :: sh :: r).length=2 + (pre T).length + 2∧∃ sl,(w :: sh :: r)[2 + (pre T).length + 1]?=some sl∧zZ sl=true:=fun z=>by
  rcases kU c z with ⟨_,sh',T',sl,z,_,tm',nl⟩ | ⟨z,_⟩ | ⟨z,_⟩
  ·obtain ⟨rfl,zr⟩:=List.cons.inj z
   have lT:=same tm' zr
   have ew:w :: sh :: r=([w,sh] ++ pre T') ++ [("as":Str),sl]:=by rw [zr];rfl
   have h0:(([w,sh] ++ pre T') ++ [("as":Str),sl])[2 + (pre T).length]?=some "as":=Vm (i:=0) (by simp;lia)
   have h1:(([w,sh] ++ pre T') ++ [("as":Str),sl])[2 + (pre T).length + 1]?=some sl:=Vm (i:=1) (by simp;lia)
   rw [← ew] at h0 h1
   rw [hx] at h0
   refine ⟨Option.some.inj h0,?_,sl,h1,nl⟩
   rw [ew];simp;lia
  ·exact absurd z cg
  ·exact absurd z cl
 refine ⟨_,L4,_,ka (by rw [List.getElem?_map,hx];rfl),rfl,?_⟩
 by_cases xa:x="as"
 case neg =>
  rw [if_neg (fun z=>xa (V.str.inj z))]
  exact no (fun z=>xa (tk z).1) _ s4
 rw [if_pos (by rw [xa])]
 refine ⟨(w :: sh :: r).length,.inl ⟨_,L4,(List.length_map ..).symm⟩,?_⟩
 by_cases ll:(w :: sh :: r).length=2 + (pre T).length + 2
 case neg =>
  rw [if_neg (by lia)]
  exact no (fun z=>ll (tk z).2.1) _ s4
 rw [if_pos (by lia)]
 obtain ⟨y,hy⟩:∃ y,(w :: sh :: r)[2 + (pre T).length + 1]?=some y:=⟨_,List.getElem?_eq_getElem (by lia)⟩
 refine ⟨_,L4,_,ka (n:=2 + (pre T).length + 1) (by rw [List.getElem?_map,hy];rfl),y,rfl,(h4 y (List.mem_of_getElem? hy)).1,fun H5 s5=>?_⟩
 have:=dec (zZ y=true) ⟨fun z=>?_,fun z=>?_⟩ _ (s4.trans s5)
 ·rwa [Bool.decide_eq_true] at this
 ·obtain ⟨_,_,sl,h,nl⟩:=tk z
  rw [hy] at h
  rw [Option.some.inj h];exact nl
 ·have a1:=xY hx
  have a2:=xY hy
  have a3:(w :: sh :: r).drop (2 + (pre T).length + 1 + 1)=[]:=List.drop_of_length_le (by lia)
  rw [a2,a3] at a1
  rw [a1] at d
  exact ⟨.take sh T y,by rw [ct,d,xa];simp [Hd.words],⟨ns,tm,z⟩,nofun,nofun⟩
def jQ (D:ke) (H:Hp) (a wl:Addr) (m k:Int) (o:Option (List Bool × Int)):Prop:=match o with
 | none=>∀ p H',Same H H'→H' p=some (.tup [.int k,.int m])→D.rt (.ref p) H'
 | some z=>∀ tl H',Same H H'→H' tl=some (.lst (z.1.map V.bl))→D.nx [some (.ref a),some (.ref tl),some (.int z.2),some (.int k),some (.ref wl)] H'
theorem jQ.mono {D:ke} {H1:Hp} {a wl:Addr} {m k:Int} {o:Option (List Bool × Int)} (h:jQ D H a wl m k o) (s:Same H H1):jQ D H1 a wl m k o:=by
 cases o with
 | none=>exact fun p H' s' e=>h p H' (s.trans s') e
 | some z=>exact fun tl H' s' e=>h tl H' (s.trans s') e
theorem zcr {cs:List Bool} {m:Int}:(m + if cs.map V.bl=[] then 1 else 0)=m + if cs=[] then 1 else 0:=by
 cases cs <;> rfl
theorem zcs {D:ke} {a tl wl:Addr} {cs:List Bool} {w:Str} {r:List Str} {m k:Int} (ht:H tl=some (.lst (cs.map V.bl))) (hw:H wl=some (.lst ((w :: r).map V.str))) (lc:cs.length≤5) (q:jQ D H a wl m k (some (if (w :: r)[0]?=some ("if":Str) then cs ++ [false] else cs,m + if cs=[] then 1 else 0))) :
  wr K t D [some (.ref a),some (.ref tl),some (.int m),some (.int k),some (.ref wl)] H:=by
 have a0:atI ((w :: r).map V.str) 0=some (V.str w):=ka (n:=0) rfl
 have lt:(cs.map V.bl).length=cs.length:=List.length_map ..
 have e0:((w :: r)[0]?=some ("if":Str))↔w="if":=⟨fun z=>Option.some.inj z,fun z=>by rw [z];rfl⟩
 simp only [wr,yg,L2.start,wt,Zd,zq,zI,zo,zx,tOp,ze,tC,zW,zc,zk,zE,zp,tCB,qc,ipI,yg,yC,rEq,yR,List.map,List.replicate,List.length,List.append,jqa,jqb,jqc,jqd,jqe,jqf,jqg,jqh,jqi,jqj,jqk,jql,jqm,jqn,and_true,true_and,and_assoc,jqo,jqp,jqq,Nat.reduceSub,Nat.reduceAdd,jqr,jqs,jqt,Int.reduceToNat,Int.reducePow,Int.reduceNeg,Int.reduceMul,Int.reduceAdd,if_true,ite_true,jqu,ite_false,if_false]
 refine ⟨Nat.zero_le _,fun p hp=>?_⟩
 have s1:=isV (o:=HO.lst []) p hp
 refine ⟨_,SqL.of (s1 _ _ ht),SqL.of zd,_,SqL.of (s1 _ _ hw),_,a0,rfl,?_⟩
 rw [zcr]
 by_cases wi:w="if"
 ·rw [if_pos (by rw [wi])]
  rw [if_pos (e0.mpr wi)] at q
  refine ⟨by decide,fun p1 hp1=>?_⟩
  have s2:=s1.trans (isV (o:=HO.lst [V.bl false]) p1 hp1)
  refine ⟨_,s2 _ _ ht,_,zd,zj (by simp;lia),fun p2 hp2=>?_⟩
  have s3:=s2.trans (isV (o:=HO.lst (cs.map V.bl ++ [V.bl false])) p2 hp2)
  exact q p2 _ s3 (by rw [zd,List.map_append];rfl)
 ·rw [if_neg (fun z=>wi (V.str.inj z))]
  rw [if_neg (fun z=>wi (e0.mp z))] at q
  exact q tl _ s1 (s1 _ _ ht)
theorem zct {D:ke} {a tl wl:Addr} {cs:List Bool} {ws:List Str} {m k:Int} (ht:H tl=some (.lst (cs.map V.bl))) (hw:H wl=some (.lst (ws.map V.str))) (lc:cs.length≤5) (wn:ws≠[]) (hn:¬ (ws=[("else":Str)]∨ws=[("end":Str)]∨qu ws=false)) (q:jQ D H a wl m k (j3 cs m ws)) :
  vt K t D [some (.ref a),some (.ref tl),some (.int m),some (.int k),some (.ref wl)] H:=by
 obtain ⟨w,r,rfl⟩:=List.exists_cons_of_ne_nil wn
 have a0:atI ((w :: r).map V.str) 0=some (V.str w):=ka (n:=0) rfl
 have lt:(cs.map V.bl).length=cs.length:=List.length_map ..
 unfold j3 at q
 rw [if_neg hn] at q
 have e0:((w :: r)[0]?=some ("if":Str))↔w="if":=⟨fun z=>Option.some.inj z,fun z=>by rw [z];rfl⟩
 simp only [vt,yg,L2.start,wt,Zd,zq,zI,zo,zF,zx,tOp,ze,tC,zW,xm,zc,zk,zE,wS,zp,tCB,qc,ipI,yU,yg,yC,rEq,z0,yR,List.map,List.replicate,List.length,List.append,jqa,jqb,jqc,jqd,jqe,jqf,jqg,jqh,jqi,jqj,jqk,jql,jqm,jqn,and_true,true_and,and_assoc,jqo,jqp,jqq,Nat.reduceSub,Nat.reduceAdd,jqr,jqs,jqt,Int.reduceToNat,Int.reducePow,Int.reduceNeg,Int.reduceMul,Int.reduceAdd,if_true,ite_true,jqu,ite_false,if_false]
 refine ⟨_,SqL.of hw,_,a0,rfl,?_⟩
 have rest:(¬ ((w :: r)[0]?=some ("if":Str)∧cs.length=5))→wr K t D [some (.ref a),some (.ref tl),some (.int m),some (.int k),some (.ref wl)] H:=fun z=>by rw [if_neg z] at q;exact zcs ht hw lc q
 by_cases wi:w="if"
 ·rw [if_pos (by rw [wi])]
  refine ⟨cs.length,.inl ⟨_,SqL.of ht,lt.symm⟩,?_⟩
  by_cases l5:cs.length=5
  ·rw [if_pos (by lia)]
   rw [if_pos ⟨e0.mpr wi,l5⟩] at q
   exact ⟨by decide,fun p hp=>q p _ (isV p hp) zd⟩
  ·rw [if_neg (by lia)]
   exact rest fun z=>l5 z.2
 ·rw [if_neg (fun z=>wi (V.str.inj z))]
  exact rest fun z=>wi (e0.mp z.1)
theorem XO {H:Hp} (ws:List Str):DatAll K H (ws.map V.str) (ws.map PyData.str):=DatAll.of fun w _=>.str w
theorem Vt:∀ {a b:List Str},a.map V.str=b.map V.str→a=b
 | [],[],_=>rfl
 | x :: a,y :: b,h=>by
  obtain ⟨h1,h2⟩:=List.cons.inj h
  rw [V.str.inj h1,Vt h2]
theorem XQ:∀ {a b:List Str},a.map PyData.str=b.map PyData.str→a=b
 | [],[],_=>rfl
 | x :: a,y :: b,h=>by
  obtain ⟨h1,h2⟩:=List.cons.inj h
  rw [PyData.str.inj h1,XQ h2]
theorem XR:∀ {ws:List Str},vb ws→yc (.list (ws.map PyData.str))=true
 | [],_=>rfl
 | w :: ws,h=>by
  have i:=XR (ws:=ws) fun x hx=>h x (List.mem_cons_of_mem _ hx)
  have i:wg (ws.map PyData.str)=true:=i
  show (PyData.strOk w && wg (ws.map PyData.str))=true
  rw [i,Bool.and_true]
  unfold PyData.strOk
  rw [Array.all_eq_true']
  intro c hc
  have:=(h w List.mem_cons_self).2 c (by simpa using hc)
  simp;lia
theorem Qu (ws:List Str):(PyData.list (ws.map PyData.str)).depth≤50:=by
 have:∀ ws:List Str,PyData.depthAll (ws.map PyData.str)=0:=fun ws=>by
  induction ws with
  | nil=>rfl
  | cons w ws ih=>rw [List.map_cons,PyData.depthAll,ih];rfl
 rw [PyData.depth,this];decide
theorem zaO {D:ke} {a tl wl:Addr} {cs:List Bool} {ws:List Str} {m k:Int} (ht:H tl=some (.lst (cs.map V.bl))) (hw:H wl=some (.lst (ws.map V.str))) (lc:cs.length≤5) (lw:ws.length≤60) (wn:ws≠[]) (wo:vb ws) (q:jQ D H a wl m k (j3 cs m ws)) :
  vw K t D [some (.ref a),some (.ref tl),some (.int m),some (.int k),some (.ref wl)] H:=by
 simp only [vw,kI,yg,V7,L2.start,wt,Zd,zq,zI,zo,zF,zx,tOp,ze,tC,zW,xm,zc,zk,zE,wS,tOr,vd,zp,tB,tCB,qc,ipI,zC,yU,yg,yC,rEq,z0,yR,List.map,List.replicate,List.length,List.append,jqa,jqb,jqc,jqd,jqe,jqf,jqg,jqh,jqi,jqj,jqk,jql,jqm,jqn,and_true,true_and,and_assoc,jqo,jqp,jqq,Nat.reduceSub,Nat.reduceAdd,jqr,jqs,jqt,Int.reduceToNat,Int.reducePow,Int.reduceNeg,Int.reduceMul,Int.reduceAdd,if_true,ite_true,jqu,ite_false,if_false]
 refine ⟨by decide,fun p hp=>⟨by decide,fun p1 hp1=>⟨by decide,fun p2 hp2=>?_⟩⟩⟩
 have t1:=isV (o:=HO.lst [V.str (Str.ofString "else")]) p hp
 have t2:=isV (o:=HO.lst [V.str (Str.ofString "end")]) p1 hp1
 have t3:=isV (o:=HO.tup [V.ref p,V.ref p1]) p2 hp2
 have s:=t1.trans (t2.trans t3)
 have h1:upd (upd (upd H p (HO.lst [V.str (Str.ofString "else")])) p1 (HO.lst [V.str (Str.ofString "end")])) p2 (HO.tup [V.ref p,V.ref p1]) p=some (.lst ([("else":Str)].map V.str)):=t3 _ _ (t2 _ _ zd)
 have h2:upd (upd (upd H p (HO.lst [V.str (Str.ofString "else")])) p1 (HO.lst [V.str (Str.ofString "end")])) p2 (HO.tup [V.ref p,V.ref p1]) p1=some (.lst ([("end":Str)].map V.str)):=t3 _ _ zd
 have h3:upd (upd (upd H p (HO.lst [V.str (Str.ofString "else")])) p1 (HO.lst [V.str (Str.ofString "end")])) p2 (HO.tup [V.ref p,V.ref p1]) p2=some (.tup [V.ref p,V.ref p1]):=zd
 generalize upd (upd (upd H p (HO.lst [V.str (Str.ofString "else")])) p1 (HO.lst [V.str (Str.ofString "end")])) p2 (HO.tup [V.ref p,V.ref p1])=H1 at *
 have hw1:=s _ _ hw
 refine ⟨_,.inr (SqT.of h3),_,.lst (SqL.of hw1) (XO ws),_,.cons (.lst (SqL.of h1) (XO _)) (.cons (.lst (SqL.of h2) (XO _)) .nil),XR wo,Qu ws,fun e he=>?_,fun b hb=>?_⟩
 ·simp only [List.mem_cons,List.not_mem_nil,or_false] at he
  rcases he with rfl | rfl <;> decide +kernel
 have hb:b=true↔(ws=[("else":Str)]∨ws=[("end":Str)]):=by
  rw [hb]
  simp only [List.mem_cons,List.not_mem_nil,or_false]
  exact ⟨fun z=>z.imp (fun y=>XQ (PyData.list.inj y)) fun y=>XQ (PyData.list.inj y),fun z=>z.imp (fun y=>by rw [y]) fun y=>by rw [y]⟩
 have q:=q.mono s
 by_cases c:ws=[("else":Str)]∨ws=[("end":Str)]
 ·rw [if_pos (hb.mpr c)]
  unfold j3 at q
  rw [if_pos (c.elim .inl fun z=>.inr (.inl z))] at q
  exact ⟨by decide,fun p3 hp3=>q p3 _ (isV p3 hp3) zd⟩
 rw [if_neg (fun z=>c (hb.mp z))]
 refine ⟨ws,hw1,lw,wn,wo,fun H2 s2=>?_⟩
 by_cases f:qu ws=false
 ·rw [if_pos f]
  unfold j3 at q
  rw [if_pos (.inr (.inr f))] at q
  exact ⟨by decide,fun p3 hp3=>q p3 _ (s2.trans (isV p3 hp3)) zd⟩
 rw [if_neg f]
 exact zct (s2 _ _ (s _ _ ht)) (s2 _ _ hw1) lc wn (fun z=>z.elim (fun y=>c (.inl y)) fun y=>y.elim (fun x=>c (.inr x)) f) (q.mono s2)
theorem XS:∀ (a b:List Str),kB (a.map V.str) (b.map V.str)=true
 | [],_=>by unfold kB;rfl
 | _ :: _,[]=>by unfold kB;rfl
 | x :: a,y :: b=>by
  show kB (V.str x :: a.map V.str) (V.str y :: b.map V.str)=true
  unfold kB
  rw [XS a b];rfl
theorem WI {ws:List Str} (h:vb ws):(ws.map V.str).all yT=true:=by
 rw [List.all_eq_true]
 intro v hv
 obtain ⟨x,hx,rfl⟩:=List.mem_map.mp hv
 exact (h x hx).2.flat
theorem KL {α:Type} (cs:List α):cs=[]∨∃ c' c,cs=c' ++ [c]:=by
 by_cases h:cs=[]
 ·exact .inl h
 ·exact .inr ⟨cs.dropLast,cs.getLast h,(List.dropLast_concat_getLast h).symm⟩
theorem XT (xs:List V):qY xs none (some (-1))=xs.dropLast:=by
 unfold qY
 have e:HT.sIx xs.length xs.length (some (-1))=xs.length - 1:=by
  show (if (-1:Int) < 0 then (-1 + (xs.length:Int)).toNat else min (-1:Int).toNat xs.length)=xs.length - 1
  rw [if_pos (by decide)]
  lia
 rw [e,show HT.sIx xs.length 0 none=0 from rfl,List.drop_zero,Nat.sub_zero,List.dropLast_eq_take]
theorem Kc {D:ke} {a tl wl:Addr} {cs:List Bool} {ws:List Str} {m k:Int} (ht:H tl=some (.lst (cs.map V.bl))) (hw:H wl=some (.lst (ws.map V.str))) (lc:cs.length≤5) (lw:ws.length≤60) (wn:ws≠[]) (wo:vb ws) (q:jQ D H a wl m k (j2 cs m ws)) :
  vx K t D [some (.ref a),some (.ref tl),some (.int m),some (.int k),some (.ref wl)] H:=by
 simp only [vx,yg,y6,V7,L2.start,W7,wt,Zd,zq,zI,zo,zF,zx,tOp,tUn,ze,tC,zW,xm,zc,zk,zE,wS,tOr,vd,zp,tB,tCB,tSl,z8,zP,qc,ipI,zC,yU,yg,yC,rEq,rU,wd,z0,yR,List.map,List.replicate,List.length,List.append,jqa,jqb,jqc,jqd,jqe,jqf,jqg,jqh,jqi,jqj,jqk,jql,jqm,jqn,and_true,true_and,and_assoc,jqo,jqp,jqq,Nat.reduceSub,Nat.reduceAdd,jqr,jqs,jqt,Int.reduceToNat,Int.reducePow,Int.reduceNeg,Int.reduceMul,Int.reduceAdd,if_true,ite_true,jqu,ite_false,if_false]
 refine ⟨by decide,fun p hp=>?_⟩
 have s:=isV (o:=HO.lst [V.str (Str.ofString "end")]) p hp
 refine ⟨_,SqL.of (s _ _ hw),_,SqL.of zd,WI wo,by decide +kernel,XS ws [("end":Str)],?_⟩
 have q:=q.mono s
 unfold j2 at q
 have ew:ws.map V.str=[V.str (Str.ofString "end")]↔ws=[("end":Str)]:=⟨fun z=>Vt (b:=[("end":Str)]) z,fun z=>by rw [z];rfl⟩
 by_cases c:ws=[("end":Str)]
 ·rw [if_pos (ew.mpr c)]
  refine ⟨Nat.zero_le _,fun p1 hp1=>?_⟩
  have s2:=isV (o:=HO.lst []) p1 hp1
  refine ⟨_,SqL.of (s2 _ _ (s _ _ ht)),SqL.of zd,?_⟩
  by_cases n:cs=[]
  ·rw [if_neg (by simp [n])]
   rw [if_neg (fun z=>z.2 n)] at q
   exact zaO (s2 _ _ (s _ _ ht)) (s2 _ _ (s _ _ hw)) lc lw wn wo (q.mono s2)
  ·rw [if_pos (by simp [n])]
   rw [if_pos ⟨c,n⟩] at q
   refine ⟨_,SqL.of (s2 _ _ (s _ _ ht)),fun p2 hp2=>?_⟩
   rw [XT]
   exact q p2 _ (s2.trans (isV p2 hp2)) (by rw [zd,List.map_dropLast])
 ·rw [if_neg (fun z=>c (ew.mp z))]
  rw [if_neg (fun z=>c z.1)] at q
  exact zaO (s _ _ ht) (s _ _ hw) lc lw wn wo q
theorem zcu {D:ke} {a tl wl:Addr} {cs:List Bool} {ws:List Str} {m k:Int} (ht:H tl=some (.lst (cs.map V.bl))) (hw:H wl=some (.lst (ws.map V.str))) (lc:cs.length≤5) (lw:ws.length≤60) (wn:ws≠[]) (wo:vb ws) (q:jQ D H a wl m k (j1 cs m ws)) :
  vy K t D [some (.ref a),some (.ref tl),some (.int m),some (.int k),some (.ref wl)] H:=by
 simp only [vy,yg,y6,V7,L2.start,W7,wt,Zd,zq,zI,zo,zF,zx,tOp,tUn,ze,tC,zW,xm,zc,zk,zE,wS,tOr,vd,zp,tB,tCB,tSl,z8,zP,qc,ipI,zC,yU,yg,yC,rEq,rU,wd,z0,yR,List.map,List.replicate,List.length,List.append,jqa,jqb,jqc,jqd,jqe,jqf,jqg,jqh,jqi,jqj,jqk,jql,jqm,jqn,and_true,true_and,and_assoc,jqo,jqp,jqq,Nat.reduceSub,Nat.reduceAdd,jqr,jqs,jqt,Int.reduceToNat,Int.reducePow,Int.reduceNeg,Int.reduceMul,Int.reduceAdd,if_true,ite_true,jqu,ite_false,if_false]
 refine ⟨by decide,fun p hp=>?_⟩
 have s:=isV (o:=HO.lst [V.str (Str.ofString "else")]) p hp
 refine ⟨_,SqL.of (s _ _ hw),_,SqL.of zd,WI wo,by decide +kernel,XS ws [("else":Str)],?_⟩
 have q:=q.mono s
 unfold j1 at q
 have ew:ws.map V.str=[V.str (Str.ofString "else")]↔ws=[("else":Str)]:=⟨fun z=>Vt (b:=[("else":Str)]) z,fun z=>by rw [z];rfl⟩
 by_cases c:ws=[("else":Str)]
 ·rw [if_pos (ew.mpr c)]
  refine ⟨Nat.zero_le _,fun p1 hp1=>?_⟩
  have s2:=isV (o:=HO.lst []) p1 hp1
  have ht2:=s2 _ _ (s _ _ ht)
  refine ⟨_,SqL.of ht2,SqL.of zd,?_⟩
  rcases KL cs with rfl | ⟨c',b,rfl⟩
  ·rw [if_neg (by simp)]
   rw [if_neg (fun z=>by cases z.2)] at q
   exact Kc ht2 (s2 _ _ (s _ _ hw)) lc lw wn wo (q.mono s2)
  ·rw [if_pos (by simp)]
   refine ⟨_,SqL.of ht2,_,by rw [List.map_append];exact YE,b,rfl,?_⟩
   cases b with
   | true =>
    rw [if_neg (by decide)]
    rw [if_neg (fun z=>by have:=z.2;simp at this)] at q
    exact Kc ht2 (s2 _ _ (s _ _ hw)) lc lw wn wo (q.mono s2)
   | false =>
    rw [if_pos rfl]
    rw [if_pos ⟨c,by simp⟩] at q
    refine ⟨_,SqL.of ht2,fun p2 hp2=>⟨by decide,fun p3 hp3=>?_⟩⟩
    rw [XT] at hp3 ⊢
    have s3:=isV (o:=HO.lst ((c' ++ [false]).map V.bl).dropLast) p2 hp2
    have s4:=isV (o:=HO.lst [V.bl true]) p3 hp3
    refine ⟨_,s4 _ _ zd,_,zd,zj (by simp at lc ⊢;lia),fun p4 hp4=>q p4 _ (s2.trans (s3.trans (s4.trans (isV p4 hp4)))) ?_⟩
    rw [zd];simp [List.map_dropLast]
 ·rw [if_neg (fun z=>c (ew.mp z))]
  rw [if_neg (fun z=>c z.1)] at q
  exact Kc (s _ _ ht) (s _ _ hw) lc lw wn wo q
theorem zcW {cs cs':List Bool} {m m':Int} {ws:List Str} (lc:cs.length≤5) (h:j1 cs m ws=some (cs',m')):cs'.length≤5:=by
 unfold j1 at h
 split at h
 ·rename_i c
  cases h
  have:=List.ne_nil_of_mem (List.mem_of_getLast? c.2)
  have:=List.length_pos_iff.mpr this
  simp;lia
 unfold j2 at h
 split at h
 ·cases h
  simp;lia
 unfold j3 at h
 split at h
 ·cases h
 split at h
 ·cases h
 ·rename_i c
  have h:=Option.some.inj h
  have e:=congrArg Prod.fst h
  dsimp only at e
  rw [← e]
  split
  ·rename_i w
   have:cs.length≠5:=fun z=>c ⟨w,z⟩
   simp;lia
  ·exact lc
def jdI (a:Addr) (ls:List Str) (H:Hp) (i:Nat) (σ:St) (H':Hp):Prop:=∃ cs m tl,(∃ o3 o4,σ=[some (.ref a),some (.ref tl),some (.int m),o3,o4])∧Same H H'∧H' tl=some (.lst (List.map V.bl cs))∧cs.length≤5∧jx [] 0 0 ls=jx cs m i (ls.drop i)
theorem YY {a:Addr} {ls:List Str} (h1:H a=some (.lst (ls.map V.str))) (h2:ls.length≤20001) (h3:okLs 20000 ls) (q:∀ p H',Same H H'→H' p=some (.tup [.int (jx [] 0 0 ls).1,.int (jx [] 0 0 ls).2])→Q (.ref p) H') :
  jF K t { nx:=fun _ H'=>Q .non H',rt:=Q } (L2.start ["lines","turned","many","k","words"] [.ref a]) H:=by
 simp only [jF,kj,ki,yg,y6,y0,V7,L2.start,W7,wt,Zd,zq,zI,zo,zF,zx,tOp,tUn,ze,tC,zW,xm,zc,zk,xP,zE,wS,tOr,vd,zp,tB,tCB,tBM,tyV,tSl,z8,zP,qc,ipI,zC,yU,ZJ,yg,yC,rEq,rI0,rU,wd,z0,yR,List.map,List.replicate,List.length,List.append,jqa,jqb,jqc,jqd,jqe,jqf,jqg,jqh,jqi,jqj,jqk,jql,jqm,jqn,and_true,true_and,and_assoc,jqo,jqp,jqq,Nat.reduceSub,Nat.reduceAdd,jqr,jqs,jqt,Int.reduceToNat,Int.reducePow,Int.reduceNeg,Int.reduceMul,Int.reduceAdd,if_true,ite_true,jqu,ite_false,if_false]
 refine ⟨Nat.zero_le _,fun tl htl=>?_⟩
 have s1:=isV (o:=HO.lst []) tl htl
 refine ⟨ls.length,.inl ⟨_,SqL.of (s1 _ _ h1),(List.length_map ..).symm⟩,by lia,by lia,Zr (jdI a ls H) ⟨[],0,tl,⟨_,_,rfl⟩,s1,zd,by decide,rfl⟩ ?_ ?_⟩
 ·rintro i σ H' hi ⟨cs,m,tl,⟨o3,o4,rfl⟩,s,ht,lc,hj⟩
  have hi:i < ls.length:=by lia
  obtain ⟨x,hx⟩:∃ x,ls[i]?=some x:=⟨_,List.getElem?_eq_getElem hi⟩
  have lx:=h3 x (List.mem_of_getElem? hx)
  have hat:atI (ls.map V.str) (i:Int)=some (V.str x):=ka (by rw [List.getElem?_map,hx];rfl)
  rw [xY hx] at hj
  have hj:jx [] 0 0 ls=if i=40∨60 < (Txt.split x wY).length then ((i:Int),m) else match j1 cs m (Txt.split x wY) with | none=>((i:Int),m) | some z=>jx z.1 z.2 (i + 1) (ls.drop (i + 1)):=hj
  have wo:vb (Txt.split x wY):=ko lx.1 lx.2
  have wc:(Txt.split x wY).length≤x.length + 1:=vK x 32
  have wn:Txt.split x wY≠[]:=V2 _ _
  simp only [yg,y6,y0,V7,L2.start,W7,wt,Zd,zq,zI,zo,zF,zx,tOp,tUn,ze,tC,zW,xm,zc,zk,xP,zE,wS,tOr,vd,zp,tB,tCB,tBM,tyV,tSl,z8,zP,qc,ipI,zC,yU,ZJ,yg,yC,rEq,rI0,rU,wd,z0,yR,List.map,List.replicate,List.length,List.append,jqa,jqb,jqc,jqd,jqe,jqf,jqg,jqh,jqi,jqj,jqk,jql,jqm,jqn,and_true,true_and,and_assoc,jqo,jqp,jqq,Nat.reduceSub,Nat.reduceAdd,jqr,jqs,jqt,Int.reduceToNat,Int.reducePow,Int.reduceNeg,Int.reduceMul,Int.reduceAdd,if_true,ite_true,jqu,ite_false,if_false,Int.zero_add]
  rw [zbL]
  refine ⟨_,SqL.of (s _ _ h1),_,hat,trivial,x,rfl,?_⟩
  generalize Txt.split x wY=ws at *
  have lm:(List.map V.str ws).length=ws.length:=List.length_map ..
  refine ⟨by decide +kernel,by lia,by lia,fun wl hwl=>?_⟩
  have s2:=isV (o:=HO.lst (ws.map V.str)) wl hwl
  have w2:upd H' wl (HO.lst (ws.map V.str)) wl=some (.lst (ws.map V.str)):=zd
  generalize upd H' wl (HO.lst (ws.map V.str))=H2 at *
  have ret:jx [] 0 0 ls=((i:Int),m)→2≤sizeLine∧∀ p,H2 p=none→Q (.ref p) (upd H2 p (.tup [.int (i:Int),.int m])):=fun e=>⟨by decide,fun p hp=>q p _ ((s.trans s2).trans (isV p hp)) (by rw [zd,e])⟩
  by_cases h40:(i:Int)=40
  ·rw [if_pos h40]
   rw [if_pos (.inl (by lia))] at hj
   exact ret hj
  rw [if_neg h40]
  refine ⟨ws.length,.inl ⟨_,SqL.of w2,lm.symm⟩,?_⟩
  by_cases h60:60 < ws.length
  ·rw [if_pos (by lia)]
   rw [if_pos (.inr h60)] at hj
   exact ret hj
  rw [if_neg (by lia)]
  rw [if_neg (fun z=>z.elim (fun y=>h40 (by lia)) h60)] at hj
  refine zcu (s2 _ _ ht) w2 lc (by lia) wn wo ?_
  cases jj:j1 cs m ws with
  | none=>exact fun p H3 s3 e=>by rw [jj] at hj;exact q p _ ((s.trans s2).trans s3) (by rw [e,hj])
  | some z=>exact fun tl' H3 s3 e=>⟨z.1,z.2,tl',⟨_,_,rfl⟩,(s.trans s2).trans s3,e,zcW lc jj,by rw [jj] at hj;exact hj⟩
 ·rintro σ H' ⟨cs,m,tl,⟨o3,o4,rfl⟩,s,ht,lc,hj⟩
  simp only [yg,y6,y0,V7,L2.start,W7,wt,Zd,zq,zI,zo,zF,zx,tOp,tUn,ze,tC,zW,xm,zc,zk,xP,zE,wS,tOr,vd,zp,tB,tCB,tBM,tyV,tSl,z8,zP,qc,ipI,zC,yU,ZJ,yg,yC,rEq,rI0,rU,wd,z0,yR,List.map,List.replicate,List.length,List.append,jqa,jqb,jqc,jqd,jqe,jqf,jqg,jqh,jqi,jqj,jqk,jql,jqm,jqn,and_true,true_and,and_assoc,jqo,jqp,jqq,Nat.reduceSub,Nat.reduceAdd,jqr,jqs,jqt,Int.reduceToNat,Int.reducePow,Int.reduceNeg,Int.reduceMul,Int.reduceAdd,if_true,ite_true,jqu,ite_false,if_false]
  rw [show (ls.length:Int).toNat=ls.length by lia,List.drop_of_length_le (Nat.le_refl _)] at hj
  refine ⟨Nat.zero_le _,fun p hp=>?_⟩
  have s2:=isV (o:=HO.lst []) p hp
  refine ⟨_,SqL.of (s2 _ _ ht),SqL.of zd,?_⟩
  cases cs with
  | nil =>
   rw [if_neg (by simp)]
   have hj:jx [] 0 0 ls=(-1,m):=hj
   exact ⟨by decide,fun p1 hp1=>q p1 _ (s.trans (s2.trans (isV p1 hp1))) (by rw [zd,hj])⟩
  | cons c cs =>
   rw [if_pos (by simp)]
   have hj:jx [] 0 0 ls=(((ls.length:Nat):Int),m):=hj
   exact ⟨ls.length,.inl ⟨_,SqL.of (s2 _ _ (s _ _ h1)),(List.length_map ..).symm⟩,by decide,fun p1 hp1=>q p1 _ (s.trans (s2.trans (isV p1 hp1))) (by rw [zd,hj])⟩
def jJ:Hd→Str
 | .take _ _ _=>"take"
 | .give _ _ _=>"give"
 | .lt _ _=>"let"
 | .say _=>"say"
 | .off _=>"off"
 | .iff _=>"if"
 | .els=>"else"
 | .nd=>"end"
theorem KM (h:Hd):h.words[0]?=some (jJ h):=by cases h <;> rfl
theorem KN {h:Hd} {w:Str} (hw:jJ h≠w):h.words≠[w]:=fun z=>hw (by have:=KM h;rw [z] at this;exact (Option.some.inj this).symm)
def cnt:Trs→List Fm→Int
 | D,[]=>D.len
 | _,[f]=>f.up.len + 1
 | _,f :: g :: fs=>cnt f.up (g :: fs)
theorem Jm (D D':Trs) (f f':Fm) (fs:List Fm) (e:f.up=f'.up):cnt D (f :: fs)=cnt D' (f' :: fs):=by
 cases fs with
 | nil=>show (f.up.len:Int) + 1=f'.up.len + 1;rw [e]
 | cons g fs=>show cnt f.up (g :: fs)=cnt f'.up (g :: fs);rw [e]
theorem zaP (D:Trs) (f:Fm) (fs:List Fm):cnt D (f :: fs)=cnt f.up fs + if fs.map Fm.c=[] then 1 else 0:=by
 cases fs with
 | nil=>rfl
 | cons g fs=>show cnt f.up (g :: fs)=_;simp
theorem Jn (D:Trs) (x:Tr) (fs:List Fm):cnt (D.snoc x) fs=cnt D fs + if fs.map Fm.c=[] then 1 else 0:=by
 cases fs with
 | nil =>
  show ((D.snoc x).len:Int)=(D.len:Int) + 1
  rw [qW];lia
 | cons f fs=>rw [Jm (D.snoc x) D f f fs rfl];simp
theorem zaQ {h:Hd} (ok:h.ok) (n1:h≠.els) (n2:h≠.nd):qu h.words=true:=by
 unfold qu
 exact @decide_eq_true _ (Classical.propDecidable _) ⟨h,rfl,ok,n1,n2⟩
theorem KO {fs:List Fm}:((fs.map Fm.c).reverse=[])=(fs.map Fm.c=[]):=by rw [List.reverse_eq_nil_iff]
theorem zbM {h:Hd} (cs:List Bool) (m:Int) (ok:h.ok) (n1:h≠.els) (n2:h≠.nd) (f1:jJ h≠"else") (f2:jJ h≠"end"):j1 cs m h.words=if jJ h="if"∧cs.length=5 then none else some (if jJ h="if" then cs ++ [false] else cs,m + if cs=[] then 1 else 0):=by
 have a1:=KN f1
 have a2:=KN f2
 have e:(h.words[0]?=some ("if":Str))=(jJ h="if"):=by rw [KM];exact propext ⟨Option.some.inj,fun z=>by rw [z]⟩
 unfold j1 j2 j3
 rw [if_neg (fun z=>a1 z.1),if_neg (fun z=>a2 z.1),if_neg (fun z=>z.elim a1 fun y=>y.elim a2 fun x=>by rw [zaQ ok n1 n2] at x;cases x)]
 simp only [e]
theorem zcX {D:Trs} {fs:List Fm} {h:Hd} (ok:h.ok) (l5:fs.length≤5):(∀ z,stp D fs h=some z→j1 (fs.map Fm.c).reverse (cnt D fs) h.words=some ((z.2.map Fm.c).reverse,cnt z.1 z.2)∧z.2.length≤5)∧(stp D fs h=none→j1 (fs.map Fm.c).reverse (cnt D fs) h.words=none):=by
 have plain:h≠.els→h≠.nd→jJ h≠"else"→jJ h≠"end"→jJ h≠"if"→stp D fs h=some (D.snoc (.row h),fs)→(∀ z,stp D fs h=some z→j1 (fs.map Fm.c).reverse (cnt D fs) h.words=some ((z.2.map Fm.c).reverse,cnt z.1 z.2)∧z.2.length≤5)∧(stp D fs h=none→j1 (fs.map Fm.c).reverse (cnt D fs) h.words=none):=fun n1 n2 f1 f2 f3 e=>by
  refine ⟨fun z hz=>?_,fun hz=>by rw [e] at hz;cases hz⟩
  rw [e] at hz
  cases hz
  refine ⟨?_,l5⟩
  rw [zbM _ _ ok n1 n2 f1 f2,if_neg (fun z=>f3 z.1),if_neg f3,Jn]
  simp only [KO]
 cases h with
 | take sh T sl=>exact plain nofun nofun (fun z=>absurd (show Str.ofString "take"=Str.ofString "else" from z) (by decide +kernel)) (fun z=>absurd (show Str.ofString "take"=Str.ofString "end" from z) (by decide +kernel)) (fun z=>absurd (show Str.ofString "take"=Str.ofString "if" from z) (by decide +kernel)) rfl
 | give sh T U=>exact plain nofun nofun (fun z=>absurd (show Str.ofString "give"=Str.ofString "else" from z) (by decide +kernel)) (fun z=>absurd (show Str.ofString "give"=Str.ofString "end" from z) (by decide +kernel)) (fun z=>absurd (show Str.ofString "give"=Str.ofString "if" from z) (by decide +kernel)) rfl
 | lt sl T=>exact plain nofun nofun (fun z=>absurd (show Str.ofString "let"=Str.ofString "else" from z) (by decide +kernel)) (fun z=>absurd (show Str.ofString "let"=Str.ofString "end" from z) (by decide +kernel)) (fun z=>absurd (show Str.ofString "let"=Str.ofString "if" from z) (by decide +kernel)) rfl
 | say T=>exact plain nofun nofun (fun z=>absurd (show Str.ofString "say"=Str.ofString "else" from z) (by decide +kernel)) (fun z=>absurd (show Str.ofString "say"=Str.ofString "end" from z) (by decide +kernel)) (fun z=>absurd (show Str.ofString "say"=Str.ofString "if" from z) (by decide +kernel)) rfl
 | off T=>exact plain nofun nofun (fun z=>absurd (show Str.ofString "off"=Str.ofString "else" from z) (by decide +kernel)) (fun z=>absurd (show Str.ofString "off"=Str.ofString "end" from z) (by decide +kernel)) (fun z=>absurd (show Str.ofString "off"=Str.ofString "if" from z) (by decide +kernel)) rfl
 | iff T =>
  have e:stp D fs (.iff T)=if fs.length < 5 then some (Trs.nil,(⟨T,false,.nil,D⟩:Fm) :: fs) else none:=rfl
  rw [e,zbM _ _ ok nofun nofun (fun z=>absurd (show Str.ofString "if"=Str.ofString "else" from z) (by decide +kernel)) (fun z=>absurd (show Str.ofString "if"=Str.ofString "end" from z) (by decide +kernel))]
  by_cases l:fs.length < 5
  ·rw [if_pos l,if_neg (fun z=>by have:=z.2;simp at this;lia)]
   refine ⟨fun z hz=>?_,fun hz=>nomatch hz⟩
   cases hz
   refine ⟨?_,by simp;lia⟩
   rw [if_pos (show jJ (.iff T)="if" from rfl),zaP]
   simp only [KO,List.map_cons,List.reverse_cons]
  ·rw [if_neg l,if_pos ⟨rfl,by simp;lia⟩]
   exact ⟨fun z hz=>(nomatch hz),fun _=>rfl⟩
 | els =>
  have w:Hd.words .els=[("else":Str)]:=rfl
  cases fs with
  | nil =>
   refine ⟨fun z hz=>(nomatch hz),fun _=>?_⟩
   unfold j1 j2 j3
   rw [if_neg (fun z=>nomatch z.2),if_neg (fun z=>z.2 rfl),if_pos (.inl w)]
  | cons f fs =>
   have e:stp D (f :: fs) .els=if f.c=false then some (Trs.nil,(⟨f.T,true,D,f.up⟩:Fm) :: fs) else none:=rfl
   have g:((f :: fs).map Fm.c).reverse.getLast?=some f.c:=by simp
   rw [e]
   cases fc:f.c with
   | false =>
    rw [if_pos rfl]
    refine ⟨fun z hz=>?_,fun hz=>nomatch hz⟩
    cases hz
    refine ⟨?_,l5⟩
    unfold j1
    rw [if_pos ⟨w,by rw [g,fc]⟩,Jm D Trs.nil f ⟨f.T,true,D,f.up⟩ fs rfl]
    simp
   | true =>
    rw [if_neg (by decide)]
    refine ⟨fun z hz=>(nomatch hz),fun _=>?_⟩
    unfold j1 j2 j3
    rw [if_neg (fun z=>by have:=z.2;rw [g,fc] at this;cases this),if_neg (fun z=>absurd z.1 (by decide +kernel)),if_pos (.inl w)]
 | nd =>
  have w:Hd.words .nd=[("end":Str)]:=rfl
  have ne:¬ Hd.words .nd=[("else":Str)]:=by decide +kernel
  cases fs with
  | nil =>
   refine ⟨fun z hz=>(nomatch hz),fun _=>?_⟩
   unfold j1 j2 j3
   rw [if_neg (fun z=>ne z.1),if_neg (fun z=>z.2 rfl),if_pos (.inr (.inl w))]
  | cons f fs =>
   have e:stp D (f :: fs) .nd=some (f.up.snoc (.iff f.T (if f.c=true then f.a else D) (if f.c=true then D else .nil)),fs):=rfl
   rw [e]
   refine ⟨fun z hz=>?_,fun hz=>nomatch hz⟩
   rw [← Option.some.inj hz]
   refine ⟨?_,by simp at l5 ⊢;lia⟩
   unfold j1 j2
   rw [if_neg (fun z=>ne z.1),if_pos ⟨w,by simp⟩,Jn,zaP]
   simp
theorem zaR:∀ (ls:List Str) (D:Trs) (fs:List Fm) (k:Nat),(∀ x∈ls,(x.length≤20000∧Asc x)∧10 ∉ x.cps.toList)→fs.length≤5→k≤40 →
  (∀ D',rdE D fs k ls=.ok D'→jx (fs.map Fm.c).reverse (cnt D fs) k ls=(-1,(D'.len:Int)))∧(∀ e:Nat,rdE D fs k ls=.error e→(jx (fs.map Fm.c).reverse (cnt D fs) k ls).1=(e:Int))
 | [],D,fs,k,_,_,_=>by
  cases fs with
  | nil=>exact ⟨fun D' z=>by cases z;rfl,fun e z=>nomatch z⟩
  | cons f fs =>
   have e0:rdE D (f :: fs) k []=.error k:=rfl
   refine ⟨fun D' z=>(by rw [e0] at z;cases z),fun e z=>?_⟩
   rw [e0] at z;cases z
   have hn:((f :: fs).map Fm.c).reverse≠[]:=by simp
   obtain ⟨c,r,hc⟩:=List.exists_cons_of_ne_nil hn
   rw [hc];rfl
 | x :: r,D,fs,k,L,l5,k40=>by
  have Lx:=L x List.mem_cons_self
  have r0:rdE D fs k (x :: r)=if 40≤k then .error k else match hdS x with | some h=>(match stp D fs h with | some z=>rdE z.1 z.2 (k + 1) r | none=>.error k) | none=>.error k:=rfl
  have jd:jx (fs.map Fm.c).reverse (cnt D fs) k (x :: r)=if k=40∨60 < (Txt.split x wY).length then ((k:Int),cnt D fs) else match j1 (fs.map Fm.c).reverse (cnt D fs) (Txt.split x wY) with | none=>((k:Int),cnt D fs) | some z=>jx z.1 z.2 (k + 1) r:=rfl
  have fin:rdE D fs k (x :: r)=.error k→jx (fs.map Fm.c).reverse (cnt D fs) k (x :: r)=((k:Int),cnt D fs)→(∀ D',rdE D fs k (x :: r)=.ok D'→jx (fs.map Fm.c).reverse (cnt D fs) k (x :: r)=(-1,(D'.len:Int)))∧(∀ e:Nat,rdE D fs k (x :: r)=.error e→(jx (fs.map Fm.c).reverse (cnt D fs) k (x :: r)).1=(e:Int)):=fun a b =>
   ⟨fun D' z=>(by rw [a] at z;cases z),fun e z=>by rw [a] at z;cases z;rw [b]⟩
  by_cases h40:k=40
  ·exact fin (by rw [r0,if_pos (by lia)]) (by rw [jd,if_pos (.inl h40)])
  rw [if_neg (by lia)] at r0
  cases hh:hdS x with
  | none =>
   rw [hh] at r0
   refine fin r0 ?_
   rw [jd]
   by_cases h60:60 < (Txt.split x wY).length
   ·rw [if_pos (.inr h60)]
   rw [if_neg (fun z=>z.elim h40 h60)]
   have nr:∀ hd:Hd,Txt.split x wY=hd.words→¬ hd.ok:=fun hd e ok =>
    have z:=zaL Lx.1.1 Lx.1.2 Lx.2 (by lia) e ok
    Jl hh hd z.1 z.2
   have n1:¬ Txt.split x wY=[("else":Str)]:=fun z=>nr .els z trivial
   have n2:¬ Txt.split x wY=[("end":Str)]:=fun z=>nr .nd z trivial
   have n3:qu (Txt.split x wY)=false:=by
    unfold qu
    exact @decide_eq_false _ (Classical.propDecidable _) fun ⟨hd,e,ok,_⟩=>nr hd e ok
   have:j1 (fs.map Fm.c).reverse (cnt D fs) (Txt.split x wY)=none:=by
    unfold j1 j2 j3
    rw [if_neg (fun z=>n1 z.1),if_neg (fun z=>n2 z.1),if_pos (.inr (.inr n3))]
   rw [this]
  | some h =>
   rw [hh] at r0
   have r0:rdE D fs k (x :: r)=match stp D fs h with | some z=>rdE z.1 z.2 (k + 1) r | none=>.error k:=r0
   obtain ⟨ex,Lh⟩:=Jk hh
   have ew:Txt.split x wY=h.words:=by rw [ex];exact XH Lh
   rw [ew,if_neg (fun z=>z.elim h40 fun y=>by have:=Lh.ln;lia)] at jd
   have js:=zcX (D:=D) (fs:=fs) Lh.ok l5
   cases st:stp D fs h with
   | none =>
    rw [st] at r0
    rw [js.2 st] at jd
    exact fin r0 jd
   | some z =>
    rw [st] at r0
    obtain ⟨e1,e2⟩:=js.1 z st
    rw [e1] at jd
    have r0:rdE D fs k (x :: r)=rdE z.1 z.2 (k + 1) r:=r0
    have jd:jx (fs.map Fm.c).reverse (cnt D fs) k (x :: r)=jx (z.2.map Fm.c).reverse (cnt z.1 z.2) (k + 1) r:=jd
    rw [r0,jd]
    exact zaR r z.1 z.2 (k + 1) (fun y hy=>L y (List.mem_cons_of_mem _ hy)) e2 (by lia)
theorem Qv {x:Str} (ha:Asc x) (hx:x.length≤20000):(∀ D',rdE .nil [] 0 (yw x)=.ok D'→jx [] 0 0 (yw x)=(-1,(D'.len:Int)))∧(∀ e:Nat,rdE .nil [] 0 (yw x)=.error e→(jx [] 0 0 (yw x)).1=(e:Int)) :=
 zaR (yw x) .nil [] 0 (fun y hy=>by
  unfold yw at hy
  split at hy
  ·cases hy
  ·exact ⟨ko hx ha y hy,(km hy).2.2⟩) (Nat.zero_le _) (by decide)
theorem Jo {c d:Nat}:∀ {ws:List Str},d∈(Str.join ⟨#[c]⟩ ws).cps.toList→d=c∨∃ w∈ws,d∈w.cps.toList
 | [],h=>by simp [Str.join,Str.empty] at h
 | [x],h=>.inr ⟨x,List.mem_cons_self,h⟩
 | x :: y :: r,h=>by
  rw [xC] at h
  rcases List.mem_append.mp h with h | h
  ·exact .inr ⟨x,List.mem_cons_self,h⟩
  ·rcases List.mem_cons.mp h with h | h
   ·exact .inl h
   ·rcases Jo (ws:=y :: r) h with h | ⟨w,hw,h⟩
    ·exact .inl h
    ·exact .inr ⟨w,List.mem_cons_of_mem _ hw,h⟩
def lnI (H:Hp) (i:Nat) (σ:St) (H':Hp):Prop:=(∃ (a:Int) (x:Str) (o:Option V),σ=[some (.int a),some (.str (Str.ofString "abcdefghijklmnopqrstuvwxyz")),some (.str x),o]∧x.length=i∧Asc x)∧H'=H
theorem Wc {n:Int} (q:wA 7 H Q) :
  kJ K t { nx:=fun _ H'=>Q .non H',rt:=Q } (L2.start ["number","letters","word","k"] [.int n]) H:=by
 simp only [kJ,yB,L2.start,zq,zI,zo,zF,zx,tOp,ze,tC,zc,zk,xP,zE,tB,zC,ZJ,Xj,rI,rI0,zQ,List.map,List.replicate,List.length,List.append,jqa,jqb,jqc,jqd,jqe,jqf,jqg,jqh,jqi,jqj,jqk,jql,jqm,jqn,and_true,true_and,and_assoc,jqo,jqp,jqq,Nat.reduceSub,Nat.reduceAdd,jqr,jqs,jqt,Int.reduceToNat,Int.reducePow,Int.reduceNeg,Int.reduceMul,Int.reduceAdd,if_true,ite_true,jqu,ite_false,if_false]
 have hb:(100000000000:Int) < big:=by decide +kernel
 have ea:∀ c∈(Str.ofString "abcdefghijklmnopqrstuvwxyz").cps.toList,c < 128:=by decide +kernel
 have g1:=Int.emod_nonneg n (b:=6) (by decide)
 have g2:=Int.emod_lt_of_pos n (b:=6) (by decide)
 refine ⟨by decide,by lia,by lia,Zr (lnI H) ⟨⟨n,_,none,rfl,by decide +kernel,by unfold Asc;decide +kernel⟩,rfl⟩ ?_ ?_⟩
 ·rintro i σ H' hi ⟨⟨a,x,o,rfl,hx,ha⟩,rfl⟩
  simp only [L2.start,zq,zI,zo,zF,zx,tOp,ze,tC,zc,zk,xP,zE,tB,zC,ZJ,Xj,rI,rI0,zQ,List.map,List.replicate,List.length,List.append,jqa,jqb,jqc,jqd,jqe,jqf,jqg,jqh,jqi,jqj,jqk,jql,jqm,jqn,and_true,true_and,and_assoc,jqo,jqp,jqq,Nat.reduceSub,Nat.reduceAdd,jqr,jqs,jqt,Int.reduceToNat,Int.reducePow,Int.reduceNeg,Int.reduceMul,Int.reduceAdd,if_true,ite_true,jqu,ite_false,if_false]
  obtain ⟨c,hc,hm⟩:=Vk (a / 6) 26 zbw (by decide)
  exact ⟨dB,by decide,by decide +kernel,c,hc,zj (by rw [Vl];lia),dB,⟨by lia,by lia⟩,⟨by lia,by lia⟩,⟨_,_,_,rfl,by rw [zG,Vl];lia,ha.app (Asc.one (ea c hm))⟩,rfl⟩
 ·rintro σ H' ⟨⟨a,x,o,rfl,hx,ha⟩,rfl⟩
  have ql:=q_cps.2
  have qa:Asc (Str.ofString "q"):=by unfold Asc;decide +kernel
  simp only [L2.start,zq,zI,zo,zF,zx,tOp,ze,tC,zc,zk,xP,zE,tB,zC,ZJ,Xj,rI,rI0,zQ,List.map,List.replicate,List.length,List.append,jqa,jqb,jqc,jqd,jqe,jqf,jqg,jqh,jqi,jqj,jqk,jql,jqm,jqn,and_true,true_and,and_assoc,jqo,jqp,jqq,Nat.reduceSub,Nat.reduceAdd,jqr,jqs,jqt,Int.reduceToNat,Int.reducePow,Int.reduceNeg,Int.reduceMul,Int.reduceAdd,if_true,ite_true,jqu,ite_false,if_false]
  refine ⟨by lia,fun H2 s2=>yu (fun c=>q x _ (by lia) ha s2) fun c=>⟨zj (by lia),q _ _ (by rw [zG];lia) (ha.app qa) s2⟩⟩
theorem KP {n:Int} {x:Str} (h0:0≤n) (h1:n < 2147483648) (lx:x.length≤40) (ha:Asc x) (q:wA 60 H Q) :
  jz K t { nx:=fun _ H'=>Q .non H',rt:=Q } [some (.int n),some (.str x),none] H:=by
 simp only [jz,qv,xn,L2.start,zq,zI,zo,zF,zx,tOp,ze,tC,zW,zc,zk,zE,zp,zC,yC,rI,rI0,zQ,List.map,List.replicate,List.length,List.append,jqa,jqb,jqc,jqd,jqe,jqf,jqg,jqh,jqi,jqj,jqk,jql,jqm,jqn,and_true,true_and,and_assoc,jqo,jqp,jqq,Nat.reduceSub,Nat.reduceAdd,jqr,jqs,jqt,Int.reduceToNat,Int.reducePow,Int.reduceNeg,Int.reduceMul,Int.reduceAdd,if_true,ite_true,jqu,ite_false,if_false]
 have bl:(Str.ofString " ").length=1∧Asc (Str.ofString " "):=by unfold Asc;decide +kernel
 refine ⟨by decide,yu (fun c=>q x _ (by lia) ha (Same.refl H)) fun c=>⟨by decide,fun p hp=>⟨dB,by decide,_,SqL.of zd,?_⟩⟩⟩
 obtain ⟨v,hv,hm⟩:=Vk (xs:=[V.str (Str.ofString "plus "),V.str (Str.ofString "minus "),V.str (Str.ofString "times "),V.str (Str.ofString "over "),V.str (Str.ofString "rest "),V.str (Str.ofString "under "),V.str (Str.ofString "same ")]) (n / 8) 7 rfl (by decide)
 refine ⟨v,hv,?_⟩
 obtain ⟨d,rfl,hd,da⟩:∃ d:Str,v=.str d∧d.length≤6∧Asc d:=by
  simp only [List.mem_cons,List.not_mem_nil,or_false] at hm
  rcases hm with rfl | rfl | rfl | rfl | rfl | rfl | rfl <;> exact ⟨_,rfl,by decide +kernel,by unfold Asc;decide +kernel⟩
 refine ⟨d,rfl,zj (by lia),zj (by rw [zG];lia),dB,by lia,by lia,fun y H2 ly ya s2=>⟨y,rfl,zj (by rw [zG,zG];lia),q _ _ (by rw [zG,zG,zG];lia) (((da.app ha).app bl.2).app ya) ((isV p hp).trans s2)⟩⟩
theorem KQ {n:Int} {x:Str} (h0:0≤n) (h1:n < 2147483648) (lx:x.length≤40) (ha:Asc x) (q:wA 60 H Q) :
  jA K t { nx:=fun _ H'=>Q .non H',rt:=Q } [some (.int n),some (.str x),none] H:=by
 simp only [jA,L2.start,zq,zI,zo,zF,zx,tOp,ze,tC,zW,zc,zk,zE,zp,tCB,zC,yC,rEq,rI,rI0,zQ,K9,yR,List.map,List.replicate,List.length,List.append,jqa,jqb,jqc,jqd,jqe,jqf,jqg,jqh,jqi,jqj,jqk,jql,jqm,jqn,and_true,true_and,and_assoc,jqo,jqp,jqq,Nat.reduceSub,Nat.reduceAdd,jqr,jqs,jqt,Int.reduceToNat,Int.reducePow,Int.reduceNeg,Int.reduceMul,Int.reduceAdd,if_true,ite_true,jqu,ite_false,if_false]
 have P30:=zaF (j:=30) (by decide) (by decide)
 have hb:(10000000000000000000000000000000000000000000000:Int) < big:=by decide +kernel
 refine ⟨by decide,yu (fun c=>⟨⟨by decide,by decide,by lia⟩,P30,⟨by lia,by lia⟩,by decide,P30,?_⟩) fun c=>KP h0 h1 lx ha q⟩
 generalize n ^ 4=z
 have hw:inW (z % 2000000000000000000000000000001 - 1000000000000000000000000000000)=true:=decide_eq_true ⟨by lia,by lia⟩
 exact ⟨Vi hw,KP h0 h1 (Nat.le_trans (Xr hw).2.2 (by decide)) (Asc.num _) q⟩
theorem Wd {n:Int} (h0:0≤n) (h1:n < 2147483648) (q:wA 60 H Q) :
  kK K t { nx:=fun _ H'=>Q .non H',rt:=Q } (L2.start ["number","leaf","doers"] [.int n]) H:=by
 simp only [kK,qw,xn,L2.start,zq,zI,zo,zF,zx,tOp,ze,tC,zW,zc,zk,zE,zp,tCB,zC,yC,rEq,rI,rI0,zQ,K9,yR,List.map,List.replicate,List.length,List.append,jqa,jqb,jqc,jqd,jqe,jqf,jqg,jqh,jqi,jqj,jqk,jql,jqm,jqn,and_true,true_and,and_assoc,jqo,jqp,jqq,Nat.reduceSub,Nat.reduceAdd,jqr,jqs,jqt,Int.reduceToNat,Int.reducePow,Int.reduceNeg,Int.reduceMul,Int.reduceAdd,if_true,ite_true,jqu,ite_false,if_false]
 refine ⟨dB,by lia,by lia,fun x H1 lx ha s1=>⟨by decide,yu (fun c=>⟨dB,by decide,?_⟩) fun c=>KQ h0 h1 (by lia) ha fun y H2 ly ya s2=>q y H2 ly ya (s1.trans s2)⟩⟩
 have hw:inW (n / 8 % 40 - 9)=true:=decide_eq_true ⟨by lia,by lia⟩
 exact ⟨Vi hw,KQ h0 h1 (Nat.le_trans (Xr hw).2.2 (by decide)) (Asc.num _) fun y H2 ly ya s2=>q y H2 ly ya (s1.trans s2)⟩
theorem Vu {n:Int} (q:wA 150 H Q) :
  qx K t { nx:=fun _ H'=>Q .non H',rt:=Q } (L2.start ["cell","head","term","name"] [.int n]) H:=by
 simp only [qx,Ze,xn,wq,yr,wA,L2.start,zq,zI,zo,zF,zx,tOp,ze,tC,zW,zc,zk,zE,zp,zC,yC,rEq,rI,zQ,yR,List.map,List.replicate,List.length,List.append,jqa,jqb,jqc,jqd,jqe,jqf,jqg,jqh,jqi,jqj,jqk,jql,jqm,jqn,and_true,true_and,and_assoc,jqo,jqp,jqq,Nat.reduceSub,Nat.reduceAdd,jqr,jqs,jqt,Int.reduceToNat,Int.reducePow,Int.reduceNeg,Int.reduceMul,Int.reduceAdd,if_true,ite_true,jqu,ite_false,if_false]
 have bl:(Str.ofString " ").length=1∧Asc (Str.ofString " "):=by unfold Asc;decide +kernel
 have as4:(Str.ofString " as ").length=4∧Asc (Str.ofString " as "):=by unfold Asc;decide +kernel
 refine ⟨by decide,fun p hp=>⟨by decide,_,SqL.of zd,?_⟩⟩
 obtain ⟨v,hv,hm⟩:=Vk (xs:=[V.str (Str.ofString "take "),V.str (Str.ofString "give "),V.str (Str.ofString "let "),V.str (Str.ofString "say "),V.str (Str.ofString "off ")]) n 5 rfl (by decide)
 refine ⟨v,hv,?_⟩
 obtain ⟨d,rfl,hd,da⟩:∃ d:Str,v=.str d∧d.length≤5∧Asc d:=by
  simp only [List.mem_cons,List.not_mem_nil,or_false] at hm
  rcases hm with rfl | rfl | rfl | rfl | rfl <;> exact ⟨_,rfl,by decide +kernel,by unfold Asc;decide +kernel⟩
 have s0:=isV (o:=HO.lst [V.str (Str.ofString "take "),V.str (Str.ofString "give "),V.str (Str.ofString "let "),V.str (Str.ofString "say "),V.str (Str.ofString "off ")]) p hp
 refine ⟨by decide,by decide,fun r H1 r0 r1 s1=>⟨r0,r1,fun tm H2 lt ta s2=>⟨by decide,by decide,fun r H3 r0 r1 s3=>⟨r0,r1,fun nm H4 ln na s4=>⟨zj (by lia),rfl,?_⟩⟩⟩⟩⟩
 have S:=s0.trans (s1.trans (s2.trans (s3.trans s4)))
 have na2:=na.app bl.2
 have ln2:(nm ++ Str.ofString " ").length≤8:=by rw [zG];lia
 generalize nm ++ Str.ofString " "=nm2 at *
 refine yu (fun c=>?_) fun c=>⟨rfl,yu (fun c=>?_) fun c=>⟨rfl,yu (fun c=>?_) fun c=>?_⟩⟩
 ·refine ⟨d,rfl,zj (by lia),zj (by rw [zG];lia),zj (by rw [zG,zG];lia),by decide,by decide,fun r H5 r0 r1 s5=>⟨r0,r1,fun y H6 ly ya s6=>⟨zj (by rw [zG,zG,zG];lia),q _ _ (by rw [zG,zG,zG,zG];lia) ((((da.app na2).app ta).app as4.2).app ya) (S.trans (s5.trans s6))⟩⟩⟩
 ·refine ⟨d,rfl,zj (by lia),zj (by rw [zG];lia),zj (by rw [zG,zG];lia),by decide,by decide,fun r H5 r0 r1 s5=>⟨r0,r1,fun y H6 ly ya s6=>⟨zj (by rw [zG,zG,zG];lia),q _ _ (by rw [zG,zG,zG,zG];lia) ((((da.app na2).app ta).app bl.2).app ya) (S.trans (s5.trans s6))⟩⟩⟩
 ·exact ⟨d,rfl,zj (by lia),zj (by rw [zG];lia),q _ _ (by rw [zG,zG];lia) ((da.app na2).app ta) S⟩
 ·exact ⟨d,rfl,zj (by lia),q _ _ (by rw [zG];lia) (da.app ta) S⟩
theorem We {n:Int} (h0:0≤n) (h1:n≤30) (q:wA 300 H Q) :
  kL K t { nx:=fun _ H'=>Q .non H',rt:=Q } (L2.start ["many"] [.int n]) H:=by
 simp only [kL,L2.start,jO,zF,tOp,ze,tC,zQ,List.map,List.replicate,List.length,List.append,jqa,jqb,jqc,jqd,jqe,jqf,jqg,jqh,jqi,jqj,jqk,jql,jqm,jqn,and_true,true_and,and_assoc,jqo,jqp,jqq,Nat.reduceSub,Nat.reduceAdd,jqr,jqs,jqt,Int.reduceToNat,Int.reducePow,Int.reduceNeg,Int.reduceMul,Int.reduceAdd,if_true,ite_true,jqu,ite_false,if_false]
 have a1:(Str.ofString "plus ").length=5∧Asc (Str.ofString "plus "):=by unfold Asc;decide +kernel
 have a2:(Str.ofString "1 ").length=2∧Asc (Str.ofString "1 "):=by unfold Asc;decide +kernel
 have a3:(Str.ofString "x").length=1∧Asc (Str.ofString "x"):=by unfold Asc;decide +kernel
 have l1:=qh (Str.ofString "plus ") n
 have l2:=qh (Str.ofString "1 ") n
 rw [a1.1] at l1
 rw [a2.1] at l2
 have b1:=Asc.rep a1.2 n
 have b2:=Asc.rep a2.2 n
 generalize ZV (Str.ofString "plus ") n=y1 at *
 generalize ZV (Str.ofString "1 ") n=y2 at *
 refine ⟨by lia,by lia,by rw [a1.1];lia,by lia,by lia,by rw [a2.1];lia,zj (by lia),zj (by rw [zG];lia),q _ _ (by rw [zG,zG];lia) ((b1.app b2).app a3.2) (Same.refl H)⟩
def okV (m:Nat) (v:V):Prop:=∃ x:Str,v=.str x∧x.length≤m∧Asc x
theorem zds {m:Nat} (x:Str) (h:x.length≤m∧(x.cps.toList.all fun c=>decide (c < 128))=true):okV m (.str x):=⟨x,rfl,h.1,fun c hc=>of_decide_eq_true (List.all_eq_true.mp h.2 c hc)⟩
theorem zbA {n:Int} {p:Addr} {xs:List V} (hp:H p=some (.lst xs)) (hx:∀ v∈xs,okV 6100 v) (hl:xs.length=36) (q:wA 6100 H Q) :
  j5 K t { nx:=fun _ H'=>Q .non H',rt:=Q } [some (.int n),some (.ref p)] H:=by
 simp only [j5,yg,L2.start,jO,zF,tOp,ze,tC,zW,zc,zk,yg,yC,rI,zQ,List.map,List.replicate,List.length,List.append,jqa,jqb,jqc,jqd,jqe,jqf,jqg,jqh,jqi,jqj,jqk,jql,jqm,jqn,and_true,true_and,and_assoc,jqo,jqp,jqq,Nat.reduceSub,Nat.reduceAdd,jqr,jqs,jqt,Int.reduceToNat,Int.reducePow,Int.reduceNeg,Int.reduceMul,Int.reduceAdd,if_true,ite_true,jqu,ite_false,if_false]
 have a1:(Str.ofString "plus ").length=5∧Asc (Str.ofString "plus "):=by unfold Asc;decide +kernel
 have a2:(Str.ofString "say ").length=4∧Asc (Str.ofString "say "):=by unfold Asc;decide +kernel
 have a3:(Str.ofString "1").length=1∧Asc (Str.ofString "1"):=by unfold Asc;decide +kernel
 have l1:=qh (Str.ofString "plus ") 1200
 rw [a1.1] at l1
 have b1:=Asc.rep a1.2 1200
 generalize ZV (Str.ofString "plus ") 1200=y1 at *
 have l1:y1.length=6000:=l1
 refine ⟨by decide,by decide,by rw [a1.1];decide,zj (by lia),zj (by rw [zG];lia),by decide,fun p1 hp1=>?_⟩
 have s1:=isV (o:=HO.lst [V.str (Str.ofString "say " ++ y1 ++ Str.ofString "1")]) p1 hp1
 refine ⟨_,s1 _ _ hp,_,zd,zj (by simp;lia),fun p2 hp2=>⟨by decide,_,SqL.of zd,?_⟩⟩
 obtain ⟨v,hv,hm⟩:=Vk (xs:=xs ++ [V.str (Str.ofString "say " ++ y1 ++ Str.ofString "1")]) n 37 (by simp;lia) (by decide)
 refine ⟨v,hv,?_⟩
 obtain ⟨x,rfl,hx,ha⟩:okV 6100 v:=by
  rcases List.mem_append.mp hm with z | z
  ·exact hx v z
  ·rw [List.mem_singleton.mp z]
   exact ⟨_,rfl,by rw [zG,zG];lia,(a2.2.app b1).app a3.2⟩
 exact q _ _ hx ha (s1.trans (isV p2 hp2))
theorem zbB {n:Int} {p:Addr} {xs:List V} (hp:H p=some (.lst xs)) (hx:∀ v∈xs,okV 6100 v) (hl:xs.length=28) (q:wA 6100 H Q) :
  j6 K t { nx:=fun _ H'=>Q .non H',rt:=Q } [some (.int n),some (.ref p)] H:=by
 simp only [j6,yG,wA,yg,L2.start,jO,zq,zI,zo,zF,tOp,ze,tC,zW,zc,zk,zC,yg,yC,rI,zQ,List.map,List.replicate,List.length,List.append,jqa,jqb,jqc,jqd,jqe,jqf,jqg,jqh,jqi,jqj,jqk,jql,jqm,jqn,and_true,true_and,and_assoc,jqo,jqp,jqq,Nat.reduceSub,Nat.reduceAdd,jqr,jqs,jqt,Int.reduceToNat,Int.reducePow,Int.reduceNeg,Int.reduceMul,Int.reduceAdd,if_true,ite_true,jqu,ite_false,if_false]
 have c1:(Str.ofString "say ").length=4∧Asc (Str.ofString "say "):=by unfold Asc;decide +kernel
 have c2:(Str.ofString "let x ").length=6∧Asc (Str.ofString "let x "):=by unfold Asc;decide +kernel
 have c3:(Str.ofString "take x ").length=7∧Asc (Str.ofString "take x "):=by unfold Asc;decide +kernel
 have c4:(Str.ofString "give x ").length=7∧Asc (Str.ofString "give x "):=by unfold Asc;decide +kernel
 have c5:(Str.ofString " as y").length=5∧Asc (Str.ofString " as y"):=by unfold Asc;decide +kernel
 have c6:(Str.ofString " 1").length=2∧Asc (Str.ofString " 1"):=by unfold Asc;decide +kernel
 have c7:(Str.ofString " plus 1 1").length=9∧Asc (Str.ofString " plus 1 1"):=by unfold Asc;decide +kernel
 have one:∀ {c x:Str},c.length≤10→Asc c→x.length≤300→Asc x→okV 6100 (.str (c ++ x)):=fun hc ac hx ax=>⟨_,rfl,by rw [zG];lia,ac.app ax⟩
 have two:∀ {c x d:Str},c.length≤10→Asc c→x.length≤300→Asc x→d.length≤10→Asc d→okV 6100 (.str (c ++ x ++ d)):=fun hc ac hx ax hd ad=>⟨_,rfl,by rw [zG,zG];lia,(ac.app ax).app ad⟩
 refine ⟨by decide,by decide,fun x1 H1 l1 a1 s1=>⟨zj (by lia),by decide,by decide,fun x2 H2 l2 a2 s2=>⟨zj (by lia),by decide,by decide,fun x3 H3 l3 a3 s3=>⟨zj (by lia),by decide,by decide,fun x4 H4 l4 a4 s4=>⟨zj (by lia),by decide,fun p1 hp1=>?_⟩⟩⟩⟩⟩
 have S:=s1.trans (s2.trans (s3.trans (s4.trans (isV (o:=HO.lst [V.str (Str.ofString "say " ++ x1),V.str (Str.ofString "say " ++ x2),V.str (Str.ofString "let x " ++ x3),V.str (Str.ofString "let x " ++ x4)]) p1 hp1))))
 refine ⟨_,S _ _ hp,_,zd,zj (by simp;lia),fun p2 hp2=>?_⟩
 have S2:=S.trans (isV (o:=HO.lst (xs ++ [V.str (Str.ofString "say " ++ x1),V.str (Str.ofString "say " ++ x2),V.str (Str.ofString "let x " ++ x3),V.str (Str.ofString "let x " ++ x4)])) p2 hp2)
 have g2:∀ v∈xs ++ [V.str (Str.ofString "say " ++ x1),V.str (Str.ofString "say " ++ x2),V.str (Str.ofString "let x " ++ x3),V.str (Str.ofString "let x " ++ x4)],okV 6100 v:=fun v hv=>by
  rcases List.mem_append.mp hv with z | z
  ·exact hx v z
  ·simp only [List.mem_cons,List.not_mem_nil,or_false] at z
   rcases z with rfl | rfl | rfl | rfl
   ·exact one (by lia) c1.2 l1 a1
   ·exact one (by lia) c1.2 l2 a2
   ·exact one (by lia) c2.2 l3 a3
   ·exact one (by lia) c2.2 l4 a4
 have e2:upd (upd H4 p1 (HO.lst [V.str (Str.ofString "say " ++ x1),V.str (Str.ofString "say " ++ x2),V.str (Str.ofString "let x " ++ x3),V.str (Str.ofString "let x " ++ x4)])) p2 (HO.lst (xs ++ [V.str (Str.ofString "say " ++ x1),V.str (Str.ofString "say " ++ x2),V.str (Str.ofString "let x " ++ x3),V.str (Str.ofString "let x " ++ x4)])) p2=some (.lst (xs ++ [V.str (Str.ofString "say " ++ x1),V.str (Str.ofString "say " ++ x2),V.str (Str.ofString "let x " ++ x3),V.str (Str.ofString "let x " ++ x4)])):=zd
 have k2:(xs ++ [V.str (Str.ofString "say " ++ x1),V.str (Str.ofString "say " ++ x2),V.str (Str.ofString "let x " ++ x3),V.str (Str.ofString "let x " ++ x4)]).length=32:=by simp;lia
 generalize xs ++ [V.str (Str.ofString "say " ++ x1),V.str (Str.ofString "say " ++ x2),V.str (Str.ofString "let x " ++ x3),V.str (Str.ofString "let x " ++ x4)]=ys at *
 generalize upd (upd H4 p1 (HO.lst [V.str (Str.ofString "say " ++ x1),V.str (Str.ofString "say " ++ x2),V.str (Str.ofString "let x " ++ x3),V.str (Str.ofString "let x " ++ x4)])) p2 (HO.lst ys)=H5 at *
 refine ⟨by decide,by decide,fun x5 H6 l5 a5 s5=>⟨zj (by lia),zj (by rw [zG];lia),by decide,by decide,fun x6 H7 l6 a6 s6=>⟨zj (by lia),zj (by rw [zG];lia),by decide,fun p3 hp3=>?_⟩⟩⟩
 have S3:=s5.trans (s6.trans (isV (o:=HO.lst [V.str (Str.ofString "take x " ++ x5 ++ Str.ofString " as y"),V.str (Str.ofString "take x " ++ x6 ++ Str.ofString " as y")]) p3 hp3))
 refine ⟨_,S3 _ _ e2,_,zd,zj (by simp;lia),fun p4 hp4=>?_⟩
 have g3:∀ v∈ys ++ [V.str (Str.ofString "take x " ++ x5 ++ Str.ofString " as y"),V.str (Str.ofString "take x " ++ x6 ++ Str.ofString " as y")],okV 6100 v:=fun v hv=>by
  rcases List.mem_append.mp hv with z | z
  ·exact g2 v z
  ·simp only [List.mem_cons,List.not_mem_nil,or_false] at z
   rcases z with rfl | rfl
   ·exact two (by lia) c3.2 l5 a5 (by lia) c5.2
   ·exact two (by lia) c3.2 l6 a6 (by lia) c5.2
 have S4:=S2.trans (S3.trans (isV (o:=HO.lst (ys ++ [V.str (Str.ofString "take x " ++ x5 ++ Str.ofString " as y"),V.str (Str.ofString "take x " ++ x6 ++ Str.ofString " as y")])) p4 hp4))
 have k3:(ys ++ [V.str (Str.ofString "take x " ++ x5 ++ Str.ofString " as y"),V.str (Str.ofString "take x " ++ x6 ++ Str.ofString " as y")]).length=34:=by simp;lia
 have e3:upd (upd H7 p3 (HO.lst [V.str (Str.ofString "take x " ++ x5 ++ Str.ofString " as y"),V.str (Str.ofString "take x " ++ x6 ++ Str.ofString " as y")])) p4 (HO.lst (ys ++ [V.str (Str.ofString "take x " ++ x5 ++ Str.ofString " as y"),V.str (Str.ofString "take x " ++ x6 ++ Str.ofString " as y")])) p4=some (.lst (ys ++ [V.str (Str.ofString "take x " ++ x5 ++ Str.ofString " as y"),V.str (Str.ofString "take x " ++ x6 ++ Str.ofString " as y")])):=zd
 generalize ys ++ [V.str (Str.ofString "take x " ++ x5 ++ Str.ofString " as y"),V.str (Str.ofString "take x " ++ x6 ++ Str.ofString " as y")]=zs at *
 generalize upd (upd H7 p3 (HO.lst [V.str (Str.ofString "take x " ++ x5 ++ Str.ofString " as y"),V.str (Str.ofString "take x " ++ x6 ++ Str.ofString " as y")])) p4 (HO.lst zs)=H8 at *
 refine ⟨by decide,by decide,fun x7 H9 l7 a7 s7=>⟨zj (by lia),zj (by rw [zG];lia),by decide,by decide,fun x8 H10 l8 a8 s8=>⟨zj (by lia),zj (by rw [zG];lia),by decide,fun p5 hp5=>?_⟩⟩⟩
 have S5:=s7.trans (s8.trans (isV (o:=HO.lst [V.str (Str.ofString "give x " ++ x7 ++ Str.ofString " 1"),V.str (Str.ofString "give x " ++ x8 ++ Str.ofString " plus 1 1")]) p5 hp5))
 refine ⟨_,S5 _ _ e3,_,zd,zj (by simp;lia),fun p6 hp6=>?_⟩
 refine zbA zd (fun v hv=>?_) (by simp;lia) fun y H11 ly ya s11=>q y H11 ly ya (S4.trans (S5.trans ((isV p6 hp6).trans s11)))
 rcases List.mem_append.mp hv with z | z
 ·exact g3 v z
 ·simp only [List.mem_cons,List.not_mem_nil,or_false] at z
  rcases z with rfl | rfl
  ·exact two (by lia) c4.2 l7 a7 (by lia) c6.2
  ·exact two (by lia) c4.2 l8 a8 (by lia) c7.2
def oddL:List Str:=[""," ","say","say "," say 1","say 1 ","say  1","say\t1","say 1 2","say plus 1","let 1 2","let as 1","let x","let letters 1","else 1","end ","End","if","if 1 2","off","skip 1 2","give x 1","give x 1 2 3","take x 1 as","take x 1 as y z","take x 1 is y","take 1 1 as x","take x 1 as 1"]
theorem zbC:(oddL.all fun x=>decide (x.length≤6100) && x.cps.toList.all fun c=>decide (c < 128))=true:=by decide +kernel
theorem Vv {n:Int} (q:wA 6100 H Q) :
  qy K t { nx:=fun _ H'=>Q .non H',rt:=Q } (L2.start ["number","some"] [.int n]) H:=by
 simp only [qy,yg,L2.start,jO,zq,zI,zo,zF,tOp,ze,tC,zW,zc,zk,zC,yg,yC,rI,zQ,List.map,List.replicate,List.length,List.append,jqa,jqb,jqc,jqd,jqe,jqf,jqg,jqh,jqi,jqj,jqk,jql,jqm,jqn,and_true,true_and,and_assoc,jqo,jqp,jqq,Nat.reduceSub,Nat.reduceAdd,jqr,jqs,jqt,Int.reduceToNat,Int.reducePow,Int.reduceNeg,Int.reduceMul,Int.reduceAdd,if_true,ite_true,jqu,ite_false,if_false]
 refine ⟨by decide,fun p1 hp1=>⟨by decide,fun p2 hp2=>⟨_,isV p2 hp2 _ _ zd,_,zd,by simp only [List.length];decide,fun p3 hp3=>⟨by decide,fun p4 hp4=>⟨_,isV p4 hp4 _ _ zd,_,zd,by simp only [List.length_append,List.length];decide,fun p5 hp5=>⟨by decide,fun p6 hp6=>⟨_,isV p6 hp6 _ _ zd,_,zd,by simp only [List.length_append,List.length];decide,fun p7 hp7=>?_⟩⟩⟩⟩⟩⟩⟩
 refine zbB zd (fun v hv=>?_) rfl fun y H' ly ya s=>q y H' ly ya ((isV p1 hp1).trans ((isV p2 hp2).trans ((isV p3 hp3).trans ((isV p4 hp4).trans ((isV p5 hp5).trans ((isV p6 hp6).trans ((isV p7 hp7).trans s)))))))
 have hv:v∈oddL.map V.str:=hv
 obtain ⟨x,hx,rfl⟩:=List.mem_map.mp hv
 have:=List.all_eq_true.mp zbC x hx
 rw [Bool.and_eq_true,decide_eq_true_eq] at this
 exact zds x this
theorem KR {x sm:Str} {n:Int} {c:Nat} (lx:x.length≤7000) (ha:Asc x) (hc:c < 128) (q:wA 15001 H Q) :
  xz K t { nx:=fun _ H'=>Q .non H',rt:=Q } [some (.str x),some (.int n),some (.str sm),some (.str ⟨#[c]⟩),none] H:=by
 simp only [xz,w5,L2.start,zq,zI,zo,zF,zx,tOp,ze,tC,zc,zk,zE,zp,tCB,tSl,z8,zP,yU,rEq,rI,rI0,ZS,zQ,z0,yR,List.map,List.replicate,List.length,List.append,jqa,jqb,jqc,jqd,jqe,jqf,jqg,jqh,jqi,jqj,jqk,jql,jqm,jqn,and_true,true_and,and_assoc,jqo,jqp,jqq,Nat.reduceSub,Nat.reduceAdd,jqr,jqs,jqt,Int.reduceToNat,Int.reducePow,Int.reduceNeg,Int.reduceMul,Int.reduceAdd,if_true,ite_true,jqu,ite_false,if_false]
 have sl:=fun l u=>Txt.slice_le x l u
 have oc:=Asc.one hc
 have ol:=Vl c
 have sz:x.length≤sizeLine:=zj (by lia)
 refine ⟨dB,sz,by lia,by decide,?_⟩
 generalize n / 7 % ((x.length:Int) + 1)=e
 have s1:=sl none (some e)
 have s2:=sl (some e) none
 have s3:=sl (some (e + 1)) none
 refine yu (fun d=>?_) fun d=>⟨by decide,yu (fun d=>?_) fun d=>?_⟩
 ·exact ⟨sz,zj (by lia),sz,zj (by rw [zG];lia),q _ _ (by rw [zG,zG];lia) (((ha.sl _ _).app oc).app (ha.sl _ _)) (Same.refl H)⟩
 ·exact ⟨sz,zj (by lia),sz,zj (by rw [zG];lia),q _ _ (by rw [zG,zG];lia) (((ha.sl _ _).app oc).app (ha.sl _ _)) (Same.refl H)⟩
 ·exact ⟨sz,sz,zj (by lia),q _ _ (by rw [zG];lia) ((ha.sl _ _).app (ha.sl _ _)) (Same.refl H)⟩
theorem k9 {x:Str} {n:Int} (lx:x.length≤7000) (ha:Asc x) (q:wA 15001 H Q) :
  xT K t { nx:=fun _ H'=>Q .non H',rt:=Q } (L2.start ["line","number","some","sign","at"] [.str x,.int n]) H:=by
 simp only [xT,L2.start,zq,zI,zo,zF,zx,tOp,ze,tC,zc,zk,zE,zp,tCB,tSl,z8,zP,yU,Xj,rEq,rI,rI0,ZS,zQ,z0,yR,List.map,List.replicate,List.length,List.append,jqa,jqb,jqc,jqd,jqe,jqf,jqg,jqh,jqi,jqj,jqk,jql,jqm,jqn,and_true,true_and,and_assoc,jqo,jqp,jqq,Nat.reduceSub,Nat.reduceAdd,jqr,jqs,jqt,Int.reduceToNat,Int.reducePow,Int.reduceNeg,Int.reduceMul,Int.reduceAdd,if_true,ite_true,jqu,ite_false,if_false]
 have f:2≤(Str.ofString " \n0123456789-+abcdefghijklmnopqrstuvwxyz!\"#$&'()*,./:;<=>?@ABCDEFGHIJKLMNOPQRSTUVWXYZ" ++ Str.ofString "[\\]^_`{|}~\t").length∧(Str.ofString " \n0123456789-+abcdefghijklmnopqrstuvwxyz!\"#$&'()*,./:;<=>?@ABCDEFGHIJKLMNOPQRSTUVWXYZ" ++ Str.ofString "[\\]^_`{|}~\t").length≤1000∧Asc (Str.ofString " \n0123456789-+abcdefghijklmnopqrstuvwxyz!\"#$&'()*,./:;<=>?@ABCDEFGHIJKLMNOPQRSTUVWXYZ" ++ Str.ofString "[\\]^_`{|}~\t"):=by unfold Asc;decide +kernel
 refine ⟨by decide +kernel,dB,zj (by lia),by lia,zj (by lia),?_⟩
 generalize Str.ofString " \n0123456789-+abcdefghijklmnopqrstuvwxyz!\"#$&'()*,./:;<=>?@ABCDEFGHIJKLMNOPQRSTUVWXYZ" ++ Str.ofString "[\\]^_`{|}~\t"=z at *
 have lz:z.cps.toList.length=z.length:=(yK z).symm
 obtain ⟨c,hc,hm⟩:=KI (xs:=z.cps.toList) (i:=n / 3 % (z.length:Int)) (Int.emod_nonneg _ (by lia)) (by rw [lz];exact Int.emod_lt_of_pos _ (by lia))
 refine ⟨c,hc,dB,by decide,yu (fun d=>⟨dB,by decide,zj (by lia),?_⟩) fun d=>KR lx ha (f.2.2 c hm) q⟩
 obtain ⟨c2,hc2,hm2⟩:=KI (xs:=z.cps.toList) (i:=n / 600 % 2) (by lia) (by lia)
 exact ⟨c2,hc2,KR lx ha (f.2.2 c2 hm2) q⟩
structure LnS (H0:Hp) (l tl:Addr) (ls:List Str) (cs:List Bool) (H:Hp):Prop where
 sm:Same H0 H
 f1:H0 l=none
 f2:H0 tl=none
 ne:l≠tl
 hl:H l=some (.lst (ls.map V.str))
 ht:H tl=some (.lst (cs.map V.bl))
 ln:ls.length + cs.length≤40
 ok:okLs 150 ls
theorem LnS.same {H0 H H':Hp} {l tl:Addr} {ls:List Str} {cs:List Bool} (Z:LnS H0 l tl ls cs H) (s:Same H H'):LnS H0 l tl ls cs H':=⟨Z.sm.trans s,Z.f1,Z.f2,Z.ne,s _ _ Z.hl,s _ _ Z.ht,Z.ln,Z.ok⟩
theorem okLs.add {m:Nat} {ls:List Str} {x:Str} (h:okLs m ls) (lx:x.length≤m) (ha:Asc x):okLs m (ls ++ [x]):=fun y hy=>by
 rcases List.mem_append.mp hy with z | z
 ·exact h y z
 ·rw [List.mem_singleton.mp z];exact ⟨lx,ha⟩
theorem LnS.line {H0 H:Hp} {l tl:Addr} {ls:List Str} {cs:List Bool} {x:Str} (Z:LnS H0 l tl ls cs H) (h:ls.length + cs.length < 40) (lx:x.length≤150) (ha:Asc x):LnS H0 l tl (ls ++ [x]) cs (upd H l (.lst (ls.map V.str ++ [V.str x]))) :=
 ⟨yO Z.sm Z.f1,Z.f1,Z.f2,Z.ne,by rw [zd,List.map_append];rfl,by rw [zw (Ne.symm Z.ne)];exact Z.ht,by simp;lia,Z.ok.add lx ha⟩
theorem LnS.turn {H0 H:Hp} {l tl p:Addr} {ls:List Str} {cs cs':List Bool} {o:HO} (Z:LnS H0 l tl ls cs H) (hp:H p=none) (h:cs'.length≤cs.length) (ho:o=.lst (cs'.map V.bl)):LnS H0 l p ls cs' (upd H p o) :=
 have np:l≠p:=zS Z.hl hp
 ⟨Z.sm.trans (isV p hp),Z.f1,wB Z.sm hp,np,by rw [zw np];exact Z.hl,by rw [zd,ho],by have:=Z.ln;lia,Z.ok⟩
theorem LnS.shut {H0 H:Hp} {l tl p:Addr} {ls:List Str} {cs:List Bool} {x:Str} {o:HO} (Z:LnS H0 l tl ls cs H) (n:cs≠[]) (lx:x.length≤150) (ha:Asc x) (hp:upd H l (.lst (ls.map V.str ++ [V.str x])) p=none) (ho:o=.lst (cs.dropLast.map V.bl)):LnS H0 l p (ls ++ [x]) cs.dropLast (upd (upd H l (.lst (ls.map V.str ++ [V.str x]))) p o):=by
 have np:l≠p:=fun z=>by rw [← z,zd] at hp;cases hp
 have hp0:H p=none:=by rw [zw (Ne.symm np)] at hp;exact hp
 have f0:H0 p=none:=wB Z.sm hp0
 have lc:=List.length_pos_iff.mpr n
 have l0:=Z.ln
 exact ⟨yO (yO Z.sm Z.f1) f0,Z.f1,f0,np,by rw [zw np,zd,List.map_append];rfl,by rw [zd,ho],by simp;lia,Z.ok.add lx ha⟩
theorem zaS {D:ke} {H0:Hp} {p l tl:Addr} {ls:List Str} {cs:List Bool} {c k e:Int} (Z:LnS H0 l tl ls cs H) (he:e=40 - (ls.length:Int) - (cs.length:Int)) (q:∀ l tl ls cs H',LnS H0 l tl ls cs H'→D.nx [some (.ref p),some (.ref l),some (.ref tl),some (.int c),some (.int k),some (.int e)] H') :
  vT K t D [some (.ref p),some (.ref l),some (.ref tl),some (.int c),some (.int k),some (.int e)] H:=by
 simp only [vT,qr,wA,L2.start,zO,xx,yq,zx,tOp,ze,tC,zc,zk,zE,wS,zp,tBM,tyV,zC,rI,rI0,List.map,List.replicate,List.length,List.append,jqa,jqb,jqc,jqd,jqe,jqf,jqg,jqh,jqi,jqj,jqk,jql,jqm,jqn,and_true,true_and,and_assoc,jqo,jqp,jqq,Nat.reduceSub,Nat.reduceAdd,jqr,jqs,jqt,Int.reduceToNat,Int.reducePow,Int.reduceNeg,Int.reduceMul,Int.reduceAdd,if_true,ite_true,jqu,ite_false,if_false]
 have lm:(ls.map V.str).length=ls.length:=List.length_map ..
 have l0:=Z.ln
 refine yu (fun c1=>yu (fun c2=>?_) fun c2=>q _ _ _ _ _ Z) fun c1=>q _ _ _ _ _ Z
 refine ⟨.inl ⟨_,SqL.of Z.hl⟩,dB,fun x H1 lx ha s1=>?_⟩
 have Z1:=Z.same s1
 exact ⟨_,Z1.hl,Nat.lt_of_le_of_lt (by lia:(ls.map V.str).length≤1000) (by decide),q _ _ _ _ _ (Z1.line (by lia) lx ha)⟩
theorem Vw {D:ke} {H0:Hp} {p l tl:Addr} {ls:List Str} {cs:List Bool} {c k e:Int} (Z:LnS H0 l tl ls cs H) (he:e=40 - (ls.length:Int) - (cs.length:Int)) (q:∀ l tl ls cs H',LnS H0 l tl ls cs H'→D.nx [some (.ref p),some (.ref l),some (.ref tl),some (.int c),some (.int k),some (.int e)] H') :
  vU K t D [some (.ref p),some (.ref l),some (.ref tl),some (.int c),some (.int k),some (.int e)] H:=by
 simp only [vU,y6,L2.start,zO,xx,zq,zI,zo,yq,zx,tOp,tUn,ze,tC,zW,zc,zk,zE,wS,zp,tBM,tyV,tSl,z8,zP,zC,rI,rI0,rU,wd,List.map,List.replicate,List.length,List.append,jqa,jqb,jqc,jqd,jqe,jqf,jqg,jqh,jqi,jqj,jqk,jql,jqm,jqn,and_true,true_and,and_assoc,jqo,jqp,jqq,Nat.reduceSub,Nat.reduceAdd,jqr,jqs,jqt,Int.reduceToNat,Int.reducePow,Int.reduceNeg,Int.reduceMul,Int.reduceAdd,if_true,ite_true,jqu,ite_false,if_false]
 have lm:(ls.map V.str).length=ls.length:=List.length_map ..
 have l0:=Z.ln
 have ee:(Str.ofString "end").length≤150∧Asc (Str.ofString "end"):=by unfold Asc;decide +kernel
 refine yu (fun c1=>?_) fun c1=>zaS Z he q
 refine ⟨Nat.zero_le _,fun p1 hp1=>?_⟩
 have s1:=isV (o:=HO.lst []) p1 hp1
 have Z1:=Z.same s1
 refine ⟨_,SqL.of Z1.ht,SqL.of zd,?_⟩
 by_cases n:cs=[]
 ·rw [if_neg (by simp [n])]
  exact zaS Z1 he q
 ·rw [if_pos (by simp [n])]
  refine ⟨.inl ⟨_,SqL.of Z1.hl⟩,_,Z1.hl,Nat.lt_of_le_of_lt (by lia:(ls.map V.str).length≤1000) (by decide),_,SqL.of (by rw [zw (Ne.symm Z1.ne)];exact Z1.ht),fun p2 hp2=>?_⟩
  exact q _ _ _ _ _ (Z1.shut n ee.1 ee.2 hp2 (by rw [XT,List.map_dropLast]))
theorem Kd {D:ke} {H0:Hp} {p l tl:Addr} {ls:List Str} {cs:List Bool} {c k e:Int} (Z:LnS H0 l tl ls cs H) (he:e=40 - (ls.length:Int) - (cs.length:Int)) (q:∀ l tl ls cs H',LnS H0 l tl ls cs H'→D.nx [some (.ref p),some (.ref l),some (.ref tl),some (.int c),some (.int k),some (.int e)] H') :
  vV K t D [some (.ref p),some (.ref l),some (.ref tl),some (.int c),some (.int k),some (.int e)] H:=by
 simp only [vV,yg,y6,L2.start,zO,xx,zq,zI,zo,yq,zx,tOp,tUn,ze,tC,zW,zc,zk,zE,wS,vd,zp,tB,tBM,tyV,tSl,z8,zP,zC,yg,yC,rEq,rI,rI0,rU,wd,yR,List.map,List.replicate,List.length,List.append,jqa,jqb,jqc,jqd,jqe,jqf,jqg,jqh,jqi,jqj,jqk,jql,jqm,jqn,and_true,true_and,and_assoc,jqo,jqp,jqq,Nat.reduceSub,Nat.reduceAdd,jqr,jqs,jqt,Int.reduceToNat,Int.reducePow,Int.reduceNeg,Int.reduceMul,Int.reduceAdd,if_true,ite_true,jqu,ite_false,if_false]
 have lm:(ls.map V.str).length=ls.length:=List.length_map ..
 have l0:=Z.ln
 have ee:(Str.ofString "else").length≤150∧Asc (Str.ofString "else"):=by unfold Asc;decide +kernel
 refine yu (fun c1=>?_) fun c1=>Vw Z he q
 refine ⟨Nat.zero_le _,fun p1 hp1=>?_⟩
 have s1:=isV (o:=HO.lst []) p1 hp1
 have Z1:=Z.same s1
 refine ⟨_,SqL.of Z1.ht,SqL.of zd,?_⟩
 rcases KL cs with rfl | ⟨c',b,rfl⟩
 ·rw [if_neg (by simp)]
  exact Vw Z1 he q
 rw [if_pos (by simp)]
 refine ⟨_,SqL.of Z1.ht,_,by rw [List.map_append];exact YE,b,rfl,?_⟩
 cases b with
 | true =>
  rw [if_neg (by decide)]
  exact Vw Z1 he q
 | false =>
 rw [if_pos rfl]
 refine yu (fun c2=>?_) fun c2=>Vw Z1 he q
 have Z2:=Z1.line (x:=Str.ofString "else") (by lia) ee.1 ee.2
 refine ⟨.inl ⟨_,SqL.of Z1.hl⟩,_,Z1.hl,Nat.lt_of_le_of_lt (by lia:(ls.map V.str).length≤1000) (by decide),_,SqL.of Z2.ht,fun p2 hp2=>⟨by decide,fun p3 hp3=>?_⟩⟩
 have s2:=isV (o:=HO.lst (qY ((c' ++ [false]).map V.bl) none (some (-1)))) p2 hp2
 have s3:=isV (o:=HO.lst [V.bl true]) p3 hp3
 have Z3:=Z2.same (s2.trans s3)
 refine ⟨_,s3 _ _ zd,_,zd,zj ?_,fun p4 hp4=>q _ _ _ _ _ (Z3.turn (cs':=c' ++ [true]) hp4 (by simp) ?_)⟩
 ·rw [XT];simp at l0 ⊢;lia
 ·rw [XT];simp [List.map_dropLast]
theorem zcv {D:ke} {H0:Hp} {p l tl:Addr} {ls:List Str} {cs:List Bool} {c k e:Int} (Z:LnS H0 l tl ls cs H) (he:e=40 - (ls.length:Int) - (cs.length:Int)) (q:∀ l tl ls cs H',LnS H0 l tl ls cs H'→D.nx [some (.ref p),some (.ref l),some (.ref tl),some (.int c),some (.int k),some (.int e)] H') :
  vW K t D [some (.ref p),some (.ref l),some (.ref tl),some (.int c),some (.int k),some (.int e)] H:=by
 simp only [vW,wq,yr,wA,yg,y6,L2.start,zO,xx,zq,zI,zo,yq,zx,tOp,tUn,ze,tC,zW,zc,zk,zE,wS,vd,zp,tB,tCB,tBM,tyV,tSl,z8,zP,zC,yU,yg,yC,rEq,rI,rI0,rU,wd,zQ,z0,yR,List.map,List.replicate,List.length,List.append,jqa,jqb,jqc,jqd,jqe,jqf,jqg,jqh,jqi,jqj,jqk,jql,jqm,jqn,and_true,true_and,and_assoc,jqo,jqp,jqq,Nat.reduceSub,Nat.reduceAdd,jqr,jqs,jqt,Int.reduceToNat,Int.reducePow,Int.reduceNeg,Int.reduceMul,Int.reduceAdd,if_true,ite_true,jqu,ite_false,if_false]
 have lm:(ls.map V.str).length=ls.length:=List.length_map ..
 have lt:(cs.map V.bl).length=cs.length:=List.length_map ..
 have l0:=Z.ln
 have ee:(Str.ofString "if ").length=3∧Asc (Str.ofString "if "):=by unfold Asc;decide +kernel
 refine yu (fun c1=>⟨cs.length,.inl ⟨_,SqL.of Z.ht,lt.symm⟩,yu (fun c2=>yu (fun c3=>?_) fun c3=>Kd Z he q) fun c2=>Kd Z he q⟩) fun c1=>Kd Z he q
 refine ⟨.inl ⟨_,SqL.of Z.hl⟩,dB,by decide,by decide,fun r H1 r0 r1 s1=>⟨r0,r1,fun x H2 lx ha s2=>⟨zj (by lia),?_⟩⟩⟩
 have Z2:=Z.same (s1.trans s2)
 have Z3:=Z2.line (x:=Str.ofString "if " ++ x) (by lia) (by rw [zG];lia) (ee.2.app ha)
 refine ⟨_,Z2.hl,Nat.lt_of_le_of_lt (by lia:(ls.map V.str).length≤1000) (by decide),.inl ⟨_,SqL.of Z3.ht⟩,_,Z3.ht,Nat.lt_of_le_of_lt (by lia:(cs.map V.bl).length≤1000) (by decide),q _ _ (ls ++ [Str.ofString "if " ++ x]) (cs ++ [false]) _ ?_⟩
 exact ⟨yO Z3.sm Z3.f2,Z3.f1,Z3.f2,Z3.ne,by rw [zw Z3.ne];exact Z3.hl,by rw [zd,List.map_append];rfl,by simp;lia,Z3.ok⟩
def llI (p:Addr) (H:Hp) (i:Nat) (σ:St) (H':Hp):Prop:=∃ l tl ls cs,(∃ o3 o4 o5,σ=[some (.ref p),some (.ref l),some (.ref tl),o3,o4,o5])∧LnS H l tl ls cs H'
theorem XU {p:Addr} {ns:List Int} (h1:H p=some (.lst (ns.map V.int))) (q:∀ l ls H',Same H H'→H' l=some (.lst (ls.map V.str))→ls.length≤40→okLs 150 ls→Q (.ref l) H') :
  j4 K t { nx:=fun _ H'=>Q .non H',rt:=Q } (L2.start ["cells","lines","turned","cell","kind","left"] [.ref p]) H:=by
 simp only [j4,kY,kX,yg,y6,L2.start,Zp,zO,xx,zq,zI,zo,zF,yq,zx,tOp,tUn,ze,tC,zW,zc,zk,xP,zE,wS,vd,zp,tB,tCB,tBM,tyV,tSl,z8,zP,zC,yU,VC,yg,yC,rEq,rI,rI0,rU,wd,zQ,z0,yR,List.map,List.replicate,List.length,List.append,jqa,jqb,jqc,jqd,jqe,jqf,jqg,jqh,jqi,jqj,jqk,jql,jqm,jqn,and_true,true_and,and_assoc,jqo,jqp,jqq,Nat.reduceSub,Nat.reduceAdd,jqr,jqs,jqt,Int.reduceToNat,Int.reducePow,Int.reduceNeg,Int.reduceMul,Int.reduceAdd,if_true,ite_true,jqu,ite_false,if_false]
 have ee:(Str.ofString "end").length≤150∧Asc (Str.ofString "end"):=by unfold Asc;decide +kernel
 refine ⟨Nat.zero_le _,fun l hl=>⟨Nat.zero_le _,fun tl htl=>?_⟩⟩
 have s1:=isV (o:=HO.lst []) l hl
 have s2:=isV (o:=HO.lst []) tl htl
 have nlt:l≠tl:=fun z=>by rw [← z,zd] at htl;cases htl
 have Z0:LnS H l tl [] [] (upd (upd H l (.lst [])) tl (.lst [])):=⟨s1.trans s2,hl,wB s1 htl,nlt,s2 _ _ zd,zd,by simp,fun x hx=>nomatch hx⟩
 refine ⟨⟨_,SqL.of (Z0.sm _ _ h1)⟩,Qd (ns.map V.int) (llI p H) ⟨l,tl,[],[],⟨_,_,_,rfl⟩,Z0⟩ (fun i σ H' ⟨_,_,_,_,_,Z⟩=>SqL.of (Z.sm _ _ h1)) ?_ ?_⟩
 ·rintro i v σ H' hv ⟨l,tl,ls,cs,⟨o3,o4,o5,rfl⟩,Z⟩
  obtain ⟨c,_,rfl⟩:=List.mem_map.mp (List.mem_of_getElem? hv)
  simp only [yg,y6,L2.start,Zp,zO,xx,zq,zI,zo,zF,yq,zx,tOp,tUn,ze,tC,zW,zc,zk,xP,zE,wS,vd,zp,tB,tCB,tBM,tyV,tSl,z8,zP,zC,yU,VC,yg,yC,rEq,rI,rI0,rU,wd,zQ,z0,yR,List.map,List.replicate,List.length,List.append,jqa,jqb,jqc,jqd,jqe,jqf,jqg,jqh,jqi,jqj,jqk,jql,jqm,jqn,and_true,true_and,and_assoc,jqo,jqp,jqq,Nat.reduceSub,Nat.reduceAdd,jqr,jqs,jqt,Int.reduceToNat,Int.reducePow,Int.reduceNeg,Int.reduceMul,Int.reduceAdd,if_true,ite_true,jqu,ite_false,if_false]
  refine ⟨by decide,ls.length,.inl ⟨_,SqL.of Z.hl,(List.length_map ..).symm⟩,cs.length,.inl ⟨_,SqL.of Z.ht,(List.length_map ..).symm⟩,?_⟩
  exact zcv Z rfl fun l tl ls cs H2 Z2=>⟨l,tl,ls,cs,⟨_,_,_,rfl⟩,Z2⟩
 ·rintro σ H' ⟨l,tl,ls,cs,⟨o3,o4,o5,rfl⟩,Z⟩
  simp only [yg,y6,L2.start,Zp,zO,xx,zq,zI,zo,zF,yq,zx,tOp,tUn,ze,tC,zW,zc,zk,xP,zE,wS,vd,zp,tB,tCB,tBM,tyV,tSl,z8,zP,zC,yU,VC,yg,yC,rEq,rI,rI0,rU,wd,zQ,z0,yR,List.map,List.replicate,List.length,List.append,jqa,jqb,jqc,jqd,jqe,jqf,jqg,jqh,jqi,jqj,jqk,jql,jqm,jqn,and_true,true_and,and_assoc,jqo,jqp,jqq,Nat.reduceSub,Nat.reduceAdd,jqr,jqs,jqt,Int.reduceToNat,Int.reducePow,Int.reduceNeg,Int.reduceMul,Int.reduceAdd,if_true,ite_true,jqu,ite_false,if_false]
  have l0:=Z.ln
  refine ⟨by decide,fun p1 hp1=>?_⟩
  have s3:=isV (o:=HO.lst [V.str (Str.ofString "end")]) p1 hp1
  have Z1:=Z.same s3
  refine ⟨cs.length,.inl ⟨_,SqL.of Z1.ht,(List.length_map ..).symm⟩,_,zd,by lia,by lia,zj (by simp;lia),fun p2 hp2=>?_⟩
  have er:(List.replicate ((cs.length:Int)).toNat [V.str (Str.ofString "end")]).flatten=(List.replicate cs.length (Str.ofString "end")).map V.str:=by
   rw [Int.toNat_natCast]
   generalize cs.length=m
   induction m with
   | zero=>rfl
   | succ m ih=>rw [List.replicate_succ,List.flatten_cons,ih];rfl
  rw [er] at *
  have s4:=isV (o:=HO.lst ((List.replicate cs.length (Str.ofString "end")).map V.str)) p2 hp2
  have Z2:=Z1.same s4
  refine ⟨_,Z2.hl,_,zd,zj (by simp;lia),fun p3 hp3=>?_⟩
  refine q p3 (ls ++ List.replicate cs.length (Str.ofString "end")) _ (Z2.sm.trans (isV p3 hp3)) (by rw [zd,List.map_append]) (by simp;lia) fun y hy=>?_
  rcases List.mem_append.mp hy with z | z
  ·exact Z.ok y z
  ·rw [List.eq_of_mem_replicate z];exact ee
def va (ls:List Str):Nat:=(ls.map (·.length)).sum + ls.length
theorem jK (a b:List Str):va (a ++ b)=va a + va b:=by unfold va;rw [List.map_append,List.sum_append,List.length_append];lia
theorem wR (x:Str) (a:List Str):va (x :: a)=x.length + 1 + va a:=by unfold va;simp;lia
theorem XV:∀ {a b:List Str},a.Sublist b→va a≤va b
 | _,_,.slnil=>Nat.le_refl _
 | _,_,.cons x h=>by rw [wR];have:=XV h;lia
 | _,_,.cons₂ x h=>by rw [wR,wR];have:=XV h;lia
theorem KS {m:Nat}:∀ {ls:List Str},okLs m ls→va ls≤ls.length * (m + 1)
 | [],_=>by simp [va]
 | x :: r,h=>by
  have:=KS (ls:=r) fun y hy=>h y (List.mem_cons_of_mem _ hy)
  have hx:=(h x List.mem_cons_self).1
  rw [wR,List.length_cons,Nat.add_mul,Nat.one_mul]
  lia
theorem vL (ls:List Str):ls.length≤va ls:=by unfold va;lia
theorem Xa {c:Nat}:∀ (ls:List Str),(Str.join ⟨#[c]⟩ ls).length≤va ls
 | []=>Nat.zero_le _
 | [x]=>by show x.length≤_;rw [wR];lia
 | x :: y :: r=>by
  have l:(Str.join ⟨#[c]⟩ (x :: y :: r)).length=x.length + (1 + (Str.join ⟨#[c]⟩ (y :: r)).length):=by rw [yK,xC,yK,yK];simp;lia
  have:=Xa (c:=c) (y :: r)
  rw [l,wR];lia
def ascL (ls:List Str):Prop:=∀ x∈ls,Asc x
theorem XW {ls:List Str} (h:ascL ls):Asc (Str.join Vf ls):=fun d hd=>by
 rcases Jo (c:=10) hd with z | ⟨w,hw,z⟩
 ·lia
 ·exact h w hw d z
theorem Ke (ls:List Str):JM (Str.ofString "\n") ls=va ls:=by
 unfold JM va
 rw [W6,show (Str.ofString "\n").length=1 from by decide +kernel]
 lia
theorem qX (ls:List Str) (lo hi:Option Int):∃ ys:List Str,qY (ls.map V.str) lo hi=ys.map V.str∧va ys≤va ls∧(∀ y∈ys,y∈ls) :=
 ⟨(ls.drop (HT.sIx (ls.map V.str).length 0 lo)).take (HT.sIx (ls.map V.str).length (ls.map V.str).length hi - HT.sIx (ls.map V.str).length 0 lo),by unfold qY;rw [List.map_take,List.map_drop],XV ((List.take_sublist ..).trans (List.drop_sublist ..)),fun y hy=>List.mem_of_mem_drop (List.mem_of_mem_take hy)⟩
theorem XX (x:Str) (m:Nat):(List.replicate m [V.str x]).flatten=(List.replicate m x).map V.str:=by
 induction m with
 | zero=>rfl
 | succ m ih=>rw [List.replicate_succ,List.flatten_cons,ih];rfl
theorem XY (x:Str) (m:Nat):va (List.replicate m x)=m * (x.length + 1):=by
 induction m with
 | zero=>simp [va]
 | succ m ih=>rw [List.replicate_succ,wR,ih,Nat.add_mul];lia
theorem ascL.app {a b:List Str} (h:ascL a) (h':ascL b):ascL (a ++ b):=fun x hx=>(List.mem_append.mp hx).elim (h x) (h' x)
theorem ascL.rep {x:Str} (h:Asc x) (m:Nat):ascL (List.replicate m x):=fun y hy=>by rw [List.eq_of_mem_replicate hy];exact h
theorem zbD {α:Type} (f:α→V) (xs:List α) (lo hi:Option Int):∃ ys:List α,qY (xs.map f) lo hi=ys.map f∧ys.length≤xs.length∧∀ y∈ys,y∈xs :=
 ⟨(xs.drop (HT.sIx (xs.map f).length 0 lo)).take (HT.sIx (xs.map f).length (xs.map f).length hi - HT.sIx (xs.map f).length 0 lo),by unfold qY;rw [List.map_take,List.map_drop],by rw [List.length_take,List.length_drop];lia,fun y hy=>List.mem_of_mem_drop (List.mem_of_mem_take hy)⟩
structure LsA (H:Hp) (l:Addr) (ls:List Str):Prop where
 hl:H l=some (.lst (ls.map V.str))
 as:ascL ls
 sz:va ls≤18400
theorem KT {o0 o2 o3 o4 o5 o6 o7:Option V} {l:Addr} {ls:List Str} (Z:LsA H l ls) (q:wA 19000 H Q) :
  vY K t { nx:=fun _ H'=>Q .non H',rt:=Q } [o0,some (.ref l),o2,o3,o4,o5,o6,o7] H:=by
 simp only [vY,L2.start,yV,zF,ze,tC,zc,zk,tBM,tyV,List.map,List.replicate,List.length,List.append,jqa,jqb,jqc,jqd,jqe,jqf,jqg,jqh,jqi,jqj,jqk,jql,jqm,jqn,and_true,true_and,and_assoc,jqo,jqp,jqq,Nat.reduceSub,Nat.reduceAdd,jqr,jqs,jqt,Int.reduceToNat,Int.reducePow,Int.reduceNeg,Int.reduceMul,Int.reduceAdd,if_true,ite_true,jqu,ite_false,if_false]
 have z:=Z.sz
 refine ⟨ls,SqL.of Z.hl,by rw [Ke];exact zj (by lia),?_⟩
 rw [Z5,XD]
 exact q _ _ (Nat.le_trans (Xa ls) (by lia)) (XW Z.as) (Same.refl H)
theorem KU {o0 o3 o4 o6:Option V} {l:Addr} {ls:List Str} {c e:Int} (Z:LsA H l ls) (hs:e=5→va ls≤6100) (q:wA 19000 H Q) :
  vZ K t { nx:=fun _ H'=>Q .non H',rt:=Q } [o0,some (.ref l),some (.int c),o3,o4,some (.int e),o6,none] H:=by
 simp only [vZ,yg,L2.start,Zp,yV,zq,zI,zo,zF,zx,tOp,ze,tC,zW,zc,zk,zE,zp,tBM,tyV,yg,rEq,rI,rI0,yR,List.map,List.replicate,List.length,List.append,jqa,jqb,jqc,jqd,jqe,jqf,jqg,jqh,jqi,jqj,jqk,jql,jqm,jqn,and_true,true_and,and_assoc,jqo,jqp,jqq,Nat.reduceSub,Nat.reduceAdd,jqr,jqs,jqt,Int.reduceToNat,Int.reducePow,Int.reduceNeg,Int.reduceMul,Int.reduceAdd,if_true,ite_true,jqu,ite_false,if_false]
 have a1:(Str.ofString "if 1").length=4∧Asc (Str.ofString "if 1"):=by unfold Asc;decide +kernel
 have a2:(Str.ofString "end").length=3∧Asc (Str.ofString "end"):=by unfold Asc;decide +kernel
 refine yu (fun d=>⟨dB,by decide,by decide,fun p1 hp1=>?_⟩) fun d=>KT Z q
 have g1:=Int.emod_nonneg (c / 8) (b:=6) (by decide)
 have g2:=Int.emod_lt_of_pos (c / 8) (b:=6) (by decide)
 generalize c / 8 % 6=u at *
 have z:=hs d
 have zl:=vL ls
 have s1:=isV (o:=HO.lst [V.str (Str.ofString "if 1")]) p1 hp1
 refine ⟨_,zd,by lia,by lia,zj (by simp;lia),fun p2 hp2=>?_⟩
 rw [XX] at *
 have s2:=isV (o:=HO.lst ((List.replicate (1 + u).toNat (Str.ofString "if 1")).map V.str)) p2 hp2
 refine ⟨_,zd,_,s2 _ _ (s1 _ _ Z.hl),zj (by simp;lia),fun p3 hp3=>?_⟩
 have s3:=isV (o:=HO.lst ((List.replicate (1 + u).toNat (Str.ofString "if 1")).map V.str ++ ls.map V.str)) p3 hp3
 refine ⟨by decide,fun p4 hp4=>⟨_,zd,by lia,by lia,zj (by simp;lia),fun p5 hp5=>?_⟩⟩
 have s4:=isV (o:=HO.lst [V.str (Str.ofString "end")]) p4 hp4
 rw [XX] at *
 have s5:=isV (o:=HO.lst ((List.replicate (1 + u).toNat (Str.ofString "end")).map V.str)) p5 hp5
 refine ⟨_,s5 _ _ (s4 _ _ zd),_,zd,zj (by simp;lia),fun p6 hp6=>?_⟩
 have S:=s1.trans (s2.trans (s3.trans (s4.trans (s5.trans (isV (o:=HO.lst ((List.replicate (1 + u).toNat (Str.ofString "if 1")).map V.str ++ ls.map V.str ++ (List.replicate (1 + u).toNat (Str.ofString "end")).map V.str)) p6 hp6)))))
 refine KT (ls:=List.replicate (1 + u).toNat (Str.ofString "if 1") ++ ls ++ List.replicate (1 + u).toNat (Str.ofString "end")) ⟨by rw [zd,List.map_append,List.map_append],((ascL.rep a1.2 _).app Z.as).app (ascL.rep a2.2 _),?_⟩ fun y H' ly ya s=>q y H' ly ya (S.trans s)
 rw [jK,jK,XY,XY,a1.1,a2.1]
 lia
theorem KW {o0 o3:Option V} {l:Addr} {ls:List Str} {c e w:Int} (Z:LsA H l ls) (hs:e=4∨e=5→va ls≤6100) (q:wA 19000 H Q) :
  v3 K t { nx:=fun _ H'=>Q .non H',rt:=Q } [o0,some (.ref l),some (.int c),o3,some (.int w),some (.int e),none,none] H:=by
 simp only [v3,yg,L2.start,Zp,yV,zq,zI,zo,zF,zx,tOp,ze,tC,zW,zc,zk,zE,zp,tCB,tBM,tyV,tSl,z8,zP,yU,yg,rEq,rI,rI0,wd,z0,yR,List.map,List.replicate,List.length,List.append,jqa,jqb,jqc,jqd,jqe,jqf,jqg,jqh,jqi,jqj,jqk,jql,jqm,jqn,and_true,true_and,and_assoc,jqo,jqp,jqq,Nat.reduceSub,Nat.reduceAdd,jqr,jqs,jqt,Int.reduceToNat,Int.reducePow,Int.reduceNeg,Int.reduceMul,Int.reduceAdd,if_true,ite_true,jqu,ite_false,if_false]
 have a1:(Str.ofString "say 7").length=5∧Asc (Str.ofString "say 7"):=by unfold Asc;decide +kernel
 refine yu (fun d=>⟨dB,by decide,ls.length,.inl ⟨_,SqL.of Z.hl,(List.length_map ..).symm⟩,_,SqL.of Z.hl,fun p1 hp1=>?_⟩) fun d=>KU Z (fun z=>hs (.inr z)) q
 have g1:=Int.emod_nonneg (c / 8) (b:=5) (by decide)
 have g2:=Int.emod_lt_of_pos (c / 8) (b:=5) (by decide)
 generalize c / 8 % 5=u at *
 have z:=hs (.inl d)
 have zl:=vL ls
 obtain ⟨y1,e1,b1,m1⟩:=qX ls none (some w)
 obtain ⟨y2,e2,b2,m2⟩:=qX ls (some w) none
 rw [e1] at *
 have zl1:=vL y1
 have zl2:=vL y2
 have s1:=isV (o:=HO.lst (y1.map V.str)) p1 hp1
 refine ⟨by decide,fun p2 hp2=>⟨_,zd,by lia,by lia,zj (by simp;lia),fun p3 hp3=>?_⟩⟩
 have s2:=isV (o:=HO.lst [V.str (Str.ofString "say 7")]) p2 hp2
 rw [XX] at *
 generalize hu:(38 + u - (ls.length:Int)).toNat=m at *
 have s3:=isV (o:=HO.lst ((List.replicate m (Str.ofString "say 7")).map V.str)) p3 hp3
 refine ⟨_,s3 _ _ (s2 _ _ zd),_,zd,zj (by simp;lia),fun p4 hp4=>?_⟩
 have s4:=isV (o:=HO.lst (y1.map V.str ++ (List.replicate m (Str.ofString "say 7")).map V.str)) p4 hp4
 refine ⟨_,SqL.of (s4 _ _ (s3 _ _ (s2 _ _ (s1 _ _ Z.hl)))),fun p5 hp5=>?_⟩
 rw [e2] at *
 have s5:=isV (o:=HO.lst (y2.map V.str)) p5 hp5
 refine ⟨_,s5 _ _ zd,_,zd,zj (by simp;lia),fun p6 hp6=>?_⟩
 have S:=s1.trans (s2.trans (s3.trans (s4.trans (s5.trans (isV (o:=HO.lst (y1.map V.str ++ (List.replicate m (Str.ofString "say 7")).map V.str ++ y2.map V.str)) p6 hp6)))))
 refine KU (ls:=y1 ++ List.replicate m (Str.ofString "say 7") ++ y2) ⟨by rw [zd,List.map_append,List.map_append],(ascL.app (fun x hx=>Z.as x (m1 x hx)) (ascL.rep a1.2 _)).app fun x hx=>Z.as x (m2 x hx),?_⟩ (fun z=>by lia) fun y H' ly ya s=>q y H' ly ya (S.trans s)
 rw [jK,jK,XY,a1.1]
 lia
theorem zcw {o0 o3:Option V} {l:Addr} {ls:List Str} {c e w:Int} (Z:LsA H l ls) (hs:e=3∨e=4∨e=5→va ls≤6100) (q:wA 19000 H Q) :
  jB K t { nx:=fun _ H'=>Q .non H',rt:=Q } [o0,some (.ref l),some (.int c),o3,some (.int w),some (.int e),none,none] H:=by
 simp only [jB,yg,L2.start,Zp,yV,zq,zI,zo,zF,zx,tOp,ze,tC,zW,zc,zk,zE,zp,tCB,tBM,tyV,tSl,z8,zP,yU,yg,rEq,rI,rI0,wd,z0,yR,List.map,List.replicate,List.length,List.append,jqa,jqb,jqc,jqd,jqe,jqf,jqg,jqh,jqi,jqj,jqk,jql,jqm,jqn,and_true,true_and,and_assoc,jqo,jqp,jqq,Nat.reduceSub,Nat.reduceAdd,jqr,jqs,jqt,Int.reduceToNat,Int.reducePow,Int.reduceNeg,Int.reduceMul,Int.reduceAdd,if_true,ite_true,jqu,ite_false,if_false]
 refine yu (fun d=>⟨_,SqL.of Z.hl,fun p1 hp1=>?_⟩) fun d=>KW Z (fun z=>hs (.inr z)) q
 have z:=hs (.inl d)
 obtain ⟨y1,e1,b1,m1⟩:=qX ls none (some w)
 obtain ⟨y2,e2,b2,m2⟩:=qX ls (some (w + 1)) none
 have zl1:=vL y1
 have zl2:=vL y2
 rw [e1] at *
 have s1:=isV (o:=HO.lst (y1.map V.str)) p1 hp1
 refine ⟨_,SqL.of (s1 _ _ Z.hl),fun p2 hp2=>?_⟩
 rw [e2] at *
 have s2:=isV (o:=HO.lst (y2.map V.str)) p2 hp2
 refine ⟨_,s2 _ _ zd,_,zd,zj (by simp;lia),fun p3 hp3=>?_⟩
 have S:=s1.trans (s2.trans (isV (o:=HO.lst (y1.map V.str ++ y2.map V.str)) p3 hp3))
 refine KW (ls:=y1 ++ y2) ⟨by rw [zd,List.map_append],ascL.app (fun x hx=>Z.as x (m1 x hx)) fun x hx=>Z.as x (m2 x hx),?_⟩ (fun z=>by lia) fun y H' ly ya s=>q y H' ly ya (S.trans s)
 rw [jK]
 lia
theorem zaT {o0:Option V} {l:Addr} {ls:List Str} {c e w m:Int} (Z:LsA H l ls) (hs:e=2∨e=3∨e=4∨e=5→va ls≤6100) (q:wA 19000 H Q) :
  jC K t { nx:=fun _ H'=>Q .non H',rt:=Q } [o0,some (.ref l),some (.int c),some (.int m),some (.int w),some (.int e),none,none] H:=by
 simp only [jC,xS,yg,L2.start,Zp,yV,zq,zI,zo,zF,zx,tOp,ze,tC,zW,zc,zk,zE,zp,tCB,tBM,tyV,tSl,z8,zP,zC,yU,yg,rEq,rI,rI0,wd,z0,yR,List.map,List.replicate,List.length,List.append,jqa,jqb,jqc,jqd,jqe,jqf,jqg,jqh,jqi,jqj,jqk,jql,jqm,jqn,and_true,true_and,and_assoc,jqo,jqp,jqq,Nat.reduceSub,Nat.reduceAdd,jqr,jqs,jqt,Int.reduceToNat,Int.reducePow,Int.reduceNeg,Int.reduceMul,Int.reduceAdd,if_true,ite_true,jqu,ite_false,if_false]
 refine yu (fun d=>?_) fun d=>zcw Z (fun z=>hs (.inr z)) q
 have z:=hs (.inl d)
 refine ⟨ls,SqL.of Z.hl,by rw [Ke];exact zj (by lia),?_⟩
 rw [Z5,XD]
 exact ⟨Nat.le_trans (Xa ls) (by lia),XW Z.as,fun y H' ly ya s=>q y H' (by lia) ya s⟩
theorem zcx {o0:Option V} {l:Addr} {ls:List Str} {c e w m:Int} (Z:LsA H l ls) (hs:va ls≤6100) (q:wA 19000 H Q) :
  jD K t { nx:=fun _ H'=>Q .non H',rt:=Q } [o0,some (.ref l),some (.int c),some (.int m),some (.int w),some (.int e),none,none] H:=by
 simp only [jD,qt,wA,yg,L2.start,Zp,yV,zq,zI,zo,zF,zx,tOp,ze,tC,zW,zc,zk,zE,zp,tCB,tBM,tyV,tSl,z8,zP,zC,yU,yg,rEq,rI,rI0,wd,z0,yR,List.map,List.replicate,List.length,List.append,jqa,jqb,jqc,jqd,jqe,jqf,jqg,jqh,jqi,jqj,jqk,jql,jqm,jqn,and_true,true_and,and_assoc,jqo,jqp,jqq,Nat.reduceSub,Nat.reduceAdd,jqr,jqs,jqt,Int.reduceToNat,Int.reducePow,Int.reduceNeg,Int.reduceMul,Int.reduceAdd,if_true,ite_true,jqu,ite_false,if_false]
 refine yu (fun d=>⟨_,SqL.of Z.hl,fun p1 hp1=>?_⟩) fun d=>zaT Z (fun _=>hs) q
 obtain ⟨y1,e1,b1,m1⟩:=qX ls none (some w)
 obtain ⟨y2,e2,b2,m2⟩:=qX ls (some w) none
 have zl1:=vL y1
 have zl2:=vL y2
 rw [e1] at *
 have s1:=isV (o:=HO.lst (y1.map V.str)) p1 hp1
 intro x H1 lx ha t1
 refine ⟨by decide,fun p2 hp2=>?_⟩
 have s2:=isV (o:=HO.lst [V.str x]) p2 hp2
 refine ⟨_,s2 _ _ (t1 _ _ zd),_,zd,zj (by simp;lia),fun p3 hp3=>?_⟩
 have s3:=isV (o:=HO.lst (y1.map V.str ++ [V.str x])) p3 hp3
 refine ⟨_,SqL.of (s3 _ _ (s2 _ _ (t1 _ _ (s1 _ _ Z.hl)))),fun p4 hp4=>?_⟩
 rw [e2] at *
 have s4:=isV (o:=HO.lst (y2.map V.str)) p4 hp4
 refine ⟨_,s4 _ _ zd,_,zd,zj (by simp;lia),fun p5 hp5=>?_⟩
 have S:=s1.trans (t1.trans (s2.trans (s3.trans (s4.trans (isV (o:=HO.lst (y1.map V.str ++ [V.str x] ++ y2.map V.str)) p5 hp5)))))
 refine zaT (ls:=y1 ++ [x] ++ y2) ⟨by rw [zd,List.map_append,List.map_append];rfl,(ascL.app (fun y hy=>Z.as y (m1 y hy)) fun y hy=>by rw [List.mem_singleton.mp hy];exact ha).app fun y hy=>Z.as y (m2 y hy),?_⟩ (fun z=>by lia) fun y H' ly ya s=>q y H' ly ya (S.trans s)
 rw [jK,jK,wR]
 have:va []=0:=rfl
 lia
theorem zcy {o0:Option V} {l:Addr} {ls:List Str} {c w m:Int} (Z:LsA H l ls) (hs:va ls≤6100) (q:wA 19000 H Q) :
  jE K t { nx:=fun _ H'=>Q .non H',rt:=Q } [o0,some (.ref l),some (.int c),some (.int m),some (.int w),none,none,none] H:=by
 simp only [jE,qA,qz,yg,L2.start,Zp,yV,zq,zI,zo,zF,zx,tOp,ze,tC,zW,zc,zk,zE,zp,tCB,tBM,tyV,tSl,z8,zP,zC,yU,yg,rEq,rI,rI0,wd,zQ,z0,yR,List.map,List.replicate,List.length,List.append,jqa,jqb,jqc,jqd,jqe,jqf,jqg,jqh,jqi,jqj,jqk,jql,jqm,jqn,and_true,true_and,and_assoc,jqo,jqp,jqq,Nat.reduceSub,Nat.reduceAdd,jqr,jqs,jqt,Int.reduceToNat,Int.reducePow,Int.reduceNeg,Int.reduceMul,Int.reduceAdd,if_true,ite_true,jqu,ite_false,if_false]
 have nl:(Str.ofString "\n").length=1∧Asc (Str.ofString "\n"):=by unfold Asc;decide +kernel
 have sz:JM (Str.ofString "\n") ls≤sizeLine:=by rw [Ke];exact zj (by lia)
 have jl:(Str.join Vf ls).length≤va ls:=Xa ls
 have ja:=XW Z.as
 refine ⟨by decide,yu (fun d=>⟨ls,SqL.of Z.hl,sz,?_⟩) fun d=>yu (fun d=>⟨ls,SqL.of Z.hl,sz,?_⟩) fun d=>zcx Z hs q⟩
 ·rw [Z5,XD] at *
  exact ⟨zj (by lia),q _ _ (by rw [zG];lia) (ja.app nl.2) (Same.refl H)⟩
 ·rw [Z5,XD] at *
  exact ⟨zj (by lia),q _ _ (by rw [zG];lia) (nl.2.app ja) (Same.refl H)⟩
theorem Wf {a:Addr} {ns:List Int} (hS:SqL K H a (ns.map V.int)) (hn:ns.length≤63) (q:wA 19000 H Q) :
  kM K t { nx:=fun _ H'=>Q .non H',rt:=Q } (L2.start ["script","lines","cell","number","at","kind","more","many"] [.ref a]) H:=by
 simp only [kM,jZ,yM,yr,yg,L2.start,Zp,yV,zq,zI,zo,zF,zx,tOp,ze,tC,zW,zc,zk,zE,zp,tCB,tBM,tyV,tSl,z8,zP,zC,yU,yg,rEq,rI,rI0,wd,zQ,z0,yR,List.map,List.replicate,List.length,List.append,jqa,jqb,jqc,jqd,jqe,jqf,jqg,jqh,jqi,jqj,jqk,jql,jqm,jqn,and_true,true_and,and_assoc,jqo,jqp,jqq,Nat.reduceSub,Nat.reduceAdd,jqr,jqs,jqt,Int.reduceToNat,Int.reducePow,Int.reduceNeg,Int.reduceMul,Int.reduceAdd,if_true,ite_true,jqu,ite_false,if_false]
 refine ⟨_,hS,fun p hp=>?_⟩
 have s1:=isV (o:=HO.lst (qY (ns.map V.int) (some 3) (some 83))) p hp
 obtain ⟨ys,ey,lY,_⟩:=zbD V.int ns (some 3) (some 83)
 refine ⟨ys,by rw [zd,ey],by lia,fun l ls H1 s2 hl l40 ok=>?_⟩
 have S1:=s1.trans s2
 refine ⟨ns,0,rfl,hS.mono S1,hn,fun c H2 s3=>⟨ns,1,rfl,(hS.mono S1).mono s3,hn,fun c1 H3 s4=>⟨by decide,by decide,fun r H4 r0 r1 s5=>⟨ns,2,rfl,(((hS.mono S1).mono s3).mono s4).mono s5,hn,fun c2 H5 s6=>?_⟩⟩⟩⟩
 have S5:=s3.trans (s4.trans (s5.trans s6))
 have hl5:=S5 _ _ hl
 refine ⟨ls.length,.inl ⟨_,SqL.of hl5,(List.length_map ..).symm⟩,by lia,?_⟩
 have sz:=KS ok
 have:ls.length * 151≤40 * 151:=Nat.mul_le_mul_right _ l40
 exact zcy ⟨hl5,fun x hx=>(ok x hx).2,by lia⟩ (by lia) fun y H' ly ya s=>q y H' ly ya (S1.trans (S5.trans s))
theorem ndF {P:Str→Option Value} (T:Txt K P t):NdF K t:=⟨T.es_NoDealing,T.nx_NoDealing,T.e_NoDealing_NoDealing,T.e_NoDealing_ForerunError,T.i_NoDealing_ValueError,T.j_NoDealing_0⟩
theorem YH {x:Str} {k:Nat} (F:NdF K t) (ha:Asc x) (lx:x.length≤20000) (e:rdE .nil [] 0 (yw x)=.error k) (q:∀ H',Same H H'→Q (.bl true) H') :
  v5 K t { nx:=fun _ H'=>Q .non H',rt:=Q } (L2.start ["line","bad","caught","other","e","at"] [.str x,.int k]) H:=by
 simp only [v5,jW,jV,jU,jT,qV,zaz,zaB,Vd,Z7,L2.start,zb6,zb5,JJ,JI,zb9,Q1,zb8,zq,zI,zo,zF,zx,tOp,ze,tC,xm,zc,zk,zE,tOr,vd,tB,jM,Qy,tCB,rEq,X3,yR,List.map,List.replicate,List.length,List.append,jqa,jqb,jqc,jqd,jqe,jqf,jqg,jqh,jqi,jqj,jqk,jql,jqm,jqn,and_true,true_and,and_assoc,jqo,jqp,jqq,Nat.reduceSub,Nat.reduceAdd,jqr,jqs,jqt,Int.reduceToNat,Int.reducePow,Int.reduceNeg,Int.reduceMul,Int.reduceAdd,if_true,ite_true,jqu,ite_false,if_false]
 have exk:=F.es.exk
 have nok:∀ D,rdE .nil [] 0 (yw x)=.ok D→False:=fun D z=>by rw [e] at z;cases z
 refine ⟨ha,lx,fun D z=>(nok D z).elim,fun k1 z d H1 s1 hd=>⟨_,rfl,exk,F.fx,fun ea hea=>?_⟩⟩
 have t1:=isV (o:=exO ea t.c_NoDealing) ea hea
 refine ⟨_,zd,exk,true,F.iv,by decide,fun p hp=>?_⟩
 have t2:=isV (o:=HO.tup [V.ref t.c_NoTerm,V.ref t.c_NoNumber,V.ref t.c_Nought,V.ref t.c_Great,V.ref t.c_Folded,V.ref t.c_NoHand,V.ref t.c_NoOrder,V.ref t.c_NoLine,V.ref t.c_NoLog]) p hp
 refine ⟨_,t2 _ _ zd,exk,[t.c_NoTerm,t.c_NoNumber,t.c_Nought,t.c_Great,t.c_Folded,t.c_NoHand,t.c_NoOrder,t.c_NoLine,t.c_NoLog],zd,false,F.io,?_⟩
 rw [if_neg (by decide),if_neg (by decide)]
 refine ⟨ha,lx,fun D z=>(nok D z).elim,fun k2 z2 d2 H3 s3 hd2=>?_⟩
 rw [e] at z2
 cases z2
 refine ⟨_,rfl,d2,rfl,F.ex,fun e2 he2=>?_⟩
 have t3:=isV (o:=exF e2 t.c_NoDealing d2) e2 he2
 refine ⟨_,d2,zd,F.es,F.nx,_,t3 _ _ hd2,_,List.lookup_cons_self,_,.int _,true,XA "int",?_⟩
 rw [if_pos rfl]
 refine ⟨_,.int _,false,(kf K).i_b,?_⟩
 rw [if_pos rfl,decide_eq_true rfl]
 exact ⟨rfl,q _ (s1.trans (t1.trans (t2.trans (s3.trans t3))))⟩
theorem zaU {o0 o1:Option V} {x:Str} {l:Addr} (hl:H l=some (.lst ((yw x).map V.str))) (ha:Asc x) (lx:x.length≤19000) (q:∀ H',Q (.bl true) H') :
  Xz K t { nx:=fun _ H'=>Q .non H',rt:=Q } [o0,o1,some (.str x),some (.ref l),none,none,none] H:=by
 simp only [Xz,Jb,Ja,jy,vR,qV,L2.start,zq,zI,zo,WL,qb,WK,zF,zx,tOp,ze,tC,zc,zk,zE,zp,jM,tCB,zC,yU,rEq,rI0,z0,X3,yR,List.map,List.replicate,List.length,List.append,jqa,jqb,jqc,jqd,jqe,jqf,jqg,jqh,jqi,jqj,jqk,jql,jqm,jqn,and_true,true_and,and_assoc,jqo,jqp,jqq,Nat.reduceSub,Nat.reduceAdd,jqr,jqs,jqt,Int.reduceToNat,Int.reducePow,Int.reduceNeg,Int.reduceMul,Int.reduceAdd,if_true,ite_true,jqu,ite_false,if_false]
 have cn:(yw x).length≤20001∧okLs 20000 (yw x):=by
  unfold yw
  split
  ·exact ⟨Nat.zero_le _,fun y hy=>nomatch hy⟩
  ·have:=vK x 10
   exact ⟨Nat.le_trans this (by lia),ko (by lia) ha⟩
 obtain ⟨j1,j2⟩:=Qv ha (by lia)
 refine ⟨yw x,hl,cn.1,cn.2,fun p H1 s1 hp=>⟨_,SqT.of hp,rfl,_,_,rfl,_,_,rfl,rfl,?_⟩⟩
 cases hr:rdE .nil [] 0 (yw x) with
 | error k =>
  have:=j2 k hr
  rw [this]
  refine ⟨_,rfl,?_⟩
  rw [if_pos (by lia)]
  exact ⟨k,rfl,ha,by lia,rfl,fun H' s=>q H'⟩
 | ok D =>
  rw [j1 D hr]
  refine ⟨_,rfl,?_⟩
  rw [if_neg (by show ¬ (0:Int)≤-1;decide)]
  refine ⟨ha,by lia,fun D' z H2 l2 xs s2 h2 T=>?_,fun k z=>by cases z⟩
  cases z
  refine ⟨_,.lst h2,true,XA "list",?_⟩
  rw [if_pos rfl]
  have e:=TrsAt.len D T
  refine ⟨xs.length,.inl ⟨xs,SqL.of h2,rfl⟩,rfl,?_⟩
  rw [decide_eq_true (by rw [e])]
  exact q H2
theorem zbE {a:Addr} {ns:List Int} (hS:SqL K H a (ns.map V.int)) (hn:ns.length≤63) (q:∀ H',Q (.bl true) H') :
  J9 K t { nx:=fun _ H'=>Q .non H',rt:=Q } (L2.start ["script","number","line","lines","bad","many","found"] [.ref a]) H:=by
 simp only [J9,Je,Jd,Jc,yM,kH,wA,y0,zcl,L2.start,zq,zI,zo,WL,qb,WK,zF,zx,tOp,ze,tC,zW,zc,zk,zE,zp,jM,tCB,tBM,tyV,zC,yU,rEq,rNe,rI,rI0,z0,X3,yR,List.map,List.replicate,List.length,List.append,jqa,jqb,jqc,jqd,jqe,jqf,jqg,jqh,jqi,jqj,jqk,jql,jqm,jqn,and_true,true_and,and_assoc,jqo,jqp,jqq,Nat.reduceSub,Nat.reduceAdd,jqr,jqs,jqt,Int.reduceToNat,Int.reducePow,Int.reduceNeg,Int.reduceMul,Int.reduceAdd,if_true,ite_true,jqu,ite_false,if_false]
 refine ⟨ns,1,rfl,hS,hn,fun c H1 s1=>⟨by decide,fun d e hd he ne=>?_⟩⟩
 rw [if_neg (fun z=>z trivial)]
 have he2:upd H1 d (HO.xd [(Str.ofString "row",V.int (c % 41))]) e=none:=by rw [zw (Ne.symm ne)];exact he
 have s2:=(isV (o:=HO.xd [(Str.ofString "row",V.int (c % 41))]) d hd).trans (isV (o:=exM e t.c_NoDealing d) e he2)
 refine ⟨ns,(hS.mono s1).mono s2,hn,fun x H2 lx ha s3=>⟨Nat.zero_le _,fun p hp=>?_⟩⟩
 by_cases hx:x=""
 ·rw [if_neg (fun z=>z hx)]
  exact zaU (by rw [zd,show yw x=[] from if_pos hx];rfl) ha lx q
 ·rw [if_pos hx]
  have wc:(Txt.split x Vf).length≤x.length + 1:=vK x 10
  rw [← XD] at wc
  refine ⟨by decide +kernel,by lia,by lia,fun l hl=>zaU ?_ ha lx q⟩
  rw [zd,show yw x=Txt.split x Vf from if_neg hx,XD]
end
section
variable {P:Program} {w:World} {K:PySem.W.Frag} {mg:Str→Option Value} {base:Heap} {t:Adr}
theorem wD (T:Txt K mg t):FnOk P w K mg base (CX1 P w) 1 t.a__law_is_name t.d__law_is_name ["word"] (yB):=by
 refine T.f__law_is_name.ok0 sc__law_is_name (fun vs H Q E h=>?_) (fun cdv A outer s H vs Q E hr h=>?_)
 ·obtain ⟨x,rfl,_⟩:=h;rfl
 obtain ⟨x,rfl,h1,q⟩:=h
 exact ⟨vS K t,(zf (zN (zt xB (pv 0) (yY (yv (x:="take") (yv (x:="give") (yv (x:="let") (yv (x:="say") (yv (x:="off") (yv (x:="if") (yv (x:="else") (yv (x:="end") (yv (x:="as") zg)))))))))) (by with_unfolding_all rfl)) (zh (zD (ww (b:=false))))
   zB)
  (zf (zN (zt xB (pv 0) (yY (zb (zn (x:="plus")) (zb (zn (x:="minus")) (zb (zn (x:="times")) (zb (zn (x:="over")) (zb (zn (x:="rest")) (zb (zn (x:="under")) (zb (zn (x:="same")) zg)))))))) (by with_unfolding_all rfl)) (zh (zD (ww (b:=false))))
    zB)
  (zf (qd PassesOwn.never rfl (WY (pv 0)) (wb (i:=1) sc__law_is_name.nd rfl (Or.inl rfl)) (zh (zN (zt ZL (pv 1) (zn (x:="abcdefghijklmnopqrstuvwxyz")) (by with_unfolding_all rfl)) (zh (zD (ww (b:=false))))
    zB)))
  (zh (zD (VE Ko Ko (zi (i:=1)) (zK zR rfl T.b_len yh (zb (pv 0) zg)) (zi (i:=6)))))))),YF h1 q⟩
theorem v9 (T:Txt K mg t):FnOk P w K mg base (CX1 P w) 2 t.a__law_name t.d__law_name ["number"] (xn):=by
 refine T.f__law_name.ok0 sc__law_name (fun vs H Q E h=>?_) (fun cdv A outer s H vs Q E hr h=>?_)
 ·obtain ⟨n,rfl,_⟩:=h;rfl
 obtain ⟨n,rfl,h1,h2,q⟩:=h
 exact ⟨kJ K t,(zf (zA (i:=1) sc__law_name.nd rfl (Or.inl rfl) (zn (x:="abcdefghijklmnopqrstuvwxyz")))
  (zf (zA (i:=2) sc__law_name.nd rfl (Or.inl rfl) (zn (x:="")))
  (zf (qd PassesOwn.never rfl (Wj rfl T.b_range (zb (zu xH (zi (i:=1)) (zu yQ (pv 0) (zi (i:=6)))) zg)) (wb (i:=3) sc__law_name.nd rfl (Or.inl rfl)) (zf (zA (i:=2) sc__law_name.nd rfl (Or.inl rfl) (zu zz (pv 2) (yE WQ (pv 1) (zu yQ (zu yZ (pv 0) (zi (i:=6))) (zi (i:=26))) (fun _ _=>rfl))))
  (zh (zA (i:=0) sc__law_name.nd rfl (Or.inl rfl) (zu xH (zu yZ (pv 0) (zi (i:=26))) (zu ZR (zu ZR (zi (i:=991)) (pv 3)) (pv 3)))))))
  (zf (zN (xw (zH (FnOk.mono (wD T) (by decide)) hr rfl T.m__law_is_name T.f__law_is_name.kp T.b__law_is_name .nil zU (zb (pv 2) zg))) (zh (zD (pv 2)))
    zB)
  (zh (zD (zu zz (pv 2) (zn (x:="q"))))))))),Wc q⟩
theorem kW (T:Txt K mg t):FnOk P w K mg base (CX1 P w) 3 t.a__law_term t.d__law_term ["number"] (wq):=by
 refine T.f__law_term.ok0 sc__law_term (fun vs H Q E h=>?_) (fun cdv A outer s H vs Q E hr h=>?_)
 ·obtain ⟨n,rfl,_⟩:=h;rfl
 obtain ⟨n,rfl,h1,h2,q⟩:=h
 exact ⟨kK K t,(zf (zA (i:=1) sc__law_term.nd rfl (Or.inl rfl) (zH (FnOk.mono (v9 T) (by decide)) hr rfl T.m__law_name T.f__law_name.kp T.b__law_name .nil zU (zb (zu yZ (pv 0) (zi (i:=8))) zg)))
  (zf (zN (zt yb (zu yQ (pv 0) (zi (i:=4))) (zi (i:=1)) (zy _)) (zh (zA (i:=1) sc__law_term.nd rfl (Or.inl rfl) (jb kt rfl T.b_str JG (zb (zu Zk (zu yQ (zu yZ (pv 0) (zi (i:=8))) (zi (i:=40))) (zi (i:=9))) zg))))
    zB)
  (zf (zN (zt yb (zu yQ (pv 0) (zi (i:=4))) (zi (i:=2)) (zy _)) (zh (zA (i:=1) sc__law_term.nd rfl (Or.inl rfl) (jb kt rfl T.b_str JG (zb (zu Zk (zu yQ (zu Xd (pv 0) (zi (i:=4))) (zu xH (zu ZR (zi (i:=2)) (zu Xd (zi (i:=10)) (zi (i:=30)))) (zi (i:=1)))) (zu Xd (zi (i:=10)) (zi (i:=30)))) zg))))
    zB)
  (zf (zN (zt ZK (zu yQ (pv 0) (zi (i:=8))) (zi (i:=5)) (zy _)) (zh (zD (pv 1)))
    zB)
  (zf (zA (i:=2) sc__law_term.nd rfl (Or.inl rfl) (zX (zb (zn (x:="plus ")) (zb (zn (x:="minus ")) (zb (zn (x:="times ")) (zb (zn (x:="over ")) (zb (zn (x:="rest ")) (zb (zn (x:="under ")) (zb (zn (x:="same ")) zg)))))))))
  (zh (zD (zu zz (zu zz (zu zz (yE yi (pv 2) (zu yQ (zu yZ (pv 0) (zi (i:=8))) (zi (i:=7))) (fun _ _=>rfl)) (pv 1)) (zn (x:=" "))) (zH (FnOk.mono (v9 T) (by decide)) hr rfl T.m__law_name T.f__law_name.kp T.b__law_name .nil zU (zb (zu yZ (pv 0) (zi (i:=56))) zg)))))))))),Wd h1 h2 q⟩
theorem xG (T:Txt K mg t):FnOk P w K mg base (CX1 P w) 1 t.a__law_mixed t.d__law_mixed ["cell","k"] (yr):=by
 refine T.f__law_mixed.ok0 sc__law_mixed (fun vs H Q E h=>?_) (fun cdv A outer s H vs Q E hr h=>?_)
 ·obtain ⟨c,k,rfl,_⟩:=h;rfl
 obtain ⟨c,k,rfl,hk,hk2,q⟩:=h
 exact ⟨j0 K t,(zf (zA (i:=2) sc__law_mixed.nd rfl (Or.inl rfl) (zu xH (zu xH (zu yQ (pv 0) (zi (i:=2147483647))) (zu ZR (zi (i:=11)) (pv 1))) (zi (i:=7))))
  (zh (zD (zu yZ (zu yQ (zu ZR (pv 2) (zu xH (zu xH (pv 2) (zi (i:=48271))) (pv 1))) (zi (i:=2147483647))) (zi (i:=5)))))),XJ hk hk2 q⟩
theorem Jp (T:Txt K mg t):FnOk P w K mg base (CX1 P w) 4 t.a__law_row t.d__law_row ["cell"] (qr):=by
 refine T.f__law_row.ok0 sc__law_row (fun vs H Q E h=>?_) (fun cdv A outer s H vs Q E hr h=>?_)
 ·obtain ⟨n,rfl,_⟩:=h;rfl
 obtain ⟨n,rfl,q⟩:=h
 exact ⟨qx K t,(zf (zA (i:=1) sc__law_row.nd rfl (Or.inl rfl) (yE yi (zX (zb (zn (x:="take ")) (zb (zn (x:="give ")) (zb (zn (x:="let ")) (zb (zn (x:="say ")) (zb (zn (x:="off ")) zg)))))) (zu yQ (pv 0) (zi (i:=5))) (fun _ _=>rfl)))
  (zf (zA (i:=2) sc__law_row.nd rfl (Or.inl rfl) (zH (FnOk.mono (kW T) (by decide)) hr rfl T.m__law_term T.f__law_term.kp T.b__law_term .nil zU (zb (zH (FnOk.mono (xG T) (by decide)) hr rfl T.m__law_mixed T.f__law_mixed.kp T.b__law_mixed .nil zU (zb (pv 0) (zb (zi (i:=1)) zg))) zg)))
  (zf (zA (i:=3) sc__law_row.nd rfl (Or.inl rfl) (zu zz (zH (FnOk.mono (v9 T) (by decide)) hr rfl T.m__law_name T.f__law_name.kp T.b__law_name .nil zU (zb (zH (FnOk.mono (xG T) (by decide)) hr rfl T.m__law_mixed T.f__law_mixed.kp T.b__law_mixed .nil zU (zb (pv 0) (zb (zi (i:=2)) zg))) zg)) (zn (x:=" "))))
  (zf (zN (zt yb (pv 1) (zn (x:="take ")) (zy _)) (zh (zD (zu zz (zu zz (zu zz (zu zz (pv 1) (pv 3)) (pv 2)) (zn (x:=" as "))) (zH (FnOk.mono (v9 T) (by decide)) hr rfl T.m__law_name T.f__law_name.kp T.b__law_name .nil zU (zb (zH (FnOk.mono (xG T) (by decide)) hr rfl T.m__law_mixed T.f__law_mixed.kp T.b__law_mixed .nil zU (zb (pv 0) (zb (zi (i:=3)) zg))) zg)))))
    zB)
  (zf (zN (zt yb (pv 1) (zn (x:="give ")) (zy _)) (zh (zD (zu zz (zu zz (zu zz (zu zz (pv 1) (pv 3)) (pv 2)) (zn (x:=" "))) (zH (FnOk.mono (kW T) (by decide)) hr rfl T.m__law_term T.f__law_term.kp T.b__law_term .nil zU (zb (zH (FnOk.mono (xG T) (by decide)) hr rfl T.m__law_mixed T.f__law_mixed.kp T.b__law_mixed .nil zU (zb (pv 0) (zb (zi (i:=4)) zg))) zg)))))
    zB)
  (zf (zN (zt yb (pv 1) (zn (x:="let ")) (zy _)) (zh (zD (zu zz (zu zz (pv 1) (pv 3)) (pv 2))))
    zB)
  (zh (zD (zu zz (pv 1) (pv 2)))))))))),Vu q⟩
theorem Wg (T:Txt K mg t):FnOk P w K mg base (CX1 P w) 5 t.a__law_lines t.d__law_lines ["cells"] (jZ):=by
 refine T.f__law_lines.ok0 sc__law_lines (fun vs H Q E h=>?_) (fun cdv A outer s H vs Q E hr h=>?_)
 ·obtain ⟨p,ns,rfl,_⟩:=h;rfl
 obtain ⟨p,ns,rfl,h1,h2,q⟩:=h
 exact ⟨j4 K t,(zf (zA (i:=1) sc__law_lines.nd rfl (Or.inl rfl) (zX zg))
  (zf (zA (i:=2) sc__law_lines.nd rfl (Or.inl rfl) (zX zg))
  (zf (qd PassesOwn.never rfl (zaX (pv 0)) (wb (i:=3) sc__law_lines.nd rfl (Or.inl rfl)) (zf (zA (i:=4) sc__law_lines.nd rfl (Or.inl rfl) (zu yQ (pv 3) (zi (i:=9))))
  (zf (zA (i:=5) sc__law_lines.nd rfl (Or.inl rfl) (zu Zk (zu Zk (zi (i:=40)) (zK zR rfl T.b_len yh (zb (pv 1) zg))) (zK zR rfl T.b_len yh (zb (pv 2) zg))))
  (zh (zN (PW.pt (vN (zt ZK (pv 4) (zi (i:=2)) (zy _)) (vN (zt ZK (zK zR rfl T.b_len yh (zb (pv 2) zg)) (zi (i:=5)) (zy _)) (jL (zt Zc (pv 5) (zi (i:=1)) (zy _)))))) (zf (yP (wI PySem.F.plainAttrs_list PySem.F.slot_list_append PySem.F.type_list_append xc (pv 1) (zb (zu zz (zn (x:="if ")) (zH (FnOk.mono (kW T) (by decide)) hr rfl T.m__law_term T.f__law_term.kp T.b__law_term .nil zU (zb (zH (FnOk.mono (xG T) (by decide)) hr rfl T.m__law_mixed T.f__law_mixed.kp T.b__law_mixed .nil zU (zb (zu yZ (pv 3) (zi (i:=9))) (zb (zi (i:=5)) zg))) zg))) zg)))
  (zh (yP (wI PySem.F.plainAttrs_list PySem.F.slot_list_append PySem.F.type_list_append xc (pv 2) (zb (ww (b:=false)) zg)))))
   (zh (zN (PW.pt (vN (zt yb (pv 4) (zi (i:=2)) (zy _)) (vN (zt (kg (Yn hr)) (pv 2) (zX zg) (zy _)) (vN (kq (xw (yE yi (pv 2) (jo wF (zi (i:=1))) (fun _ _=>rfl)))) (jL (zt Zc (pv 5) (zi (i:=0)) (zy _))))))) (zf (yP (wI PySem.F.plainAttrs_list PySem.F.slot_list_append PySem.F.type_list_append xc (pv 1) (zb (zn (x:="else")) zg)))
  (zh (zA (i:=2) sc__law_lines.nd rfl (Or.inl rfl) (zu xI (yf wC (pv 2) yS (yt (jo wF (zi (i:=1))))) (zX (zb (ww (b:=true)) zg))))))
   (zh (zN (PW.pt (vN (zt ZK (pv 4) (zi (i:=5)) (zy _)) (jL (zt (kg (Yn hr)) (pv 2) (zX zg) (zy _))))) (zf (yP (wI PySem.F.plainAttrs_list PySem.F.slot_list_append PySem.F.type_list_append xc (pv 1) (zb (zn (x:="end")) zg)))
  (zh (zA (i:=2) sc__law_lines.nd rfl (Or.inl rfl) (yf wC (pv 2) yS (yt (jo wF (zi (i:=1))))))))
   (zh (zN (PW.pt (vN (zt Zc (pv 4) (zi (i:=4)) (zy _)) (jL (zt Zc (pv 5) (zi (i:=0)) (zy _))))) (zh (yP (wI PySem.F.plainAttrs_list PySem.F.slot_list_append PySem.F.type_list_append xc (pv 1) (zb (zH (FnOk.mono (Jp T) (by decide)) hr rfl T.m__law_row T.f__law_row.kp T.b__law_row .nil zU (zb (zu yZ (pv 3) (zi (i:=9))) zg)) zg))))
   zB)))))))))))
  (zh (zD (zu xI (pv 1) (zu WT (zX (zb (zn (x:="end")) zg)) (zK zR rfl T.b_len yh (zb (pv 2) zg))))))))),XU h1 q⟩
theorem wE (T:Txt K mg t):FnOk P w K mg base (CX1 P w) 1 t.a__law_cell_at t.d__law_cell_at ["script","k"] (yM K):=by
 refine T.f__law_cell_at.ok0 YV (fun vs H Q E h=>?_) (fun cdv A outer s H vs Q E hr h=>?_)
 ·obtain ⟨a,ns,k,rfl,_⟩:=h;rfl
 obtain ⟨a,ns,k,rfl,hS,hl,q⟩:=h
 exact ⟨vX K t,(zf (zN (zt ZK (pv 1) (zK zR rfl T.b_len yh (zb (pv 0) zg)) (zy _)) (zh (zD (yE yi (pv 0) (pv 1) (fun _ _=>rfl))))
   zB)
  (zh (zD (zi (i:=0))))),YB hS hl q⟩
theorem qN (T:Txt K mg t):FnOk P w K mg base (CX1 P w) 1 t.a__law_signs_turned t.d__law_signs_turned ["line","number"] (xS):=by
 refine T.f__law_signs_turned.ok0 sc__law_signs_turned (fun vs H Q E h=>?_) (fun cdv A outer s H vs Q E hr h=>?_)
 ·obtain ⟨x,n,rfl,_⟩:=h;rfl
 obtain ⟨x,n,rfl,h1,h2,q⟩:=h
 exact ⟨xT K t,(zf (zA (i:=2) sc__law_signs_turned.nd rfl (Or.inl rfl) (zn (x:=" \n0123456789-+abcdefghijklmnopqrstuvwxyz!\"#$&'()*,./:;<=>?@ABCDEFGHIJKLMNOPQRSTUVWXYZ")))
  (zf (zA (i:=2) sc__law_signs_turned.nd rfl (Or.inl rfl) (zu zz (pv 2) (zn (x:="[\\]^_`{|}~\t"))))
  (zf (zA (i:=3) sc__law_signs_turned.nd rfl (Or.inl rfl) (yE WQ (pv 2) (zu yQ (zu yZ (pv 1) (zi (i:=3))) (zK zR rfl T.b_len yh (zb (pv 2) zg))) (fun _ _=>rfl)))
  (zf (zN (zt yb (zu yQ (zu yZ (pv 1) (zi (i:=300))) (zi (i:=2))) (zi (i:=0)) (zy _)) (zh (zA (i:=3) sc__law_signs_turned.nd rfl (Or.inl rfl) (yE WQ (pv 2) (zu yQ (zu yZ (pv 1) (zi (i:=600))) (zi (i:=2))) (fun _ _=>rfl))))
    zB)
  (zf (zA (i:=4) sc__law_signs_turned.nd rfl (Or.inl rfl) (zu yQ (zu yZ (pv 1) (zi (i:=7))) (zu xH (zK zR rfl T.b_len yh (zb (pv 0) zg)) (zi (i:=1)))))
  (zf (zN (zt yb (zu yQ (pv 1) (zi (i:=3))) (zi (i:=0)) (zy _)) (zh (zD (zu zz (zu zz (yf ky (pv 0) yS (yt (pv 4))) (pv 3)) (yf ky (pv 0) (yt (pv 4)) yS))))
    zB)
  (zf (zN (zt yb (zu yQ (pv 1) (zi (i:=3))) (zi (i:=1)) (zy _)) (zh (zD (zu zz (zu zz (yf ky (pv 0) yS (yt (pv 4))) (pv 3)) (yf ky (pv 0) (yt (zu xH (pv 4) (zi (i:=1)))) yS))))
    zB)
  (zh (zD (zu zz (yf ky (pv 0) yS (yt (pv 4))) (yf ky (pv 0) (yt (zu xH (pv 4) (zi (i:=1)))) yS))))))))))),k9 h1 h2 q⟩
theorem xo (T:Txt K mg t):FnOk P w K mg base (CX1 P w) 1 t.a__law_long t.d__law_long ["many"] (yG):=by
 refine T.f__law_long.ok0 Ve (fun vs H Q E h=>?_) (fun cdv A outer s H vs Q E hr h=>?_)
 ·obtain ⟨n,rfl,_⟩:=h;rfl
 obtain ⟨n,rfl,h1,h2,q⟩:=h
 exact ⟨kL K t,(zh (zD (zu zz (zu zz (zu kA (zn (x:="plus ")) (pv 0)) (zu kA (zn (x:="1 ")) (pv 0))) (zn (x:="x"))))),We h1 h2 q⟩
theorem Jq (T:Txt K mg t):FnOk P w K mg base (CX1 P w) 2 t.a__law_odd t.d__law_odd ["number"] (qt):=by
 refine T.f__law_odd.ok0 sc__law_odd (fun vs H Q E h=>?_) (fun cdv A outer s H vs Q E hr h=>?_)
 ·obtain ⟨n,rfl,_⟩:=h;rfl
 obtain ⟨n,rfl,q⟩:=h
 refine ⟨qy K t,?_,Vv q⟩
 refine zf ?_ ?_
 ·refine zA (i:=1) ?z ?a ?b ?c (hs:=?d) (hf:=?e)
  case z=>exact sc__law_odd.nd
  case a=>rfl
  case b=>exact (Or.inl rfl)
  case c =>
   refine zX ?_
   refine yv (x:="") ?_
   refine yv (x:=" ") ?_
   refine yv (x:="say") ?_
   refine yv (x:="say ") ?_
   refine yv (x:=" say 1") ?_
   refine yv (x:="say 1 ") ?_
   refine yv (x:="say  1") ?_
   refine yv (x:="say\t1") ?_
   refine yv (x:="say 1 2") ?_
   refine yv (x:="say plus 1") ?_
   exact zg
  case d=>rfl
  case e=>first | exact .inl rfl | exact .inr rfl | assumption
 ·refine zf ?_ ?_
  ·refine zA (i:=1) ?z ?a ?b ?c (hs:=?d) (hf:=?e)
   case z=>exact sc__law_odd.nd
   case a=>rfl
   case b=>exact (Or.inl rfl)
   case c =>
    refine zu xI (pv 1) ?_
    refine zX ?_
    refine yv (x:="let 1 2") ?_
    refine yv (x:="let as 1") ?_
    refine yv (x:="let x") ?_
    refine yv (x:="let letters 1") ?_
    refine yv (x:="else 1") ?_
    refine yv (x:="end ") ?_
    refine yv (x:="End") ?_
    refine yv (x:="if") ?_
    refine yv (x:="if 1 2") ?_
    refine yv (x:="off") ?_
    exact zg
   case d=>rfl
   case e=>first | exact .inl rfl | exact .inr rfl | assumption
  ·refine zf ?_ ?_
   ·refine zA (i:=1) ?z ?a ?b ?c (hs:=?d) (hf:=?e)
    case z=>exact sc__law_odd.nd
    case a=>rfl
    case b=>exact (Or.inl rfl)
    case c =>
     refine zu xI (pv 1) ?_
     refine zX ?_
     refine zb (zn (x:="skip 1 2")) ?_
     refine zb (zn (x:="give x 1")) ?_
     refine zb (zn (x:="give x 1 2 3")) ?_
     refine zb (zn (x:="take x 1 as")) ?_
     refine zb (zn (x:="take x 1 as y z")) ?_
     refine zb (zn (x:="take x 1 is y")) ?_
     exact zg
    case d=>rfl
    case e=>first | exact .inl rfl | exact .inr rfl | assumption
   ·refine zf ?_ ?_
    ·refine zA (i:=1) ?z ?a ?b ?c (hs:=?d) (hf:=?e)
     case z=>exact sc__law_odd.nd
     case a=>rfl
     case b=>exact (Or.inl rfl)
     case c =>
      refine zu xI (pv 1) ?_
      refine zX ?_
      refine zb (zn (x:="take 1 1 as x")) ?_
      refine zb (zn (x:="take x 1 as 1")) ?_
      exact zg
     case d=>rfl
     case e=>first | exact .inl rfl | exact .inr rfl | assumption
    ·refine zf ?_ ?_
     ·refine zA (i:=1) ?z ?a ?b ?c (hs:=?d) (hf:=?e)
      case z=>exact sc__law_odd.nd
      case a=>rfl
      case b=>exact (Or.inl rfl)
      case c =>
       refine zu xI (pv 1) ?_
       refine zX ?_
       refine zb (zu zz (zn (x:="say ")) (zH (FnOk.mono (xo T) (by decide)) hr rfl T.m__law_long T.f__law_long.kp T.b__law_long .nil zU (zb (zi (i:=29)) zg))) ?_
       refine zb (zu zz (zn (x:="say ")) (zH (FnOk.mono (xo T) (by decide)) hr rfl T.m__law_long T.f__law_long.kp T.b__law_long .nil zU (zb (zi (i:=30)) zg))) ?_
       refine zb (zu zz (zn (x:="let x ")) (zH (FnOk.mono (xo T) (by decide)) hr rfl T.m__law_long T.f__law_long.kp T.b__law_long .nil zU (zb (zi (i:=28)) zg))) ?_
       refine zb (zu zz (zn (x:="let x ")) (zH (FnOk.mono (xo T) (by decide)) hr rfl T.m__law_long T.f__law_long.kp T.b__law_long .nil zU (zb (zi (i:=29)) zg))) ?_
       exact zg
      case d=>rfl
      case e=>first | exact .inl rfl | exact .inr rfl | assumption
     ·refine zf ?_ ?_
      ·refine zA (i:=1) ?z ?a ?b ?c (hs:=?d) (hf:=?e)
       case z=>exact sc__law_odd.nd
       case a=>rfl
       case b=>exact (Or.inl rfl)
       case c =>
        refine zu xI (pv 1) ?_
        refine zX ?_
        refine zb (zu zz (zu zz (zn (x:="take x ")) (zH (FnOk.mono (xo T) (by decide)) hr rfl T.m__law_long T.f__law_long.kp T.b__law_long .nil zU (zb (zi (i:=27)) zg))) (zn (x:=" as y"))) ?_
        refine zb (zu zz (zu zz (zn (x:="take x ")) (zH (FnOk.mono (xo T) (by decide)) hr rfl T.m__law_long T.f__law_long.kp T.b__law_long .nil zU (zb (zi (i:=28)) zg))) (zn (x:=" as y"))) ?_
        exact zg
       case d=>rfl
       case e=>first | exact .inl rfl | exact .inr rfl | assumption
      ·refine zf ?_ ?_
       ·refine zA (i:=1) ?z ?a ?b ?c (hs:=?d) (hf:=?e)
        case z=>exact sc__law_odd.nd
        case a=>rfl
        case b=>exact (Or.inl rfl)
        case c =>
         refine zu xI (pv 1) ?_
         refine zX ?_
         refine zb (zu zz (zu zz (zn (x:="give x ")) (zH (FnOk.mono (xo T) (by decide)) hr rfl T.m__law_long T.f__law_long.kp T.b__law_long .nil zU (zb (zi (i:=28)) zg))) (zn (x:=" 1"))) ?_
         refine zb (zu zz (zu zz (zn (x:="give x ")) (zH (FnOk.mono (xo T) (by decide)) hr rfl T.m__law_long T.f__law_long.kp T.b__law_long .nil zU (zb (zi (i:=28)) zg))) (zn (x:=" plus 1 1"))) ?_
         exact zg
        case d=>rfl
        case e=>first | exact .inl rfl | exact .inr rfl | assumption
       ·refine zh ?_
        exact (zD (yE yi (zu xI (pv 1) (zX (zb (zu zz (zu zz (zn (x:="say ")) (zu kA (zn (x:="plus ")) (zi (i:=1200)))) (zn (x:="1"))) zg))) (zu yQ (pv 0) (zi (i:=37))) (fun _ _=>rfl)))
theorem Vx (T:Txt K mg t):FnOk P w K mg base (CX1 P w) 6 t.a__law_line t.d__law_line ["script"] (kH K):=by
 refine T.f__law_line.ok0 sc__law_line (fun vs H Q E h=>?_) (fun cdv A outer s H vs Q E hr h=>?_)
 ·obtain ⟨a,ns,rfl,_⟩:=h;rfl
 obtain ⟨a,ns,rfl,hS,hn,q⟩:=h
 exact ⟨kM K t,(zf (zA (i:=1) sc__law_line.nd rfl (Or.inl rfl) (zH (FnOk.mono (Wg T) (by decide)) hr rfl T.m__law_lines T.f__law_lines.kp T.b__law_lines .nil zU (zb (yf wC (pv 0) (yt (zi (i:=3))) (yt (zi (i:=83)))) zg)))
  (zf (zA (i:=2) sc__law_line.nd rfl (Or.inl rfl) (zH (FnOk.mono (wE T) (by decide)) hr rfl T.m__law_cell_at T.f__law_cell_at.kp T.b__law_cell_at .nil zU (zb (pv 0) (zb (zi (i:=0)) zg))))
  (zf (zA (i:=3) sc__law_line.nd rfl (Or.inl rfl) (zH (FnOk.mono (xG T) (by decide)) hr rfl T.m__law_mixed T.f__law_mixed.kp T.b__law_mixed .nil zU (zb (zH (FnOk.mono (wE T) (by decide)) hr rfl T.m__law_cell_at T.f__law_cell_at.kp T.b__law_cell_at .nil zU (zb (pv 0) (zb (zi (i:=1)) zg))) (zb (zi (i:=6)) zg))))
  (zf (zA (i:=4) sc__law_line.nd rfl (Or.inl rfl) (zu yQ (zH (FnOk.mono (wE T) (by decide)) hr rfl T.m__law_cell_at T.f__law_cell_at.kp T.b__law_cell_at .nil zU (zb (pv 0) (zb (zi (i:=2)) zg))) (zu xH (zK zR rfl T.b_len yh (zb (pv 1) zg)) (zi (i:=1)))))
  (zf (zA (i:=5) sc__law_line.nd rfl (Or.inl rfl) (zu yQ (pv 2) (zi (i:=8))))
  (zf (zN (zt yb (pv 5) (zi (i:=6)) (zy _)) (zh (zD (zu zz (wI PySem.F.plainAttrs_str PySem.F.slot_str_join PySem.F.type_str_join Y6 (zn (x:="\n")) (zb (pv 1) zg)) (zn (x:="\n")))))
    zB)
  (zf (zN (zt yb (pv 5) (zi (i:=7)) (zy _)) (zh (zD (zu zz (zn (x:="\n")) (wI PySem.F.plainAttrs_str PySem.F.slot_str_join PySem.F.type_str_join Y6 (zn (x:="\n")) (zb (pv 1) zg)))))
    zB)
  (zf (zN (zt yb (pv 5) (zi (i:=1)) (zy _)) (zh (zA (i:=1) sc__law_line.nd rfl (Or.inl rfl) (zu xI (zu xI (yf wC (pv 1) yS (yt (pv 4))) (zX (zb (zH (FnOk.mono (Jq T) (by decide)) hr rfl T.m__law_odd T.f__law_odd.kp T.b__law_odd .nil zU (zb (pv 3) zg)) zg))) (yf wC (pv 1) (yt (pv 4)) yS))))
    zB)
  (zf (zN (zt yb (pv 5) (zi (i:=2)) (zy _)) (zh (zD (zH (FnOk.mono (qN T) (by decide)) hr rfl T.m__law_signs_turned T.f__law_signs_turned.kp T.b__law_signs_turned .nil zU (zb (wI PySem.F.plainAttrs_str PySem.F.slot_str_join PySem.F.type_str_join Y6 (zn (x:="\n")) (zb (pv 1) zg)) (zb (pv 3) zg)))))
    zB)
  (zf (zN (zt yb (pv 5) (zi (i:=3)) (zy _)) (zh (zA (i:=1) sc__law_line.nd rfl (Or.inl rfl) (zu xI (yf wC (pv 1) yS (yt (pv 4))) (yf wC (pv 1) (yt (zu xH (pv 4) (zi (i:=1)))) yS))))
    zB)
  (zf (zN (zt yb (pv 5) (zi (i:=4)) (zy _)) (zf (zA (i:=6) sc__law_line.nd rfl (Or.inl rfl) (zu Zk (zu xH (zi (i:=38)) (zu yQ (zu yZ (pv 2) (zi (i:=8))) (zi (i:=5)))) (zK zR rfl T.b_len yh (zb (pv 1) zg))))
  (zh (zA (i:=1) sc__law_line.nd rfl (Or.inl rfl) (zu xI (zu xI (yf wC (pv 1) yS (yt (pv 4))) (zu WT (zX (zb (zn (x:="say 7")) zg)) (pv 6))) (yf wC (pv 1) (yt (pv 4)) yS)))))
   zB)
  (zf (zN (zt yb (pv 5) (zi (i:=5)) (zy _)) (zf (zA (i:=7) sc__law_line.nd rfl (Or.inl rfl) (zu xH (zi (i:=1)) (zu yQ (zu yZ (pv 2) (zi (i:=8))) (zi (i:=6)))))
  (zh (zA (i:=1) sc__law_line.nd rfl (Or.inl rfl) (zu xI (zu xI (zu WT (zX (zb (zn (x:="if 1")) zg)) (pv 7)) (pv 1)) (zu WT (zX (zb (zn (x:="end")) zg)) (pv 7))))))
   zB)
  (zh (zD (wI PySem.F.plainAttrs_str PySem.F.slot_str_join PySem.F.type_str_join Y6 (zn (x:="\n")) (zb (pv 1) zg)))))))))))))))),Wf hS hn q⟩
theorem ZF (T:Txt K mg t):FnOk P w K mg base (CX1 P w) 1 t.a__law_is_numeral t.d__law_is_numeral ["word"] (wG):=by
 refine T.f__law_is_numeral.ok0 sc__law_is_numeral (fun vs H Q E h=>?_) (fun cdv A outer s H vs Q E hr h=>?_)
 ·obtain ⟨x,rfl,_⟩:=h;rfl
 obtain ⟨x,rfl,h1,q⟩:=h
 exact ⟨wH K t,(zf (zA (i:=1) sc__law_is_numeral.nd rfl (Or.inl rfl) (pv 0))
  (zf (zN (zt yb (yf ky (pv 0) yS (yt (zi (i:=1)))) (zn (x:="-")) (zy _)) (zh (zA (i:=1) sc__law_is_numeral.nd rfl (Or.inl rfl) (yf ky (pv 0) (yt (zi (i:=1))) yS)))
    zB)
  (zf (zN (PW.pt (jm (zt yb (pv 1) (zn (x:="")) (zy _)) (jm (zt Zc (zK zR rfl T.b_len yh (zb (pv 1) zg)) (zi (i:=31)) (zy _)) (ve (PW.pt (vN (zt yb (yE WQ (pv 1) (zi (i:=0)) (fun _ _=>rfl)) (zn (x:="0")) (zy _)) (jL (zt Wk (pv 0) (zn (x:="0")) (zy _))))))))) (zh (zD (ww (b:=false))))
    zB)
  (zf (qd PassesOwn.never rfl (WY (pv 1)) (wb (i:=2) sc__law_is_numeral.nd rfl (Or.inl rfl)) (zh (zN (zt ZL (pv 2) (zn (x:="0123456789")) (by with_unfolding_all rfl)) (zh (zD (ww (b:=false))))
    zB)))
  (zh (zD (zcC (xN ZK (zK zR rfl T.b_len yh (zb (pv 1) zg)) (zi (i:=31)) (zy _)) (Yf (xN yb (pv 1) (zu zz (zn (x:="1")) (zu kA (zn (x:="0")) (zi (i:=30)))) (zy _)))))))))),q9 h1 q⟩
theorem qO (T:Txt K mg t):FnOk P w K mg base (CX1 P w) 2 t.a__law_end t.d__law_end ["words","at"] (vJ):=by
 refine T.f__law_end.ok0 sc__law_end (fun vs H Q E h=>?_) (fun cdv A outer s H vs Q E hr h=>?_)
 ·obtain ⟨a,ws,k,rfl,_⟩:=h;rfl
 obtain ⟨a,ws,k,rfl,h1,h2,h3,h4,q⟩:=h
 exact ⟨qB K t,(zf (zA (i:=2) sc__law_end.nd rfl (Or.inl rfl) (zi (i:=1)))
  (zf (qd PassesOwn.never rfl (K2 rfl T.b_range (zb (pv 1) (zb (zK zR rfl T.b_len yh (zb (pv 0) zg)) zg))) (wb (i:=3) sc__law_end.nd rfl (Or.inl rfl)) (zf (zN (zt xB (yE yi (pv 0) (pv 3) (fun _ _=>rfl)) (yY (zb (zn (x:="plus")) (zb (zn (x:="minus")) (zb (zn (x:="times")) (zb (zn (x:="over")) (zb (zn (x:="rest")) (zb (zn (x:="under")) (zb (zn (x:="same")) zg)))))))) (by with_unfolding_all rfl)) (zh (WM (i:=2) sc__law_end.nd rfl (Or.inl rfl) (zi (i:=1)) Ju))
    (zh (zN (PW.pt (jm (xw (zH (FnOk.mono (wD T) (by decide)) hr rfl T.m__law_is_name T.f__law_is_name.kp T.b__law_is_name .nil zU (zb (yE yi (pv 0) (pv 3) (fun _ _=>rfl)) zg))) (ve (xw (zH (FnOk.mono (ZF T) (by decide)) hr rfl T.m__law_is_numeral T.f__law_is_numeral.kp T.b__law_is_numeral .nil zU (zb (yE yi (pv 0) (pv 3) (fun _ _=>rfl)) zg)))))) (zh (WM (i:=2) sc__law_end.nd rfl (Or.inl rfl) (zi (i:=1)) zbV))
    (zh (zD (jo wF (zi (i:=1))))))))
  (zh (zN (zt yb (pv 2) (zi (i:=0)) (zy _)) (zh (zD (zu xH (pv 3) (zi (i:=1)))))
    zB))))
  (zh (zD (jo wF (zi (i:=1))))))),Vq h1 h2 h3 h4 q⟩
theorem Vy (T:Txt K mg t):FnOk P w K mg base (CX1 P w) 3 t.a__law_form t.d__law_form ["words"] (kI):=by
 refine T.f__law_form.ok0 sc__law_form (fun vs H Q E h=>?_) (fun cdv A outer s H vs Q E hr h=>?_)
 ·obtain ⟨a,ws,rfl,_⟩:=h;rfl
 obtain ⟨a,ws,rfl,h1,h2,h3,h4,q⟩:=h
 exact ⟨kN K t,(zf (zN (zt xB (yE yi (pv 0) (zi (i:=0)) (fun _ _=>rfl)) (yY (zb (zn (x:="say")) (zb (zn (x:="off")) (zb (zn (x:="if")) zg)))) (by with_unfolding_all rfl)) (zh (zD (xN yb (zH (FnOk.mono (qO T) (by decide)) hr rfl T.m__law_end T.f__law_end.kp T.b__law_end .nil zU (zb (pv 0) (zb (zi (i:=1)) zg))) (zK zR rfl T.b_len yh (zb (pv 0) zg)) (zy _))))
   zB)
  (zf (zN (PW.pt (jm (zt WS (yE yi (pv 0) (zi (i:=0)) (fun _ _=>rfl)) (yY (zb (zn (x:="take")) (zb (zn (x:="give")) (zb (zn (x:="let")) zg)))) (by with_unfolding_all rfl)) (jm (zt ZK (zK zR rfl T.b_len yh (zb (pv 0) zg)) (zi (i:=2)) (zy _)) (ve (kq (xw (zH (FnOk.mono (wD T) (by decide)) hr rfl T.m__law_is_name T.f__law_is_name.kp T.b__law_is_name .nil zU (zb (yE yi (pv 0) (zi (i:=1)) (fun _ _=>rfl)) zg)))))))) (zh (zD (ww (b:=false))))
    zB)
  (zf (zA (i:=1) sc__law_form.nd rfl (Or.inl rfl) (zH (FnOk.mono (qO T) (by decide)) hr rfl T.m__law_end T.f__law_end.kp T.b__law_end .nil zU (zb (pv 0) (zb (zi (i:=2)) zg))))
  (zf (zN (zt yb (yE yi (pv 0) (zi (i:=0)) (fun _ _=>rfl)) (zn (x:="let")) (zy _)) (zh (zD (xN yb (pv 1) (zK zR rfl T.b_len yh (zb (pv 0) zg)) (zy _))))
    zB)
  (zf (zN (PW.pt (jm (zt ZK (pv 1) (zi (i:=0)) (zy _)) (ve (zt Kp (pv 1) (zK zR rfl T.b_len yh (zb (pv 0) zg)) (zy _))))) (zh (zD (ww (b:=false))))
    zB)
  (zf (zN (zt yb (yE yi (pv 0) (zi (i:=0)) (fun _ _=>rfl)) (zn (x:="give")) (zy _)) (zh (zD (xN yb (zH (FnOk.mono (qO T) (by decide)) hr rfl T.m__law_end T.f__law_end.kp T.b__law_end .nil zU (zb (pv 0) (zb (pv 1) zg))) (zK zR rfl T.b_len yh (zb (pv 0) zg)) (zy _))))
    zB)
  (zh (zD (Zi (xN yb (yE yi (pv 0) (pv 1) (fun _ _=>rfl)) (zn (x:="as")) (zy _)) (Zi (xN yb (zK zR rfl T.b_len yh (zb (pv 0) zg)) (zu xH (pv 1) (zi (i:=2))) (zy _)) (Yf (zH (FnOk.mono (wD T) (by decide)) hr rfl T.m__law_is_name T.f__law_is_name.kp T.b__law_is_name .nil zU (zb (yE yi (pv 0) (zu xH (pv 1) (zi (i:=1))) (fun _ _=>rfl)) zg))))))))))))),Wb h1 h2 h3 h4 q⟩
theorem XZ (T:Txt K mg t):FnOk P w K mg base (CX1 P w) 4 t.a__law_judged t.d__law_judged ["lines"] (jy):=by
 refine T.f__law_judged.ok0 sc__law_judged (fun vs H Q E h=>?_) (fun cdv A outer s H vs Q E hr h=>?_)
 ·obtain ⟨a,ls,rfl,_⟩:=h;rfl
 obtain ⟨a,ls,rfl,h1,h2,h3,q⟩:=h
 exact ⟨jF K t,(zf (zA (i:=1) sc__law_judged.nd rfl (Or.inl rfl) (zX zg))
  (zf (zA (i:=2) sc__law_judged.nd rfl (Or.inl rfl) (zi (i:=0)))
  (zf (qd PassesOwn.never rfl (Wj rfl T.b_range (zb (zK zR rfl T.b_len yh (zb (pv 0) zg)) zg)) (wb (i:=3) sc__law_judged.nd rfl (Or.inl rfl)) (zf (zA (i:=4) sc__law_judged.nd rfl (Or.inl rfl) (wI PySem.F.plainAttrs_str PySem.F.slot_str_split PySem.F.type_str_split Z4 (yE yi (pv 0) (pv 3) (fun _ _=>rfl)) (zb (zn (x:=" ")) zg)))
  (zf (zN (PW.pt (jm (zt yb (pv 3) (zi (i:=40)) (zy _)) (ve (zt Zc (zK zR rfl T.b_len yh (zb (pv 4) zg)) (zi (i:=60)) (zy _))))) (zh (zD (yY (zb (pv 3) (zb (pv 2) zg)))))
    zB)
  (zh (zN (PW.pt (vN (zt (JN (Yn hr)) (pv 4) (zX (zb (zn (x:="else")) zg)) (zy _)) (vN (zt (kg (Yn hr)) (pv 1) (zX zg) (zy _)) (jL (kq (xw (yE yi (pv 1) (jo wF (zi (i:=1))) (fun _ _=>rfl)))))))) (zh (zA (i:=1) sc__law_judged.nd rfl (Or.inl rfl) (zu xI (yf wC (pv 1) yS (yt (jo wF (zi (i:=1))))) (zX (zb (ww (b:=true)) zg)))))
    (zh (zN (PW.pt (vN (zt (JN (Yn hr)) (pv 4) (zX (zb (zn (x:="end")) zg)) (zy _)) (jL (zt (kg (Yn hr)) (pv 1) (zX zg) (zy _))))) (zh (zA (i:=1) sc__law_judged.nd rfl (Or.inl rfl) (yf wC (pv 1) yS (yt (jo wF (zi (i:=1)))))))
    (zh (zN (PW.pt (jm (zt (zaw (Yn hr)) (pv 4) (yY (zb (zX (zb (zn (x:="else")) zg)) (zb (zX (zb (zn (x:="end")) zg)) zg))) (by with_unfolding_all rfl)) (ve (kq (xw (zH (FnOk.mono (Vy T) (by decide)) hr rfl T.m__law_form T.f__law_form.kp T.b__law_form .nil zU (zb (pv 4) zg))))))) (zh (zD (yY (zb (pv 3) (zb (pv 2) zg)))))
    (zh (zN (PW.pt (vN (zt yb (yE yi (pv 4) (zi (i:=0)) (fun _ _=>rfl)) (zn (x:="if")) (zy _)) (jL (zt yb (zK zR rfl T.b_len yh (zb (pv 1) zg)) (zi (i:=5)) (zy _))))) (zh (zD (yY (zb (pv 3) (zb (pv 2) zg)))))
    (zf (WM (i:=2) sc__law_judged.nd rfl (Or.inl rfl) (jb VX rfl T.b_int Xo (zb (xN (ZW (Yn hr)) (pv 1) (zX zg) (zy _)) zg)) Ju)
  (zh (zN (zt yb (yE yi (pv 4) (zi (i:=0)) (fun _ _=>rfl)) (zn (x:="if")) (zy _)) (zh (zA (i:=1) sc__law_judged.nd rfl (Or.inl rfl) (zu xI (pv 1) (zX (zb (ww (b:=false)) zg)))))
    zB))))))))))))))
  (zf (zN (zt (kg (Yn hr)) (pv 1) (zX zg) (zy _)) (zh (zD (yY (zb (zK zR rfl T.b_len yh (zb (pv 0) zg)) (zb (pv 2) zg)))))
    zB)
  (zh (zD (yY (zb (jo wF (zi (i:=1))) (zb (pv 2) zg))))))))),YY h1 h2 h3 q⟩
theorem YZ (T:Txt K mg t):FnOk P w K mg base (CX1 P w) 1 t.a_Reading_init t.d_Reading_init ["self"] (vQ t):=by
 refine T.f_Reading_init.ok0 YW (fun vs H Q E h=>?_) (fun cdv A outer s H vs Q E hr h=>?_)
 ·obtain ⟨x,dx,rfl,_⟩:=h;rfl
 obtain ⟨x,dx,rfl,h1,q⟩:=h
 exact ⟨v4 K t,(zf (Zm (f:="rows") (pv 0) (zX zg) rfl)
  (zf (Zm (f:="blocks") (pv 0) (zX zg) rfl)
  (zh (Zm (f:="turned") (pv 0) (zX zg) rfl)))),YD (rdF T) h1 q⟩
theorem ZG (T:Txt K mg t):FnM P w K mg base 1 t.a_NoDealing_init t.d_NoDealing_init ["self","row"] (jS t):=by
 refine T.f_NoDealing_init.okM jR (fun vs H Q E h=>?_) (fun cdv A hA outer s H vs Q hr h=>?_)
 ·obtain ⟨x,y,rfl,_⟩:=h;rfl
 obtain ⟨x,y,rfl,h1,q⟩:=h
 exact ⟨xO K t,(zh (KG T.es_NoDealing T.nx_NoDealing (pv 0) (pv 1) rfl)),jI h1 q⟩
theorem zV (T:Txt K mg t):FnOk P w K mg base (CX1 P w) 1 t.a_NoDealing_init t.d_NoDealing_init ["self","row"] (jS t):=by
 refine T.f_NoDealing_init.ok0 jR (fun vs H Q E h=>?_) (fun cdv A outer s H vs Q E hr h=>?_)
 ·obtain ⟨x,y,rfl,_⟩:=h;rfl
 obtain ⟨x,y,rfl,h1,q⟩:=h
 exact ⟨xO K t,(zh (KG T.es_NoDealing T.nx_NoDealing (pv 0) (pv 1) rfl)),jI h1 q⟩
theorem YI (T:Txt K mg t):FnOk P w K mg base (CX1 P w) 3 t.a_Reading_turns t.d_Reading_turns ["self","number"] (vo t):=by
 refine T.f_Reading_turns.ok1 Ys (fun vs H Q E h=>?_) (fun cdv A outer s H vs Q E hr h=>?_)
 ·obtain ⟨x,n,dx,rl,bl,tl,blocks,turned,rfl,_⟩:=h;rfl
 obtain ⟨x,n,dx,rl,bl,tl,blocks,turned,rfl,h1,h2⟩:=h
 exact ⟨vz K t E,(zf (zN (PW.pt (jm (zt (ZW (Yn hr)) (yo (f:="blocks") (pv 0) rfl) (zX zg) (zy _)) (ve (xw (yE yi (yo (f:="turned") (pv 0) rfl) (jo wF (zi (i:=1))) (fun _ _=>rfl)))))) (zh (xD rfl T.xi_NoDealing T.xk_NoDealing T.xf_NoDealing (FnOk.mono (zV T) (by decide)) hr T.b_NoDealing_init xQ rfl T.g_NoDealing (zb (pv 1) zg)))
   zB)
  (zh (zbo (yo (f:="turned") (pv 0) rfl) (jo wF (zi (i:=1))) (ww (b:=true)) rfl))),Yc (rdF T) h1 h2⟩
theorem YJ (T:Txt K mg t):FnOk P w K mg base (CX1 P w) 3 t.a_Reading_shuts t.d_Reading_shuts ["self","number"] (vp t):=by
 refine T.f_Reading_shuts.ok1 Yt (fun vs H Q E h=>?_) (fun cdv A outer s H vs Q E hr h=>?_)
 ·obtain ⟨x,n,dx,rl,bl,tl,blocks,turned,rfl,_⟩:=h;rfl
 obtain ⟨x,n,dx,rl,bl,tl,blocks,turned,rfl,h1,h2⟩:=h
 exact ⟨vA K t E,(zf (zN (zt (ZW (Yn hr)) (yo (f:="blocks") (pv 0) rfl) (zX zg) (zy _)) (zh (xD rfl T.xi_NoDealing T.xk_NoDealing T.xf_NoDealing (FnOk.mono (zV T) (by decide)) hr T.b_NoDealing_init xQ rfl T.g_NoDealing (zb (pv 1) zg)))
   zB)
  (zf (yP (Xl PySem.F.plainAttrs_list PySem.F.slot_list_pop PySem.F.type_list_pop Xm (yo (f:="blocks") (pv 0) rfl)))
  (zh (yP (Xl PySem.F.plainAttrs_list PySem.F.slot_list_pop PySem.F.type_list_pop Xm (yo (f:="turned") (pv 0) rfl)))))),Yb (rdF T) h1 h2⟩
theorem vM (T:Txt K mg t):FnOk P w K mg base (CX1 P w) 1 t.a_Reading_innermost t.d_Reading_innermost ["self"] (yI t):=by
 refine T.f_Reading_innermost.ok0 qm (fun vs H Q E h=>?_) (fun cdv A outer s H vs Q E hr h=>?_)
 ·obtain ⟨x,dx,rl,bl,tl,blocks,turned,inn,rfl,_⟩:=h;rfl
 obtain ⟨x,dx,rl,bl,tl,blocks,turned,inn,rfl,h1,h2,q⟩:=h
 exact ⟨xW K t,(zf (zN (zt (ZW (Yn hr)) (yo (f:="blocks") (pv 0) rfl) (zX zg) (zy _)) (zh (zD (yo (f:="rows") (pv 0) rfl)))
   zB)
  (zh (zD (ZH (xw (yE yi (yo (f:="turned") (pv 0) rfl) (jo wF (zi (i:=1))) (fun _ _=>rfl))) (yE Zo (yE yi (yo (f:="blocks") (pv 0) rfl) (jo wF (zi (i:=1))) (fun _ _=>rfl)) (zi (i:=3)) (fun _ _=>rfl)) (yE Zo (yE yi (yo (f:="blocks") (pv 0) rfl) (jo wF (zi (i:=1))) (fun _ _=>rfl)) (zi (i:=2)) (fun _ _=>rfl)))))),k8 (rdF T) h1 h2 q⟩
theorem Ye (T:Txt K mg t):FnOk P w K mg base (CX1 P w) 3 t.a_Reading_begins t.d_Reading_begins ["self","row","number"] (wZ t):=by
 refine T.f_Reading_begins.ok1 Z8 (fun vs H Q E h=>?_) (fun cdv A outer s H vs Q E hr h=>?_)
 ·obtain ⟨x,v,n,dx,rl,bl,tl,blocks,turned,inn,zs,rfl,_⟩:=h;rfl
 obtain ⟨x,v,n,dx,rl,bl,tl,blocks,turned,inn,zs,rfl,h1,h2,h3,h4,h5,h6,h7⟩:=h
 exact ⟨w6 K t E,(zf (zN (zt yb (zK zR rfl T.b_len yh (zb (yo (f:="blocks") (pv 0) rfl) zg)) (yF rfl T.g_MOST_BLOCKS ⟨_,rfl⟩) (zy _)) (zh (xD rfl T.xi_NoDealing T.xk_NoDealing T.xf_NoDealing (FnOk.mono (zV T) (by decide)) hr T.b_NoDealing_init xQ rfl T.g_NoDealing (zb (pv 2) zg)))
   zB)
  (zf (yP (wI PySem.F.plainAttrs_list PySem.F.slot_list_append PySem.F.type_list_append xc (yH (pv 0) T.cl_Reading T.me_Reading_innermost (FnOk.mono (vM T) (by decide)) hr T.b_Reading_innermost .nil yN) (zb (pv 1) zg)))
  (zf (yP (wI PySem.F.plainAttrs_list PySem.F.slot_list_append PySem.F.type_list_append xc (yo (f:="blocks") (pv 0) rfl) (zb (pv 1) zg)))
  (zh (yP (wI PySem.F.plainAttrs_list PySem.F.slot_list_append PySem.F.type_list_append xc (yo (f:="turned") (pv 0) rfl) (zb (ww (b:=false)) zg))))))),ZC (rdF T) h1 h2 h3 h4 h5 h6 h7⟩
theorem YK (T:Txt K mg t):FnOk P w K mg base (CX1 P w) 4 t.a_Reading_reads t.d_Reading_reads ["self","row","number"] (vq t):=by
 refine T.f_Reading_reads.ok1 Yu (fun vs H Q E h=>?_) (fun cdv A outer s H vs Q E hr h=>?_)
 ·obtain ⟨x,v,n,dx,rl,bl,tl,blocks,turned,hd,F,rfl,_⟩:=h;rfl
 obtain ⟨x,v,n,dx,rl,bl,tl,blocks,turned,hd,F,rfl,h1,h2,h3⟩:=h
 exact ⟨vB K t E,(zh (zN (zt yb (yE Zo (pv 1) (zi (i:=0)) (fun _ _=>rfl)) (zn (x:="else")) (zy _)) (zh (yP (Y3 (pv 0) T.cl_Reading T.me_Reading_turns (FnOk.mono (YI T) (by decide)) hr T.b_Reading_turns .nil yN (zb (pv 2) zg))))
   (zh (zN (zt yb (yE Zo (pv 1) (zi (i:=0)) (fun _ _=>rfl)) (zn (x:="end")) (zy _)) (zh (yP (Y3 (pv 0) T.cl_Reading T.me_Reading_shuts (FnOk.mono (YJ T) (by decide)) hr T.b_Reading_shuts .nil yN (zb (pv 2) zg))))
   (zh (zN (zt yb (yE Zo (pv 1) (zi (i:=0)) (fun _ _=>rfl)) (zn (x:="if")) (zy _)) (zh (yP (Y3 (pv 0) T.cl_Reading T.me_Reading_begins (FnOk.mono (Ye T) (by decide)) hr T.b_Reading_begins .nil yN (zb (pv 1) (zb (pv 2) zg)))))
   (zh (yP (wI PySem.F.plainAttrs_list PySem.F.slot_list_append PySem.F.type_list_append xc (yH (pv 0) T.cl_Reading T.me_Reading_innermost (FnOk.mono (vM T) (by decide)) hr T.b_Reading_innermost .nil yN) (zb (pv 1) zg)))))))))),Yd h1 h2 h3⟩
theorem YL (T:Txt K mg t):FnOk P w K mg base (CX1 P w) 1 t.a_RowWords_init t.d_RowWords_init ["self","words","number"] (vn t):=by
 refine T.f_RowWords_init.ok0 Yv (fun vs H Q E h=>?_) (fun cdv A outer s H vs Q E hr h=>?_)
 ·obtain ⟨x,wa,n,dx,ws,rfl,_⟩:=h;rfl
 obtain ⟨x,wa,n,dx,ws,rfl,h1,h2,q⟩:=h
 exact ⟨vC K t,(zf (Zm (f:="words") (pv 0) (pv 1) rfl)
  (zf (Zm (f:="number") (pv 0) (pv 2) rfl)
  (zh (Zm (f:="at") (pv 0) (zi (i:=0)) rfl)))),Ya (wrF T) h1 h2 q⟩
theorem xM (T:Txt K mg t):FnOk P w K mg base (CX1 P w) 3 t.a_RowWords_draw_word t.d_RowWords_draw_word ["self"] (z6 t):=by
 refine T.f_RowWords_draw_word.ok1 sc_RowWords_draw_word (fun vs H Q E h=>?_) (fun cdv A outer s H vs Q E hr h=>?_)
 ·obtain ⟨x,dx,wa,ws,n,k,rfl,_⟩:=h;rfl
 obtain ⟨x,dx,wa,ws,n,k,rfl,h1,h2,q⟩:=h
 exact ⟨xJ K t E,(zf (zN (zt yb (yo (f:="at") (pv 0) rfl) (zK zR rfl T.b_len yh (zb (yo (f:="words") (pv 0) rfl) zg)) (zy _)) (zh (xD rfl T.xi_NoDealing T.xk_NoDealing T.xf_NoDealing (FnOk.mono (zV T) (by decide)) hr T.b_NoDealing_init xQ rfl T.g_NoDealing (zb (yo (f:="number") (pv 0) rfl) zg)))
   zB)
  (zf (zA (i:=1) sc_RowWords_draw_word.nd rfl (Or.inl rfl) (yE yi (yo (f:="words") (pv 0) rfl) (yo (f:="at") (pv 0) rfl) (fun _ _=>rfl)))
  (zf (K4 (f:="at") (pv 0) (zi (i:=1)) zbX)
  (zh (zD (pv 1)))))),kQ (wrF T) h1 h2 q⟩
theorem X0 (T:Txt K mg t):FnOk P w K mg base (CX1 P w) 1 t.a_is_name t.d_is_name ["text"] (ju):=by
 refine T.f_is_name.ok0 J6 (fun vs H Q E h=>?_) (fun cdv A outer s H vs Q E hr h=>?_)
 ·obtain ⟨x,rfl,_⟩:=h;rfl
 obtain ⟨x,rfl,hx,q⟩:=h
 exact ⟨Zy K t,(zf (zN (PW.pt (jm (zt yb (pv 0) (zn (x:="")) (zy _)) (ve (zt Zc (zK zR rfl T.b_len yh (zb (pv 0) zg)) (yF rfl T.g_MOST_LETTERS ⟨_,rfl⟩) (zy _))))) (zh (zD (ww (b:=false))))
   zB)
  (zf (zN (PW.pt (jm (zt xB (pv 0) (yF rfl T.g_JOINING rfl) (by with_unfolding_all rfl)) (ve (zt xB (pv 0) (yF rfl T.g_ROW_WORDS rfl) (by with_unfolding_all rfl))))) (zh (zD (ww (b:=false))))
    zB)
  (zh (zD (zK (Wy rfl) rfl T.b_all QR (zb (Ku rfl (osc:=zm vj) (N:=["text"]) (xs:=["sign"]) (ix:=[]) (by decide +kernel) (WY (pv 0)) (fun _ _ _ _=>(wb (i:=0) (show List.Nodup (["sign"]:List Str) from (by decide +kernel)) rfl (Or.inl rfl) (.inr rfl))) (fun _ _ _ _=>Kt) (fun _ _ _ _=>(xN Wl (pv 0) (yF rfl T.g_LETTERS ⟨_,rfl⟩) (by with_unfolding_all rfl)))) zg)))))),Jh hx T.v_JOINING T.v_ROW_WORDS q⟩
theorem y7 (T:Txt K mg t):FnOk P w K mg base (CX1 P w) 4 t.a_RowWords_draw_name t.d_RowWords_draw_name ["self"] (z7 t):=by
 refine T.f_RowWords_draw_name.ok1 sc_RowWords_draw_name (fun vs H Q E h=>?_) (fun cdv A outer s H vs Q E hr h=>?_)
 ·obtain ⟨x,dx,wa,ws,n,k,rfl,_⟩:=h;rfl
 obtain ⟨x,dx,wa,ws,n,k,rfl,h1,h2,h3,q⟩:=h
 exact ⟨xK K t E,(zf (zA (i:=1) sc_RowWords_draw_name.nd rfl (Or.inl rfl) (yH (pv 0) T.cl_RowWords T.me_RowWords_draw_word (FnOk.mono (xM T) (by decide)) hr T.b_RowWords_draw_word .nil yN))
  (zf (zN (kq (xw (zH (FnOk.mono (X0 T) (by decide)) hr rfl T.m_is_name T.f_is_name.kp T.b_is_name .nil yN (zb (pv 1) zg)))) (zh (xD rfl T.xi_NoDealing T.xk_NoDealing T.xf_NoDealing (FnOk.mono (zV T) (by decide)) hr T.b_NoDealing_init xQ rfl T.g_NoDealing (zb (yo (f:="number") (pv 0) rfl) zg)))
    zB)
  (zh (zD (pv 1))))),kR (wrF T) h1 h2 h3 q⟩
theorem X1 (T:Txt K mg t):FnOk P w K mg base (CX1 P w) 1 t.a_behind_term t.d_behind_term ["words","at"] (jv t):=by
 refine T.f_behind_term.ok1 sc_behind_term (fun vs H Q E h=>?_) (fun cdv A outer s H vs Q E hr h=>?_)
 ·obtain ⟨a,ws,k,rfl,_⟩:=h;rfl
 obtain ⟨a,ws,k,rfl,h1,h2,q⟩:=h
 exact ⟨jG K t E,(zf (zA (i:=2) sc_behind_term.nd rfl (Or.inl rfl) (zi (i:=1)))
  (zf (zA (i:=3) sc_behind_term.nd rfl (Or.inl rfl) (pv 1))
  (zf (QA zb4 (zt Zc (pv 2) (zi (i:=0)) (zy _)) (zf (zN (zt Kp (pv 3) (zK zR rfl T.b_len yh (zb (pv 0) zg)) (zy _)) (zh (ZU rfl T.x_NoTerm Y5 rfl T.g_NoTerm (zb (zn (x:="the words end ahead of the term's end")) zg)))
    zB)
  (zf (zN (zt yb (zu Zk (pv 3) (pv 1)) (yF rfl T.g_MOST_WORDS_terms ⟨_,rfl⟩) (zy _)) (zh (ZU rfl T.x_NoTerm Y5 rfl T.g_NoTerm (zb (zn (x:="a term of more than sixty words")) zg)))
    zB)
  (zf (zA (i:=2) sc_behind_term.nd rfl (Or.inl rfl) (ZH (zt xB (yE yi (pv 0) (pv 3) (fun _ _=>rfl)) (yF rfl T.g_JOINING rfl) (by with_unfolding_all rfl)) (zu xH (pv 2) (zi (i:=1))) (zu Zk (pv 2) (zi (i:=1)))))
  (zh (WM (i:=3) sc_behind_term.nd rfl (Or.inl rfl) (zi (i:=1)) Ju))))))
  (zh (zD (pv 3)))))),YX T.v_JOINING h1 h2 q⟩
theorem Jr (T:Txt K mg t):FnOk P w K mg base (CX1 P w) 1 t.a_is_worth t.d_is_worth ["thing"] (qp K):=by
 refine T.f_is_worth.ok0 V8 (fun vs H Q E h=>?_) (fun cdv A outer s H vs Q E hr h=>?_)
 ·obtain ⟨x,rfl,_⟩:=h;rfl
 obtain ⟨x,rfl,h⟩:=h
 exact ⟨qG K t,(zf (zN (PW.pt (jm (kq (xw (zK qg rfl T.b_isinstance xp (zb (pv 0) (zb (qQ rfl T.b_int Xo rfl) zg))))) (ve (xw (zK qg rfl T.b_isinstance xp (zb (pv 0) (zb (qQ rfl T.b_bool Kv rfl) zg))))))) (zh (zD (ww (b:=false))))
   zB)
  (zh (zD (VE Ko Ko (jo wF (zu Xd (zi (i:=10)) (zi (i:=30)))) (pv 0) (zu Xd (zi (i:=10)) (zi (i:=30))))))),Vh (kf K).i_b h⟩
theorem Wh (T:Txt K mg t):FnOk P w K mg base (CX1 P w) 1 t.a_is_figures t.d_is_figures ["text"] (jX):=by
 refine T.f_is_figures.ok0 X8 (fun vs H Q E h=>?_) (fun cdv A outer s H vs Q E hr h=>?_)
 ·obtain ⟨x,rfl,_⟩:=h;rfl
 obtain ⟨x,rfl,hx,q⟩:=h
 exact ⟨j7 K t,(zh (zD (Zi (xN Wk (pv 0) (zn (x:="")) (zy _)) (Yf (zK (Wy rfl) rfl T.b_all QR (zb (Ku rfl (osc:=zm xy) (N:=["text"]) (xs:=["sign"]) (ix:=[]) (by decide +kernel) (WY (pv 0)) (fun _ _ _ _=>(wb (i:=0) (show List.Nodup (["sign"]:List Str) from (by decide +kernel)) rfl (Or.inl rfl) (.inr rfl))) (fun _ _ _ _=>Kt) (fun _ _ _ _=>(xN Wl (pv 0) (yF rfl T.g_FIGURES ⟨_,rfl⟩) (by with_unfolding_all rfl)))) zg)))))),XB hx q⟩
theorem Kf (T:Txt K mg t):FnOk P w K mg base (CX1 P w) 1 t.a_numeral t.d_numeral ["worth"] (Zw):=by
 refine T.f_numeral.ok0 J7 (fun vs H Q E h=>?_) (fun cdv A outer s H vs Q E hr h=>?_)
 ·obtain ⟨w,rfl,_⟩:=h;rfl
 obtain ⟨w,rfl,hw,q⟩:=h
 exact ⟨Zz K t,(zh (zD (jb kt rfl T.b_str JG (zb (pv 0) zg)))),Jf hw q⟩
theorem Zg (T:Txt K mg t):FnOk P w K mg base (CX1 P w) 2 t.a_is_numeral t.d_is_numeral ["text"] (wz):=by
 refine T.f_is_numeral.ok0 sc_is_numeral (fun vs H Q E h=>?_) (fun cdv A outer s H vs Q E hr h=>?_)
 ·obtain ⟨x,rfl,_⟩:=h;rfl
 obtain ⟨x,rfl,hx,q⟩:=h
 exact ⟨j8 K t,(zf (zA (i:=1) sc_is_numeral.nd rfl (Or.inl rfl) (ZH (xw (wI PySem.F.plainAttrs_str PySem.F.slot_str_startswith PySem.F.type_str_startswith X5 (pv 0) (zb (zn (x:="-")) zg))) (yf ky (pv 0) (yt (zi (i:=1))) yS) (pv 0)))
  (zf (zN (PW.pt (jm (zt Zc (zK zR rfl T.b_len yh (zb (pv 1) zg)) (yF rfl T.g_MOST_FIGURES ⟨_,rfl⟩) (zy _)) (ve (kq (xw (zH (FnOk.mono (Wh T) (by decide)) hr rfl T.m_is_figures T.f_is_figures.kp T.b_is_figures .nil zU (zb (pv 1) zg))))))) (zh (zD (ww (b:=false))))
    zB)
  (zf (zA (i:=2) sc_is_numeral.nd rfl (Or.inl rfl) (jb ZT rfl T.b_int Xo (zb (pv 0) zg)))
  (zh (zD (Zi (zH (FnOk.mono (Jr T) (by decide)) hr rfl T.m_is_worth T.f_is_worth.kp T.b_is_worth .nil zU (zb (pv 2) zg)) (Yf (xN yb (zH (FnOk.mono (Kf T) (by decide)) hr rfl T.m_numeral T.f_numeral.kp T.b_numeral .nil zU (zb (pv 2) zg)) (pv 0) (zy _))))))))),XC hx q⟩
theorem Js (T:Txt K mg t):FnOk P w K mg base (CX1 P w) 3 t.a_worth_in t.d_worth_in ["text"] (qq t):=by
 refine T.f_worth_in.ok1 V9 (fun vs H Q E h=>?_) (fun cdv A outer s H vs Q E hr h=>?_)
 ·obtain ⟨x,rfl,_⟩:=h;rfl
 obtain ⟨x,rfl,hx,ha,q⟩:=h
 exact ⟨qH K t E,(zf (zN (kq (xw (zH (FnOk.mono (Zg T) (by decide)) hr rfl T.m_is_numeral T.f_is_numeral.kp T.b_is_numeral .nil yN (zb (pv 0) zg)))) (zh (ZU rfl T.x_NoNumber Y5 rfl T.g_NoNumber (zb (Kx (pv 0)) zg)))
   zB)
  (zh (zD (jb ZT rfl T.b_int Xo (zb (pv 0) zg))))),Vj hx ha q⟩
theorem Kg (T:Txt K mg t):FnOk P w K mg base (CX1 P w) 4 t.a_part_in t.d_part_in ["word"] (Zx t):=by
 refine T.f_part_in.ok1 J8 (fun vs H Q E h=>?_) (fun cdv A outer s H vs Q E hr h=>?_)
 ·obtain ⟨x,rfl,_⟩:=h;rfl
 obtain ⟨x,rfl,hx,ha,q⟩:=h
 exact ⟨ZA K t E,(zf (zN (xw (zH (FnOk.mono (X0 T) (by decide)) hr rfl T.m_is_name T.f_is_name.kp T.b_is_name .nil yN (zb (pv 0) zg))) (zh (zD (pv 0)))
   zB)
  (zf (zN (xw (zH (FnOk.mono (Zg T) (by decide)) hr rfl T.m_is_numeral T.f_is_numeral.kp T.b_is_numeral .nil yN (zb (pv 0) zg))) (zh (zD (zH (FnOk.mono (Js T) (by decide)) hr rfl T.m_worth_in T.f_worth_in.kp T.b_worth_in .nil yN (zb (pv 0) zg))))
    zB)
  (zh (ZU rfl T.x_NoTerm Y5 rfl T.g_NoTerm (zb (Kx (pv 0)) zg))))),Ji hx ha q⟩
theorem Vz (T:Txt K mg t):FnOk P w K mg base (CX1 P w) 5 t.a_term_from t.d_term_from ["words","at"] (kF t):=by
 refine T.f_term_from.ok1 sc_term_from (fun vs H Q E h=>?_) (fun cdv A outer s H vs Q E hr h=>?_)
 ·obtain ⟨a,ws,k,rfl,_⟩:=h;rfl
 obtain ⟨a,ws,k,rfl,h1,h2,h3,q⟩:=h
 exact ⟨kO K t E,(zf (zA (i:=2) sc_term_from.nd rfl (Or.inl rfl) (zH (FnOk.mono (X1 T) (by decide)) hr rfl T.m_behind_term T.f_behind_term.kp T.b_behind_term .nil yN (zb (pv 0) (zb (pv 1) zg))))
  (zf (zA (i:=3) sc_term_from.nd rfl (Or.inl rfl) (zX zg))
  (zf (qd zb4 rfl (zcc rfl T.b_reversed (zb (yf wC (pv 0) (yt (pv 1)) (yt (pv 2))) zg)) (wb (i:=4) sc_term_from.nd rfl (Or.inl rfl)) (zh (zN (zt xB (pv 4) (yF rfl T.g_JOINING rfl) (by with_unfolding_all rfl)) (zf (zA (i:=5) sc_term_from.nd rfl (Or.inl rfl) (Xl PySem.F.plainAttrs_list PySem.F.slot_list_pop PySem.F.type_list_pop Xm (pv 3)))
  (zf (zA (i:=6) sc_term_from.nd rfl (Or.inl rfl) (Xl PySem.F.plainAttrs_list PySem.F.slot_list_pop PySem.F.type_list_pop Xm (pv 3)))
  (zh (yP (wI PySem.F.plainAttrs_list PySem.F.slot_list_append PySem.F.type_list_append xc (pv 3) (zb (zu Kq (zu Kq (pv 5) (pv 6)) (yY (zb (pv 4) zg))) zg))))))
   (zh (yP (wI PySem.F.plainAttrs_list PySem.F.slot_list_append PySem.F.type_list_append xc (pv 3) (zb (yY (zb (zH (FnOk.mono (Kg T) (by decide)) hr rfl T.m_part_in T.f_part_in.kp T.b_part_in .nil yN (zb (pv 4) zg)) zg)) zg)))))))
  (zh (zD (yY (zb (Xl PySem.F.plainAttrs_list PySem.F.slot_list_pop PySem.F.type_list_pop Xm (pv 3)) (zb (pv 2) zg)))))))),X9 T.v_JOINING h1 h2 h3 q⟩
theorem yd (T:Txt K mg t):FnOk P w K mg base (CX1 P w) 6 t.a_RowWords_draw_term t.d_RowWords_draw_term ["self"] (zT t):=by
 refine T.f_RowWords_draw_term.ok1 sc_RowWords_draw_term (fun vs H Q E h=>?_) (fun cdv A outer s H vs Q E hr h=>?_)
 ·obtain ⟨x,dx,wa,ws,n,k,rfl,_⟩:=h;rfl
 obtain ⟨x,dx,wa,ws,n,k,rfl,h1,h2,h3,q⟩:=h
 exact ⟨xL K t E,(zf (zbt (And.intro rfl rfl) rfl (zaC (i:=1) sc_RowWords_draw_term.nd rfl (Or.inl rfl) (WD (FnOk.mono (Vz T) (by decide)) hr rfl T.m_term_from T.f_term_from.kp T.b_term_from (zb (yo (f:="words") (pv 0) rfl) (zb (yo (f:="at") (pv 0) rfl) zg)))) rfl T.g_NoTerm T.xi_NoDealing T.xk_NoDealing T.xf_NoDealing (FnM.mono (ZG T) (by decide)) hr T.b_NoDealing_init xQ zdr rfl T.g_NoDealing (fun _=>(zb (yo (f:="number") (pv 0) rfl) zg)))
  (zf (Zm (f:="at") (pv 0) (yE Zo (pv 1) (zi (i:=1)) (fun _ _=>rfl)) rfl)
  (zh (zD (yE Zo (pv 1) (zi (i:=0)) (fun _ _=>rfl)))))),kS (wrF T) T.e_NoTerm_NoTerm h1 h2 h3 q⟩
theorem Za (T:Txt K mg t):FnOk P w K mg base (CX1 P w) 4 t.a_RowWords_draw_as t.d_RowWords_draw_as ["self"] (wu t):=by
 refine T.f_RowWords_draw_as.ok1 qZ (fun vs H Q E h=>?_) (fun cdv A outer s H vs Q E hr h=>?_)
 ·obtain ⟨x,dx,wa,ws,n,k,rfl,_⟩:=h;rfl
 obtain ⟨x,dx,wa,ws,n,k,rfl,h1,h2,q⟩:=h
 exact ⟨wv K t E,(zh (zN (zt Wk (yH (pv 0) T.cl_RowWords T.me_RowWords_draw_word (FnOk.mono (xM T) (by decide)) hr T.b_RowWords_draw_word .nil yN) (zn (x:="as")) (zy _)) (zh (xD rfl T.xi_NoDealing T.xk_NoDealing T.xf_NoDealing (FnOk.mono (zV T) (by decide)) hr T.b_NoDealing_init xQ rfl T.g_NoDealing (zb (yo (f:="number") (pv 0) rfl) zg)))
   zB)),qM (wrF T) h1 h2 q⟩
theorem Wi (T:Txt K mg t):FnOk P w K mg base (CX1 P w) 7 t.a_take_drawn t.d_take_drawn ["words"] (jY t):=by
 refine T.f_take_drawn.ok1 sc_take_drawn (fun vs H Q E h=>?_) (fun cdv A outer s H vs Q E hr h=>?_)
 ·obtain ⟨x,dx,wa,ws,n,rfl,_⟩:=h;rfl
 obtain ⟨x,dx,wa,ws,n,rfl,h1,h2,h3,h4,q⟩:=h
 exact ⟨j9 K t E,(zf (zA (i:=1) sc_take_drawn.nd rfl (Or.inl rfl) (yH (pv 0) T.cl_RowWords T.me_RowWords_draw_name (FnOk.mono (y7 T) (by decide)) hr T.b_RowWords_draw_name .nil yN))
  (zf (zA (i:=2) sc_take_drawn.nd rfl (Or.inl rfl) (yH (pv 0) T.cl_RowWords T.me_RowWords_draw_term (FnOk.mono (yd T) (by decide)) hr T.b_RowWords_draw_term .nil yN))
  (zf (yP (yH (pv 0) T.cl_RowWords T.me_RowWords_draw_as (FnOk.mono (Za T) (by decide)) hr T.b_RowWords_draw_as .nil yN))
  (zh (zD (yY (zb (zn (x:="take")) (zb (pv 1) (zb (pv 2) (zb (yH (pv 0) T.cl_RowWords T.me_RowWords_draw_name (FnOk.mono (y7 T) (by decide)) hr T.b_RowWords_draw_name .nil yN) zg)))))))))),XE h1 h2 h3 h4 q⟩
theorem VA (T:Txt K mg t):FnOk P w K mg base (CX1 P w) 8 t.a_row_drawn t.d_row_drawn ["words"] (kG t):=by
 refine T.f_row_drawn.ok1 sc_row_drawn (fun vs H Q E h=>?_) (fun cdv A outer s H vs Q E hr h=>?_)
 ·obtain ⟨x,dx,wa,ws,n,rfl,_⟩:=h;rfl
 obtain ⟨x,dx,wa,ws,n,rfl,h1,h2,h3,q⟩:=h
 exact ⟨kP K t E,(zf (zA (i:=1) sc_row_drawn.nd rfl (Or.inl rfl) (yH (pv 0) T.cl_RowWords T.me_RowWords_draw_word (FnOk.mono (xM T) (by decide)) hr T.b_RowWords_draw_word .nil yN))
  (zf (zN (zt yb (pv 1) (zn (x:="take")) (zy _)) (zh (zD (zH (FnOk.mono (Wi T) (by decide)) hr rfl T.m_take_drawn T.f_take_drawn.kp T.b_take_drawn .nil yN (zb (pv 0) zg))))
    zB)
  (zf (zN (zt yb (pv 1) (zn (x:="give")) (zy _)) (zh (zD (yY (zb (zn (x:="give")) (zb (yH (pv 0) T.cl_RowWords T.me_RowWords_draw_name (FnOk.mono (y7 T) (by decide)) hr T.b_RowWords_draw_name .nil yN) (zb (yH (pv 0) T.cl_RowWords T.me_RowWords_draw_term (FnOk.mono (yd T) (by decide)) hr T.b_RowWords_draw_term .nil yN) (zb (yH (pv 0) T.cl_RowWords T.me_RowWords_draw_term (FnOk.mono (yd T) (by decide)) hr T.b_RowWords_draw_term .nil yN) zg)))))))
    zB)
  (zf (zN (zt yb (pv 1) (zn (x:="let")) (zy _)) (zh (zD (yY (zb (zn (x:="let")) (zb (yH (pv 0) T.cl_RowWords T.me_RowWords_draw_name (FnOk.mono (y7 T) (by decide)) hr T.b_RowWords_draw_name .nil yN) (zb (yH (pv 0) T.cl_RowWords T.me_RowWords_draw_term (FnOk.mono (yd T) (by decide)) hr T.b_RowWords_draw_term .nil yN) zg))))))
    zB)
  (zf (zN (zt xB (pv 1) (yY (zb (zn (x:="say")) (zb (zn (x:="off")) zg))) (by with_unfolding_all rfl)) (zh (zD (yY (zb (pv 1) (zb (yH (pv 0) T.cl_RowWords T.me_RowWords_draw_term (FnOk.mono (yd T) (by decide)) hr T.b_RowWords_draw_term .nil yN) zg)))))
    zB)
  (zf (zN (zt yb (pv 1) (zn (x:="if")) (zy _)) (zh (zD (yY (zb (zn (x:="if")) (zb (yH (pv 0) T.cl_RowWords T.me_RowWords_draw_term (FnOk.mono (yd T) (by decide)) hr T.b_RowWords_draw_term .nil yN) (zb (zX zg) (zb (zX zg) zg)))))))
    zB)
  (zf (zN (zt xB (pv 1) (yY (zb (zn (x:="else")) (zb (zn (x:="end")) zg))) (by with_unfolding_all rfl)) (zh (zD (yY (zb (pv 1) zg))))
    zB)
  (zh (xD rfl T.xi_NoDealing T.xk_NoDealing T.xf_NoDealing (FnOk.mono (zV T) (by decide)) hr T.b_NoDealing_init xQ rfl T.g_NoDealing (zb (yo (f:="number") (pv 0) rfl) zg)))))))))),Wa (wrF T) h1 h2 h3 q⟩
theorem qP (T:Txt K mg t):FnOk P w K mg base (CX1 P w) 3 t.a_RowWords_draw_end t.d_RowWords_draw_end ["self"] (xR t):=by
 refine T.f_RowWords_draw_end.ok1 qo (fun vs H Q E h=>?_) (fun cdv A outer s H vs Q E hr h=>?_)
 ·obtain ⟨x,dx,wa,ws,n,k,rfl,_⟩:=h;rfl
 obtain ⟨x,dx,wa,ws,n,k,rfl,h1,h2,q⟩:=h
 exact ⟨xX K t E,(zh (zN (zt ZK (yo (f:="at") (pv 0) rfl) (zK zR rfl T.b_len yh (zb (yo (f:="words") (pv 0) rfl) zg)) (zy _)) (zh (xD rfl T.xi_NoDealing T.xk_NoDealing T.xf_NoDealing (FnOk.mono (zV T) (by decide)) hr T.b_NoDealing_init xQ rfl T.g_NoDealing (zb (yo (f:="number") (pv 0) rfl) zg)))
   zB)),k7 (wrF T) h1 h2 q⟩
theorem Qw (T:Txt K mg t):FnOk P w K mg base (CX1 P w) 9 t.a_row_in t.d_row_in ["text","number"] (Yw t):=by
 refine T.f_row_in.ok1 sc_row_in (fun vs H Q E h=>?_) (fun cdv A outer s H vs Q E hr h=>?_)
 ·obtain ⟨x,n,rfl,_⟩:=h;rfl
 obtain ⟨x,n,rfl,h1,h2,h3,q⟩:=h
 exact ⟨Yx K t E,(zf (zA (i:=2) sc_row_in.nd rfl (Or.inl rfl) (wI PySem.F.plainAttrs_str PySem.F.slot_str_split PySem.F.type_str_split Z4 (pv 0) (zb (zn (x:=" ")) zg)))
  (zf (zN (PW.pt (jm (zt Kp (pv 1) (yF rfl T.g_MOST_ROWS ⟨_,rfl⟩) (zy _)) (ve (zt Zc (zK zR rfl T.b_len yh (zb (pv 2) zg)) (yF rfl T.g_MOST_WORDS_reader ⟨_,rfl⟩) (zy _))))) (zh (xD rfl T.xi_NoDealing T.xk_NoDealing T.xf_NoDealing (FnOk.mono (zV T) (by decide)) hr T.b_NoDealing_init xQ rfl T.g_NoDealing (zb (pv 1) zg)))
    zB)
  (zf (zA (i:=3) sc_row_in.nd rfl (Or.inl rfl) (za2 T.mk_RowWords (FnOk.mono (YL T) (by decide)) hr rfl T.g_RowWords T.b_RowWords_init .nil yN (zb (pv 2) (zb (pv 1) zg))))
  (zf (zA (i:=4) sc_row_in.nd rfl (Or.inl rfl) (zH (FnOk.mono (VA T) (by decide)) hr rfl T.m_row_drawn T.f_row_drawn.kp T.b_row_drawn .nil yN (zb (pv 3) zg)))
  (zf (yP (yH (pv 3) T.cl_RowWords T.me_RowWords_draw_end (FnOk.mono (qP T) (by decide)) hr T.b_RowWords_draw_end .nil yN))
  (zh (zD (pv 4)))))))),Ka h1 h2 h3 q⟩
theorem VB (T:Txt K mg t):FnOk P w K mg base (CX1 P w) 10 t.a_read t.d_read ["text"] (qV t):=by
 refine T.f_read.ok1 sc_read (fun vs H Q E h=>?_) (fun cdv A outer s H vs Q E hr h=>?_)
 ·obtain ⟨x,rfl,_⟩:=h;rfl
 obtain ⟨x,rfl,h1,h2,q1,q2⟩:=h
 exact ⟨Vg K t E,(zf (zA (i:=1) sc_read.nd rfl (Or.inl rfl) (ZH (zt Wk (pv 0) (zn (x:="")) (zy _)) (wI PySem.F.plainAttrs_str PySem.F.slot_str_split PySem.F.type_str_split Z4 (pv 0) (zb (zn (x:="\n")) zg)) (zX zg)))
  (zf (zA (i:=2) sc_read.nd rfl (Or.inl rfl) (QF T.mk_Reading (FnOk.mono (YZ T) (by decide)) hr rfl T.g_Reading T.b_Reading_init .nil yN))
  (zf (qd zb4 rfl (zbn rfl T.b_enumerate (zb (pv 1) zg)) (Qz rfl (ZI (wb (i:=3) sc_read.nd rfl (Or.inl rfl)) (ZI (wb (i:=4) sc_read.nd rfl (Or.inl rfl)) Ki))) (zh (yP (Y3 (pv 2) T.cl_Reading T.me_Reading_reads (FnOk.mono (YK T) (by decide)) hr T.b_Reading_reads .nil yN (zb (zH (FnOk.mono (Qw T) (by decide)) hr rfl T.m_row_in T.f_row_in.kp T.b_row_in .nil yN (zb (pv 4) (zb (pv 3) zg))) (zb (pv 3) zg))))))
  (zf (zN (zt (kg (Yn hr)) (yo (f:="blocks") (pv 2) rfl) (zX zg) (zy _)) (zh (xD rfl T.xi_NoDealing T.xk_NoDealing T.xf_NoDealing (FnOk.mono (zV T) (by decide)) hr T.b_NoDealing_init xQ rfl T.g_NoDealing (zb (zK zR rfl T.b_len yh (zb (pv 1) zg)) zg)))
    zB)
  (zh (zD (yo (f:="rows") (pv 2) rfl))))))),zaM (rdF T) h1 h2 q1 q2⟩
theorem Y0 (T:Txt K mg t):FnOk P w K mg base (CX1 P w) 11 t.a__law_refused t.d__law_refused ["line","bad"] (vR):=by
 refine T.f__law_refused.ok0 sc__law_refused (fun vs H Q E h=>?_) (fun cdv A outer s H vs Q E hr h=>?_)
 ·obtain ⟨x,k,rfl,_⟩:=h;rfl
 obtain ⟨x,k,rfl,h1,h2,h3,q⟩:=h
 exact ⟨v5 K t,(zf (zA (i:=2) sc__law_refused.nd rfl (Or.inl rfl) (ww (b:=false)))
  (zf (zA (i:=3) sc__law_refused.nd rfl (Or.inl rfl) (ww (b:=true)))
  (zf (zb7 (i:=4) (And.intro rfl rfl) rfl sc__law_refused.nd (Q0 (QZ (FnOk.mono (VB T) (by decide)) hr rfl T.m_read T.f_read.kp T.b_read (zb (pv 0) zg))) rfl T.g_ForerunError rfl rfl (fun _=>(zf (zA (i:=2) sc__law_refused.nd rfl (Or.inl rfl) (zK Q3 rfl T.b_isinstance xp (zb (pv 4) (zb (qQ rfl T.b_ValueError X4 rfl) zg))))
  (zh (zA (i:=3) sc__law_refused.nd rfl (Or.inl rfl) (zK Qc rfl T.b_isinstance xp (zb (pv 4) (zb (yY (zb (yF rfl T.g_NoTerm rfl) (zb (yF rfl T.g_NoNumber rfl) (zb (yF rfl T.g_Nought rfl) (zb (yF rfl T.g_Great rfl) (zb (yF rfl T.g_Folded rfl) (zb (yF rfl T.g_NoHand rfl) (zb (yF rfl T.g_NoOrder rfl) (zb (yF rfl T.g_NoLine rfl) (zb (yF rfl T.g_NoLog rfl) zg)))))))))) zg))))))))
  (zf (zN (PW.pt (jm (kq (xw (pv 2))) (ve (xw (pv 3))))) (zh (zD (ww (b:=false))))
    zB)
  (zf (zA (i:=5) sc__law_refused.nd rfl (Or.inl rfl) zbS)
  (zf (zbs (i:=4) (And.intro rfl rfl) rfl sc__law_refused.nd (Qn (WD (FnOk.mono (VB T) (by decide)) hr rfl T.m_read T.f_read.kp T.b_read (zb (pv 0) zg))) rfl T.g_NoDealing rfl rfl (fun _=>(zh (zA (i:=5) sc__law_refused.nd rfl (Or.inl rfl) (zbq (f:="row") (pv 4) rfl)))))
  (zh (zD (Zi (zK qg rfl T.b_isinstance xp (zb (pv 5) (zb (qQ rfl T.b_int Xo rfl) zg))) (Zi (zbT (zK qg rfl T.b_isinstance xp (zb (pv 5) (zb (qQ rfl T.b_bool Kv rfl) zg)))) (Yf (xN yb (pv 5) (pv 1) (zy _))))))))))))),YH (ndF T) h1 h2 h3 q⟩
theorem ok_law (T:Txt K mg t):FnOk P w K mg base (CX1 P w) 12 t.a_law t.d_law ["script"] (sp_law K):=by
 refine T.f_law.ok0 sc_law (fun vs H Q E h=>?_) (fun cdv A outer s H vs Q E hr h=>?_)
 ·obtain ⟨a,ns,rfl,_⟩:=h;rfl
 obtain ⟨a,ns,rfl,hS,hn,q⟩:=h
 exact ⟨J9 K t,(zf (zA (i:=1) sc_law.nd rfl (Or.inl rfl) (zu yQ (zH (FnOk.mono (wE T) (by decide)) hr rfl T.m__law_cell_at T.f__law_cell_at.kp T.b__law_cell_at .nil zU (zb (pv 0) (zb (zi (i:=1)) zg))) (zi (i:=41))))
  (zf (zN (zt Wk (zcm T.es_NoDealing T.nx_NoDealing T.xi_NoDealing T.xk_NoDealing T.xf_NoDealing (FnOk.mono (zV T) (by decide)) hr T.b_NoDealing_init rfl T.g_NoDealing (zb (pv 1) zg)) (pv 1) (zy _)) (zh (zD (ww (b:=false))))
    zB)
  (zf (zA (i:=2) sc_law.nd rfl (Or.inl rfl) (zH (FnOk.mono (Vx T) (by decide)) hr rfl T.m__law_line T.f__law_line.kp T.b__law_line .nil zU (zb (pv 0) zg)))
  (zf (zA (i:=3) sc_law.nd rfl (Or.inl rfl) (zX zg))
  (zf (zN (zt Wk (pv 2) (zn (x:="")) (zy _)) (zh (zA (i:=3) sc_law.nd rfl (Or.inl rfl) (wI PySem.F.plainAttrs_str PySem.F.slot_str_split PySem.F.type_str_split Z4 (pv 2) (zb (zn (x:="\n")) zg))))
    zB)
  (zf (zbU (zH (FnOk.mono (XZ T) (by decide)) hr rfl T.m__law_judged T.f__law_judged.kp T.b__law_judged .nil zU (zb (pv 3) zg)) (Qz rfl (ZI (wb (i:=4) sc_law.nd rfl (Or.inl rfl)) (ZI (wb (i:=5) sc_law.nd rfl (Or.inl rfl)) Ki))))
  (zf (zN (zt Kp (pv 4) (zi (i:=0)) (zy _)) (zh (zD (zH (FnOk.mono (Y0 T) (by decide)) hr rfl T.m__law_refused T.f__law_refused.kp T.b__law_refused .nil zU (zb (pv 2) (zb (pv 4) zg)))))
    zB)
  (zf (zA (i:=6) sc_law.nd rfl (Or.inl rfl) (zH (FnOk.mono (VB T) (by decide)) hr rfl T.m_read T.f_read.kp T.b_read .nil zU (zb (pv 2) zg)))
  (zh (zD (Zi (zK qg rfl T.b_isinstance xp (zb (pv 6) (zb (qQ rfl T.b_list zba rfl) zg))) (Yf (xN yb (zK zR rfl T.b_len yh (zb (pv 6) zg)) (pv 5) (zy _)))))))))))))),zbE hS hn q⟩
end
end K14
open PySem PySem.W PyProof.Rows
def PySem.W.Fast.tw14445474816104993575:Unit:=()
def PySem.W.Fast.tw1456357635841995420:Unit:=()
def PySem.W.Fast.tw11300382238132581679:Unit:=()
def PySem.W.Fast.tw10504853708169964812:Unit:=()
def PySem.W.Fast.tw18245243597873187809:Unit:=()
def PySem.W.Fast.tw451035184211111485:Unit:=()
def PySem.W.Fast.tw3619292083244206336:Unit:=()
def PySem.W.Fast.tw1434013675574249011:Unit:=()
def PySem.W.Fast.tw7694544108423532888:Unit:=()
def PySem.W.Fast.tw15658808860672613909:Unit:=()
def PySem.W.Fast.tw7517066565985213853:Unit:=()
def PySem.W.Fast.tw4556429987256840942:Unit:=()
def PySem.W.Fast.tw13607194442092190220:Unit:=()
def PySem.W.Fast.tw4413335090165535960:Unit:=()
def PySem.W.Fast.tw8118715232851878384:Unit:=()
def PySem.W.Fast.tw15758507617528800746:Unit:=()
def PySem.W.Fast.tw2094773162500925800:Unit:=()
def PySem.W.Fast.tw2776715082634395338:Unit:=()
def PySem.W.Fast.tw2588566899698825449:Unit:=()
def PySem.W.Fast.tw4270791695280473901:Unit:=()
def PySem.W.Fast.tw11101808169884455793:Unit:=()
def PySem.W.Fast.tw6712356848582398522:Unit:=()
def PySem.W.Fast.tw9671988533934929955:Unit:=()
def PySem.W.Fast.tw9011070902708310844:Unit:=()
def PySem.W.Fast.tw16343236082256847660:Unit:=()
def PySem.W.Fast.tw14197154292159058392:Unit:=()
def PySem.W.Fast.tw5712511506262976044:Unit:=()
def PySem.W.Fast.tw12281430510719823188:Unit:=()
def PySem.W.Fast.tw10028372331622435809:Unit:=()
def PySem.W.Fast.tw15011665228873429152:Unit:=()
def PySem.W.Fast.tw10356945862900049751:Unit:=()
def PySem.W.Fast.tw14093632732502476413:Unit:=()
def PySem.W.Fast.tw8303089556567092127:Unit:=()
def PySem.W.Fast.tw597101162787258710:Unit:=()
def PySem.W.Fast.tw14383380294094423569:Unit:=()
def PySem.W.Fast.tw18309595252287056861:Unit:=()
def PySem.W.Fast.tw8828716792868801605:Unit:=()
def PySem.W.Fast.tw3409690888301811144:Unit:=()
def PySem.W.Fast.tw5791612294807479298:Unit:=()
def PySem.W.Fast.tw14618755364475630841:Unit:=()
def PySem.W.Fast.tw4178308597934790548:Unit:=()
def PySem.W.Fast.tw14570901079311945361:Unit:=()
def PySem.W.Fast.tw12792564554379283338:Unit:=()
def PySem.W.Fast.tw6261400339307238626:Unit:=()
def PySem.W.Fast.tw2619766732119837664:Unit:=()
def PySem.W.Fast.tw10612081419120196405:Unit:=()
def PySem.W.Fast.tw458605260077667157:Unit:=()
def PySem.W.Fast.tw722299538663192290:Unit:=()
def PySem.W.Fast.tw11077056521592599177:Unit:=()
def PySem.W.Fast.tw2969229876528883406:Unit:=()
def PySem.W.Fast.tw3683835511060574313:Unit:=()
def PySem.W.Fast.tw15837295879014246607:Unit:=()
def PySem.W.Fast.tw16901775621610478145:Unit:=()
def PySem.W.Fast.tw8941150896804986936:Unit:=()
def PySem.W.Fast.tw15744387289708976356:Unit:=()
def PySem.W.Fast.tw12130574176219072343:Unit:=()
def PySem.W.Fast.tw12671667652669948676:Unit:=()
def PySem.W.Fast.tw2341061279440209830:Unit:=()
def PySem.W.Fast.tw43652778477274828:Unit:=()
def PySem.W.Fast.tw12858932791625583212:Unit:=()
def PySem.W.Fast.tw14469358303823414839:Unit:=()
def PySem.W.Fast.tw17031813594078620147:Unit:=()
def PySem.W.Fast.tw18111512847037502620:Unit:=()
def PySem.W.Fast.tw11319207369021679124:Unit:=()
def PySem.W.Fast.tw17293719163786613843:Unit:=()
def PySem.W.Fast.tw10457953645299098351:Unit:=()
def PySem.W.Fast.tw17327563480601062322:Unit:=()
def PySem.W.Fast.tw8688534462088392192:Unit:=()
def PySem.W.Fast.tw10944957068413320387:Unit:=()
def PySem.W.Fast.tw10439628101439176549:Unit:=()
def PySem.W.Fast.tw4286408783317533632:Unit:=()
def PySem.W.Fast.tw2337465488548151661:Unit:=()
def PySem.W.Fast.tw10045636225768820666:Unit:=()
def PySem.W.Fast.tw15440735656170704174:Unit:=()
def PySem.W.Fast.tw8496553626839213664:Unit:=()
def PySem.W.Fast.tw8615706936080607457:Unit:=()
def PySem.W.Fast.tw9769696856334889790:Unit:=()
def PySem.W.Fast.tw4820851700626723114:Unit:=()
def PySem.W.Fast.tw15799675015751277608:Unit:=()
def PySem.W.Fast.tw17198027893799960242:Unit:=()
def PySem.W.Fast.tw9317603698814877524:Unit:=()
def PySem.W.Fast.tw3624633804668675256:Unit:=()
def PySem.W.Fast.tw505200282795184723:Unit:=()
def PySem.W.Fast.tw14101686114918017170:Unit:=()
def PySem.W.Fast.tw459283987126615246:Unit:=()
def PySem.W.Fast.tw10630469700187888163:Unit:=()
def PySem.W.Fast.tw17155973037491265821:Unit:=()
def PySem.W.Fast.tw16500900899276042505:Unit:=()
def PySem.W.Fast.tw5323677549429844027:Unit:=()
def PySem.W.Fast.tw649007549256849860:Unit:=()
def PySem.W.Fast.tw12564439422167648663:Unit:=()
def PySem.W.Fast.tw8048942673208275888:Unit:=()
def PySem.W.Fast.tw11215107250773605912:Unit:=()
def PySem.W.Fast.tw9752886968312936145:Unit:=()
def PySem.W.Fast.tw3455557908795897514:Unit:=()
def PySem.W.Fast.tw4963896905477049935:Unit:=()
def PySem.W.Fast.tw3670744656126264599:Unit:=()
def PySem.W.Fast.tw12048711634836386259:Unit:=()
def PySem.W.Fast.tw230788959029911577:Unit:=()
def PySem.W.Fast.tw3274517410503601448:Unit:=()
def PySem.W.Fast.tw1045653785744691289:Unit:=()
def PySem.W.Fast.tw18314342887200018083:Unit:=()
def PySem.W.Fast.tw12480591697553126258:Unit:=()
def PySem.W.Fast.tw3826273080025161496:Unit:=()
def PySem.W.Fast.tw11763212199821640515:Unit:=()
def PySem.W.Fast.tw4504326862974393650:Unit:=()
def PySem.W.Fast.tw13376772525529483624:Unit:=()
def PySem.W.Fast.tw5635984913093713197:Unit:=()
def PySem.W.Fast.tw6720937578370289736:Unit:=()
def PySem.W.Fast.tw6814211716812962238:Unit:=()
def PySem.W.Fast.tw5754885704399738617:Unit:=()
def PySem.W.Fast.tw8417799090112869739:Unit:=()
def PySem.W.Fast.tw9525741985929138642:Unit:=()
def PySem.W.Fast.tw15827210048087575677:Unit:=()
def PySem.W.Fast.tw8445908976648798767:Unit:=()
def PySem.W.Fast.tw3376468549392147891:Unit:=()
def PySem.W.Fast.tw16739031851665307413:Unit:=()
def PySem.W.Fast.tw13509859717872157358:Unit:=()
def PySem.W.Fast.tw17814565049035278200:Unit:=()
def PySem.W.Fast.tw31120326556667088:Unit:=()
def PySem.W.Fast.tw5069526575390383851:Unit:=()
def PySem.W.Fast.tw17951881375321246118:Unit:=()
def PySem.W.Fast.tw9450052374182208373:Unit:=()
def PySem.W.Fast.tw13669743067046937957:Unit:=()
def PySem.W.Fast.tw4412907977938150764:Unit:=()
def PySem.W.Fast.tw17657914115074273678:Unit:=()
def PySem.W.Fast.tw10029310786365382427:Unit:=()
def PySem.W.Fast.tw9597119261903875962:Unit:=()
def PySem.W.Fast.tw875969008819318774:Unit:=()
def PySem.W.Fast.tw8957822589621548848:Unit:=()
def PySem.W.Fast.tw1842221631995453836:Unit:=()
def PySem.W.Fast.tw8367690230589970993:Unit:=()
def PySem.W.Fast.tw15781215300741253816:Unit:=()
def PySem.W.Fast.tw16777797635877677117:Unit:=()
def PySem.W.Fast.tw12929417099433761605:Unit:=()
def PySem.W.Fast.tw1448284978020540489:Unit:=()
def PySem.W.Fast.tw4141714366061717448:Unit:=()
def PySem.W.Fast.tw6876178757108532508:Unit:=()
def PySem.W.Fast.tw14993008556870128529:Unit:=()
def PySem.W.Fast.tw13978440231182285087:Unit:=()
def PySem.W.Fast.tw2032224313967264764:Unit:=()
def PySem.W.Fast.tw11750820239201954570:Unit:=()
def PySem.W.Fast.tw9081236197742819508:Unit:=()
def PySem.W.Fast.tw2836534422330244199:Unit:=()
def PySem.W.Fast.tw11664692142723571802:Unit:=()
def PySem.W.Fast.tw7077200609527552673:Unit:=()
def PySem.W.Fast.tw4533663950546135009:Unit:=()
def PySem.W.Fast.tw15674684611920128977:Unit:=()
def PySem.W.Fast.tw2260430488551214698:Unit:=()
def PySem.W.Fast.tw2277753994427747967:Unit:=()
def PySem.W.Fast.tw6059422633797757737:Unit:=()
def PySem.W.Fast.tw8198555172033396639:Unit:=()
def PySem.W.Fast.tw10998242690850775951:Unit:=()
def PySem.W.Fast.tw10375238201148134903:Unit:=()
def PySem.W.Fast.tw7825276229967123842:Unit:=()
def PySem.W.Fast.tw17812656801440889588:Unit:=()
def PySem.W.Fast.tw1647903156411833289:Unit:=()
def PySem.W.Fast.tw16008857866758999647:Unit:=()
def PySem.W.Fast.tw1681521384193832599:Unit:=()
def PySem.W.Fast.tw12126269090932426781:Unit:=()
def PySem.W.Fast.tw1087258445031876640:Unit:=()
def PySem.W.Fast.tw862038676196245757:Unit:=()
def PySem.W.Fast.tw16839411876390460469:Unit:=()
def PySem.W.Fast.tw14574241599398513098:Unit:=()
def PySem.W.Fast.tw8106365686969492208:Unit:=()
def PySem.W.Fast.tw5955944870730249591:Unit:=()
def PySem.W.Fast.tw7456569246813011473:Unit:=()
def PySem.W.Fast.tw16008476684655215562:Unit:=()
def PySem.W.Fast.tw9480408138610126900:Unit:=()
def PySem.W.Fast.tw9953343812526374837:Unit:=()
def PySem.W.Fast.tw1737874602720525509:Unit:=()
def PySem.W.Fast.tw17244323837739950664:Unit:=()
def PySem.W.Fast.tw14182283079208920449:Unit:=()
def PySem.W.Fast.tw13675831505116907565:Unit:=()
def PySem.W.Fast.tw67965176046753607:Unit:=()
def PySem.W.Fast.tw7236616620345279232:Unit:=()
def PySem.W.Fast.tw1444714994001998176:Unit:=()
def PySem.W.Fast.tw404710274446764283:Unit:=()
def PySem.W.Fast.tw1741767995605977790:Unit:=()
def PySem.W.Fast.tw4225816624628646319:Unit:=()
def PySem.W.Fast.tw17149859512979855426:Unit:=()
def PySem.W.Fast.tw379694082592800203:Unit:=()
def PySem.W.Fast.tw5923448006543284641:Unit:=()
def PySem.W.Fast.tw344820606307650380:Unit:=()
def PySem.W.Fast.tw9770169451003346823:Unit:=()
def PySem.W.Fast.tw8249145668350835992:Unit:=()
def PySem.W.Fast.tw14954380472834600272:Unit:=()
def PySem.W.Fast.tw16317132455740404328:Unit:=()
def PySem.W.Fast.tw514114967626385720:Unit:=()
def PySem.W.Fast.tw14567262522759752578:Unit:=()
def PySem.W.Fast.tw13360349984588555318:Unit:=()
def PySem.W.Fast.tw16632134693162353923:Unit:=()
def PySem.W.Fast.tw10784885284667086063:Unit:=()
def PySem.W.Fast.tw14832750654872047878:Unit:=()
def PySem.W.Fast.tw10359060797280618225:Unit:=()
def PySem.W.Fast.tw5847793085922397405:Unit:=()
def PySem.W.Fast.tw7375747783782261104:Unit:=()
def PySem.W.Fast.tw12639394041368093145:Unit:=()
def PySem.W.Fast.tw471566231983401276:Unit:=()
def PySem.W.Fast.tw17781009231579870116:Unit:=()
def PySem.W.Fast.tw17482726017036254872:Unit:=()
def PySem.W.Fast.tw17902520297554768348:Unit:=()
def PySem.W.Fast.tw14940464653278040141:Unit:=()
def PySem.W.Fast.tw2181020783132553634:Unit:=()
def PySem.W.Fast.tw3801059735804822361:Unit:=()
def PySem.W.Fast.tw8010340489320835137:Unit:=()
def PySem.W.Fast.tw3429763181449556058:Unit:=()
def PySem.W.Fast.tw469195710832047744:Unit:=()
def PySem.W.Fast.tw10982121588556168536:Unit:=()
def PySem.W.Fast.tw13178567725246456259:Unit:=()
def PySem.W.Fast.tw12367312666197346238:Unit:=()
def PySem.W.Fast.tw669017489581181409:Unit:=()
def PySem.W.Fast.tw6480889194450916090:Unit:=()
def PySem.W.Fast.tw14777036356809899037:Unit:=()
def PySem.W.Fast.tw2479361644146763647:Unit:=()
def PySem.W.Fast.tw9057091131467766576:Unit:=()
def PySem.W.Fast.tw13433934862645384218:Unit:=()
def PySem.W.Fast.tw307842179289815687:Unit:=()
def PySem.W.Fast.tw1402972688774964893:Unit:=()
def PySem.W.Fast.tw4408941620195943228:Unit:=()
def PySem.W.Fast.tw6086835522762882861:Unit:=()
def PySem.W.Fast.tw3587884668640461454:Unit:=()
def PySem.W.Fast.tw6247604613949796612:Unit:=()
def PySem.W.Fast.tw17073032492348990599:Unit:=()
def PySem.W.Fast.tw18106104893503630887:Unit:=()
def PySem.W.Fast.tw11812929729863647401:Unit:=()
def PySem.W.Fast.tw5452221799377396401:Unit:=()
def PySem.W.Fast.tw11946641121518613608:Unit:=()
def PySem.W.Fast.tw15927104226295963554:Unit:=()
def PySem.W.Fast.tw811451223662171030:Unit:=()
def PySem.W.Fast.tw759374138543390571:Unit:=()
def PySem.W.Fast.tw14387325667151667740:Unit:=()
def PySem.W.Fast.tw9001322933291609105:Unit:=()
def PySem.W.Fast.tw2395608806115940292:Unit:=()
def PySem.W.Fast.tw13190746714690098147:Unit:=()
def PySem.W.Fast.tw8574806586828547657:Unit:=()
def PySem.W.Fast.tw17136467673525843525:Unit:=()
def PySem.W.Fast.tw10319993456132722728:Unit:=()
def PySem.W.Fast.tw12151658010528651136:Unit:=()
def PySem.W.Fast.tw14888913966974336518:Unit:=()
def PySem.W.Fast.tw1727995675797041757:Unit:=()
def PySem.W.Fast.tw11997140828363222483:Unit:=()
def PySem.W.Fast.tw11890596569875103715:Unit:=()
def PySem.W.Fast.tw2990077957702033872:Unit:=()
def PySem.W.Fast.tw13047567174003492443:Unit:=()
def PySem.W.Fast.tw12684818996535015828:Unit:=()
def PySem.W.Fast.tw94520079414218169:Unit:=()
def PySem.W.Fast.tw11465719860993844355:Unit:=()
def PySem.W.Fast.tw15535783737311582681:Unit:=()
def PySem.W.Fast.tw5851205449903314782:Unit:=()
def PySem.W.Fast.tw1997503302870444455:Unit:=()
def PySem.W.Fast.tw17912440157355502526:Unit:=()
def PySem.W.Fast.tw10641332695962299109:Unit:=()
def PySem.W.Fast.tw6666977238950952252:Unit:=()
def PySem.W.Fast.tw5978380408794769137:Unit:=()
def PySem.W.Fast.tw15412429994797690819:Unit:=()
def PySem.W.Fast.tw6986571438861326040:Unit:=()
def PySem.W.Fast.tw15980162792323330412:Unit:=()
def PySem.W.Fast.tw14963332386368490715:Unit:=()
def PySem.W.Fast.tw5269605247477044765:Unit:=()
def PySem.W.Fast.tw147153324738000413:Unit:=()
def PySem.W.Fast.tw15791256686222030004:Unit:=()
def PySem.W.Fast.tw1329265583003015511:Unit:=()
def PySem.W.Fast.tw5075029504275501667:Unit:=()
def PySem.W.Fast.tw5452724120216518481:Unit:=()
def PySem.W.Fast.tw16713451173447397175:Unit:=()
def PySem.W.Fast.tw9576033799964855217:Unit:=()
def PySem.W.Fast.tw12489087171509804063:Unit:=()
def PySem.W.Fast.tw11395678478201128463:Unit:=()
def PySem.W.Fast.tw12174456825493912196:Unit:=()
def PySem.W.Fast.tw3332571994801061100:Unit:=()
def PySem.W.Fast.tw5426262990462156812:Unit:=()
def PySem.W.Fast.tw15281132886013083856:Unit:=()
def PySem.W.Fast.tw17639232731856815324:Unit:=()
def PySem.W.Fast.tw2978692449768502400:Unit:=()
def PySem.W.Fast.tw5590962406986413554:Unit:=()
def PySem.W.Fast.tw8543666238978687833:Unit:=()
def PySem.W.Fast.tw16986179702518503563:Unit:=()
def PySem.W.Fast.tw9352377817712561376:Unit:=()
def PySem.W.Fast.tw5455056174677380472:Unit:=()
def PySem.W.Fast.tw3221648728599258814:Unit:=()
def PySem.W.Fast.tw4135518624023832063:Unit:=()
def PySem.W.Fast.tw4052865982243764236:Unit:=()
def PySem.W.Fast.tw15385341327689093468:Unit:=()
def PySem.W.Fast.tw6509629117907538204:Unit:=()
def PySem.W.Fast.tw15933522741386092468:Unit:=()
def PySem.W.Fast.tw9948706150193174825:Unit:=()
def PySem.W.Fast.tw9935404978318192687:Unit:=()
def PySem.W.Fast.tw12857465420921333029:Unit:=()
def PySem.W.Fast.tw5279877554987395166:Unit:=()
def PySem.W.Fast.tw3911901527089182060:Unit:=()
def PySem.W.Fast.tw10812699150718650862:Unit:=()
def PySem.W.Fast.tw25243686125865040:Unit:=()
def PySem.W.Fast.tw16605382034476205565:Unit:=()
def PySem.W.Fast.tw15511329133317658062:Unit:=()
def PySem.W.Fast.tw12939079149422510628:Unit:=()
def PySem.W.Fast.tw12611931190549242009:Unit:=()
def PySem.W.Fast.tw6156537059698393438:Unit:=()
def PySem.W.Fast.tw3263909067863863215:Unit:=()
def PySem.W.Fast.tw4413522483044498674:Unit:=()
def PySem.W.Fast.tw11507296461269698161:Unit:=()
def PySem.W.Fast.tw3643472707117403817:Unit:=()
def PySem.W.Fast.tw13909331193571584156:Unit:=()
def PySem.W.Fast.tw3222323413817013649:Unit:=()
def PySem.W.Fast.tw9639114548787472102:Unit:=()
def PySem.W.Fast.tw7869719552661277644:Unit:=()
def PySem.W.Fast.tw12174121064942415126:Unit:=()
def PySem.W.Fast.tw18291555466266398385:Unit:=()
def PySem.W.Fast.tw8619774714068808765:Unit:=()
def PySem.W.Fast.tw4772435732529939763:Unit:=()
def PySem.W.Fast.tw6247162212829873687:Unit:=()
def PySem.W.Fast.tw5233045957107514412:Unit:=()
def PySem.W.Fast.tw8007720301816759601:Unit:=()
def PySem.W.Fast.tw4560919288616487990:Unit:=()
def PySem.W.Fast.tw12340646149780261202:Unit:=()
def PySem.W.Fast.tw7826385320635305513:Unit:=()
def PySem.W.Fast.tw12983695443776649546:Unit:=()
def PySem.W.Fast.tw10039246679794645730:Unit:=()
def PySem.W.Fast.tw1049148608520073846:Unit:=()
def PySem.W.Fast.tw10155743562302612320:Unit:=()
def PySem.W.Fast.tw1145699340214080733:Unit:=()
def PySem.W.Fast.tw13334534205687470056:Unit:=()
def PySem.W.Fast.tw593234747888708491:Unit:=()
def PySem.W.Fast.tw7904118423055046030:Unit:=()
def PySem.W.Fast.tw10584619444742411340:Unit:=()
def PySem.W.Fast.tw12953095140518838162:Unit:=()
def PySem.W.Fast.tw2888113360111296513:Unit:=()
def PySem.W.Fast.tw1899243804024642769:Unit:=()
def PySem.W.Fast.tw12197282815860233514:Unit:=()
def PySem.W.Fast.tw3398034825168281667:Unit:=()
def PySem.W.Fast.tw17427176737323641812:Unit:=()
def PySem.W.Fast.tw3021172262713608140:Unit:=()
def PySem.W.Fast.tw1053206819863318352:Unit:=()
def PySem.W.Fast.tw865737611846896345:Unit:=()
def PySem.W.Fast.tw13092951633357756188:Unit:=()
def PySem.W.Fast.tw14031227624365168475:Unit:=()
def PySem.W.Fast.tw15148702530302462738:Unit:=()
def PySem.W.Fast.tw7910169129857821815:Unit:=()
def PySem.W.Fast.tw4263374167320821992:Unit:=()
def PySem.W.Fast.tw3033257780454499665:Unit:=()
def PySem.W.Fast.tw11621883926053984204:Unit:=()
def PySem.W.Fast.tw3272424307342425302:Unit:=()
def PySem.W.Fast.tw9096681083955940692:Unit:=()
def PySem.W.Fast.tw813625214314269208:Unit:=()
def PySem.W.Fast.tw10090289489747569213:Unit:=()
def PySem.W.Fast.tw2932298996322717429:Unit:=()
def PySem.W.Fast.tw3952367536297677671:Unit:=()
def PySem.W.Fast.tw15033122436082468889:Unit:=()
def PySem.W.Fast.tw870039436488502524:Unit:=()
def PySem.W.Fast.tw2411406950961206249:Unit:=()
def PySem.W.Fast.tw4822683040352471556:Unit:=()
def PySem.W.Fast.tw2776257361802658920:Unit:=()
def PySem.W.Fast.tw144001823578879241:Unit:=()
def PySem.W.Fast.tw13855388049516337329:Unit:=()
def PySem.W.Fast.tw2071573569415912679:Unit:=()
def PySem.W.Fast.tw13592798976711440632:Unit:=()
def PySem.W.Fast.tw14926359158533509090:Unit:=()
def PySem.W.Fast.tw9357444998037180033:Unit:=()
def PySem.W.Fast.tw861112791685570723:Unit:=()
def PySem.W.Fast.tw16566887571777933163:Unit:=()
def PySem.W.Fast.tw2051468351954018439:Unit:=()
def PySem.W.Fast.tw3911332116658686643:Unit:=()
def PySem.W.Fast.tw10258079261382660498:Unit:=()
def PySem.W.Fast.tw10305137266083288882:Unit:=()
def PySem.W.Fast.tw7083257052709096697:Unit:=()
def PySem.W.Fast.tw1433206069610589118:Unit:=()
def PySem.W.Fast.tw1100689784068176060:Unit:=()
def PySem.W.Fast.tw16430775154058534612:Unit:=()
def PySem.W.Fast.tw10356656288053598643:Unit:=()
def PySem.W.Fast.tw5644589774473942926:Unit:=()
def PySem.W.Fast.tw193854301070957760:Unit:=()
def PySem.W.Fast.tw8404253061858490079:Unit:=()
def PySem.W.Fast.tw6700897976556444794:Unit:=()
def PySem.W.Fast.tw17939241038109454375:Unit:=()
def PySem.W.Fast.tw2707348323609786015:Unit:=()
def PySem.W.Fast.tw4487124724306962401:Unit:=()
def PySem.W.Fast.tw8413404422265098047:Unit:=()
def PySem.W.Fast.tw13152695327158794561:Unit:=()
def PySem.W.Fast.tw14032769495624649424:Unit:=()
def PySem.W.Fast.tw10180309241934848258:Unit:=()
def PySem.W.Fast.tw10266909984848887942:Unit:=()
def PySem.W.Fast.tw11849600061636219198:Unit:=()
def PySem.W.Fast.tw6898464911391122997:Unit:=()
def PySem.W.Fast.tw16745443902783622076:Unit:=()
def PySem.W.Fast.tw7469027547317196893:Unit:=()
def PySem.W.Fast.tw14659079507943310888:Unit:=()
def PySem.W.Fast.tw4880663359147562641:Unit:=()
def PySem.W.Fast.tw7988829539608633852:Unit:=()
def PySem.W.Fast.tw5275744436682450263:Unit:=()
def PySem.W.Fast.tw14658916232688651964:Unit:=()
def PySem.W.Fast.tw18418794290297171568:Unit:=()
def PySem.W.Fast.tw12227088009840376035:Unit:=()
def PySem.W.Fast.tw3343028904967733563:Unit:=()
def PySem.W.Fast.tw11556117508390795976:Unit:=()
def PySem.W.Fast.tw5691560652547077847:Unit:=()
def PySem.W.Fast.tw17760804460906139241:Unit:=()
def PySem.W.Fast.tw1328235005080826909:Unit:=()
def PySem.W.Fast.tw4023782797500825755:Unit:=()
def PySem.W.Fast.tw13203884136758635086:Unit:=()
def PySem.W.Fast.tw14064116357390135319:Unit:=()
def PySem.W.Fast.tw13756978899768074406:Unit:=()
def PySem.W.Fast.tw12210027695691982125:Unit:=()
def PySem.W.Fast.tw15247265250672409245:Unit:=()
def PySem.W.Fast.tw9908305499593690639:Unit:=()
def PySem.W.Fast.tw9166043222791832044:Unit:=()
def PySem.W.Fast.tw7024089203852737303:Unit:=()
def PySem.W.Fast.tw15701160589417518509:Unit:=()
def PySem.W.Fast.tw6054169466010752599:Unit:=()
def PySem.W.Fast.tw4622434981635144458:Unit:=()
def PySem.W.Fast.tw12058986272464106926:Unit:=()
def PySem.W.Fast.tw13444429822822355505:Unit:=()
def PySem.W.Fast.tw391519235157189035:Unit:=()
def PySem.W.Fast.tw10054117700167260164:Unit:=()
def PySem.W.Fast.tw7049155897614556721:Unit:=()
def PySem.W.Fast.tw11134386442011934599:Unit:=()
def PySem.W.Fast.tw8179294431394999780:Unit:=()
def PySem.W.Fast.tw10507546653946415539:Unit:=()
def PySem.W.Fast.tw7023108268022290657:Unit:=()
def PySem.W.Fast.tw17379145381249644095:Unit:=()
def PySem.W.Fast.tw113400768780596000:Unit:=()
def PySem.W.Fast.tw2276593414825336519:Unit:=()
def PySem.W.Fast.tw4755538174100668025:Unit:=()
def PySem.W.Fast.tw270376262206635015:Unit:=()
def PySem.W.Fast.tw9817382877569688633:Unit:=()
def PySem.W.Fast.tw4080699748472945437:Unit:=()
def PySem.W.Fast.tw17265400453939777745:Unit:=()
def PySem.W.Fast.tw17091791222488747036:Unit:=()
def PySem.W.Fast.tw3952632872753307336:Unit:=()
def PySem.W.Fast.tw5772178639625735046:Unit:=()
def PySem.W.Fast.tw7506858871943969088:Unit:=()
def PySem.W.Fast.tw12530004215518892750:Unit:=()
def PySem.W.Fast.tw9933798325025994803:Unit:=()
def PySem.W.Fast.tw3704343704365734641:Unit:=()
def PySem.W.Fast.tw359594923472662743:Unit:=()
def PySem.W.Fast.tw12860214381525648665:Unit:=()
def PySem.W.Fast.tw7424834115572170930:Unit:=()
def PySem.W.Fast.tw9723607022005517160:Unit:=()
def PySem.W.Fast.tw17093433924902210557:Unit:=()
def PySem.W.Fast.tw3199017415278781020:Unit:=()
def PySem.W.Fast.tw10095597815731744313:Unit:=()
def PySem.W.Fast.tw7343460893599005220:Unit:=()
def PySem.W.Fast.tw5276690577522689220:Unit:=()
def PySem.W.Fast.tw15826341252682122928:Unit:=()
def PySem.W.Fast.tw3257180211175303179:Unit:=()
def PySem.W.Fast.tw2827335698392831303:Unit:=()
def PySem.W.Fast.tw2463593929083089768:Unit:=()
def PySem.W.Fast.tw12448365455906983161:Unit:=()
def PySem.W.Fast.tw9930240711826874358:Unit:=()
def PySem.W.Fast.tw8425807689609098584:Unit:=()
def PySem.W.Fast.tw11865984598357098305:Unit:=()
def PySem.W.Fast.tw10517296168334375682:Unit:=()
def PySem.W.Fast.tw4790236542374117775:Unit:=()
def PySem.W.Fast.tw3460263474740588214:Unit:=()
def PySem.W.Fast.tw2529173247373364913:Unit:=()
def PySem.W.Fast.tw6914138850416570435:Unit:=()
def PySem.W.Fast.tw16477303431371569681:Unit:=()
def PySem.W.Fast.tw417913078201327358:Unit:=()
def PySem.W.Fast.tw3050427921713032376:Unit:=()
def PySem.W.Fast.tw16175961402216309655:Unit:=()
def PySem.W.Fast.tw11155584588761279523:Unit:=()
def PySem.W.Fast.tw8876774565904660623:Unit:=()
def PySem.W.Fast.tw13141855530696812790:Unit:=()
def PySem.W.Fast.tw11807317989982881998:Unit:=()
def PySem.W.Fast.tw7812135290078000049:Unit:=()
def PySem.W.Fast.tw15311939537510396181:Unit:=()
def PySem.W.Fast.tw8447030419355813081:Unit:=()
def PySem.W.Fast.tw11369298229015167696:Unit:=()
def PySem.W.Fast.tw5800789718352349559:Unit:=()
def PySem.W.Fast.tw12293623254663559883:Unit:=()
def PySem.W.Fast.tw11532018303330566478:Unit:=()
def PySem.W.Fast.tw14969973391624451488:Unit:=()
def PySem.W.Fast.tw16863165272398875293:Unit:=()
def PySem.W.Fast.tw6004202644839619382:Unit:=()
def PySem.W.Fast.tw11645910230784325893:Unit:=()
def PySem.W.Fast.tw2463012413947813138:Unit:=()
def PySem.W.Fast.tw2832862444990227918:Unit:=()
set_option maxRecDepth 100000 in
set_option maxHeartbeats 0 in
theorem PySem.Challenge.cw_forerun_k14_the_first_bad_row_holds : PySem.Challenge.rw_forerun_k14_the_first_bad_row.Holds := by
 w_on; o_law; k_head; (case hw => w_witness2)
 k_fill
 refine L2.walk_ofX (l := PySem.Challenge.rw_forerun_k14_the_first_bad_row) (n := 63) (k := 12) (x := "script") (sp := K14.sp_law) rfl (by decide) rfl ⟨rfl, by decide, by decide⟩ (fun w h Y => PySem.W.kIn_of Y) ?F ?S
 case F =>
  intro w mg fa h KX G hmg
  have T : ∃ t, K14.Txt (L2.KOf KX) mg t := by
   dsimp only [L2.KOf]
   refine' K14.txt_mk KX G ?qa0 ?ql0 ?qc0 ?qk0 ?qa1 ?ql1 ?qc1 ?qk1 ?qa2 ?ql2 ?qc2 ?qk2 ?qa3 ?ql3 ?qc3 ?qk3 ?qa4 ?ql4 ?qc4 ?qk4 ?qa5 ?ql5 ?qc5 ?qk5 ?qa6 ?ql6 ?qc6 ?qk6 ?qa7 ?ql7 ?qc7 ?qk7 ?qa8 ?ql8 ?qc8 ?qk8 ?qa9 ?ql9 ?qc9 ?qk9 ?qa10 ?ql10 ?qc10 ?qk10 ?qa11 ?ql11 ?qc11 ?qk11 ?qa12 ?ql12 ?qc12 ?qk12 ?qa13 ?ql13 ?qc13 ?qk13 ?qa14 ?ql14 ?qc14 ?qk14 ?qa15 ?qi15 ?ql15 ?qc15 ?qk15 ?qa16 ?qi16 ?ql16 ?qc16 ?qk16 ?qa17 ?qi17 ?ql17 ?qc17 ?qk17 ?qa18 ?qi18 ?ql18 ?qc18 ?qk18 ?qa19 ?qi19 ?ql19 ?qc19 ?qk19 ?qa20 ?qi20 ?ql20 ?qc20 ?qk20 ?qa21 ?qi21 ?ql21 ?qc21 ?qk21 ?qa22 ?qi22 ?ql22 ?qc22 ?qk22 ?qa23 ?qi23 ?ql23 ?qc23 ?qk23 ?qa24 ?ql24 ?qc24 ?qk24 ?qa25 ?qi25 ?ql25 ?qc25 ?qk25 ?qa26 ?ql26 ?qc26 ?qk26 ?qa27 ?ql27 ?qc27 ?qk27 ?qa28 ?ql28 ?qc28 ?qk28 ?qa29 ?ql29 ?qc29 ?qk29 ?qa30 ?ql30 ?qc30 ?qk30 ?qa31 ?ql31 ?qc31 ?qk31 ?qa32 ?ql32 ?qc32 ?qk32 ?qa33 ?ql33 ?qc33 ?qk33 ?qa34 ?qi34 ?ql34 ?qc34 ?qk34 ?qa35 ?qi35 ?ql35 ?qc35 ?qk35 ?qa36 ?ql36 ?qc36 ?qk36 ?qa37 ?ql37 ?qc37 ?qk37 ?qa38 ?qi38 ?ql38 ?qc38 ?qk38 ?qa39 ?ql39 ?qc39 ?qk39 ?qa40 ?ql40 ?qc40 ?qk40 ?qa41 ?ql41 ?qc41 ?qk41 ?qa42 ?ql42 ?qc42 ?qk42 ?qz0 ?qz1 ?qz2 ?qz3 ?qz4 ?qz5 ?qz6 ?qz7 ?qz8 ?qz9 ?qz10 ?qg0 ?qg1 ?qh1 ?qg2 ?qg3 ?qg4 ?qg5 ?qg6 ?qg7 ?qg8 ?qg9 ?qh9 ?qv0 ?qv1 ?qv2 ?qv3 ?qv4 ?qv5 ?qv6 ?qv7 ?qv8 ?qv9 ?qv10 ?qv11 ?qv12 ?pg11 ?pd11 ?po11 ?pe11 ?pm11_ ?pk11 ?pn11_0 ?pn11_1 ?pn11_2 ?pg12 ?pd12 ?po12 ?pe12 ?pm12_ ?pk12 ?pn12_0 ?pn12_1 ?pn12_2 ?xx3 ?xk3 ?xy3_0 ?xy3_1 ?xy3_2 ?xy3_3 ?xy3_4 ?xy3_5 ?xy3_6 ?xy3_7 ?xo3 ?xd3 ?xn3 ?xe3_0 ?xe3_1 ?xe3_2 ?xI3_0 ?xJ3_0 ?rx0 ?ry0_0 ?ry0_1 ?ry0_2 ?ry0_3 ?ry0_4 ?ry0_5 ?ry0_6 ?ry0_7 ?re0_0 ?re0_1 ?re0_2 ?ri0_0 ?rj0_0 ?rx1 ?ry1_0 ?ry1_1 ?ry1_2 ?ry1_3 ?ry1_4 ?ry1_5 ?ry1_6 ?ry1_7 ?re1_0 ?re1_1 ?re1_2 ?ri1_0 ?rj1_0
   (case qv0 => k_is)
   (case qv1 => k_is)
   (case qv2 => k_is)
   (case qv3 => k_is)
   (case qv4 => k_is)
   (case qv5 => k_is)
   (case qv6 => k_is)
   (case qv7 => k_is)
   (case qv8 => k_is)
   (case qv9 => k_is)
   (case qv10 => k_is)
   (case qv11 => k_is)
   (case qv12 => k_is)
   (case qa0 => k_is)
   (case ql0 => k_is)
   (case qc0 => k_is)
   (case qk0 => k_is)
   (case qa1 => k_is)
   (case ql1 => k_is)
   (case qc1 => k_is)
   (case qk1 => k_is)
   (case qa2 => k_is)
   (case ql2 => k_is)
   (case qc2 => k_is)
   (case qk2 => k_is)
   (case qa3 => k_is)
   (case ql3 => k_is)
   (case qc3 => k_is)
   (case qk3 => k_is)
   (case qa4 => k_is)
   (case ql4 => k_is)
   (case qc4 => k_is)
   (case qk4 => k_is)
   (case qa5 => k_is)
   (case ql5 => k_is)
   (case qc5 => k_is)
   (case qk5 => k_is)
   (case qa6 => k_is)
   (case ql6 => k_is)
   (case qc6 => k_is)
   (case qk6 => k_is)
   (case qa7 => k_is)
   (case ql7 => k_is)
   (case qc7 => k_is)
   (case qk7 => k_is)
   (case qa8 => k_is)
   (case ql8 => k_is)
   (case qc8 => k_is)
   (case qk8 => k_is)
   (case qa9 => k_is)
   (case ql9 => k_is)
   (case qc9 => k_is)
   (case qk9 => k_is)
   (case qa10 => k_is)
   (case ql10 => k_is)
   (case qc10 => k_is)
   (case qk10 => k_is)
   (case qa11 => k_is)
   (case ql11 => k_is)
   (case qc11 => k_is)
   (case qk11 => k_is)
   (case qa12 => k_is)
   (case ql12 => k_is)
   (case qc12 => k_is)
   (case qk12 => k_is)
   (case qa13 => k_is)
   (case ql13 => k_is)
   (case qc13 => k_is)
   (case qk13 => k_is)
   (case qa14 => k_is)
   (case ql14 => k_is)
   (case qc14 => k_is)
   (case qk14 => k_is)
   (case qa15 => k_is)
   (case qi15 => k_is)
   (case ql15 => k_is)
   (case qc15 => k_is)
   (case qk15 => k_is)
   (case qa16 => k_is)
   (case qi16 => k_is)
   (case ql16 => k_is)
   (case qc16 => k_is)
   (case qk16 => k_is)
   (case qa17 => k_is)
   (case qi17 => k_is)
   (case ql17 => k_is)
   (case qc17 => k_is)
   (case qk17 => k_is)
   (case qa18 => k_is)
   (case qi18 => k_is)
   (case ql18 => k_is)
   (case qc18 => k_is)
   (case qk18 => k_is)
   (case qa19 => k_is)
   (case qi19 => k_is)
   (case ql19 => k_is)
   (case qc19 => k_is)
   (case qk19 => k_is)
   (case qa20 => k_is)
   (case qi20 => k_is)
   (case ql20 => k_is)
   (case qc20 => k_is)
   (case qk20 => k_is)
   (case qa21 => k_is)
   (case qi21 => k_is)
   (case ql21 => k_is)
   (case qc21 => k_is)
   (case qk21 => k_is)
   (case qa22 => k_is)
   (case qi22 => k_is)
   (case ql22 => k_is)
   (case qc22 => k_is)
   (case qk22 => k_is)
   (case qa23 => k_is)
   (case qi23 => k_is)
   (case ql23 => k_is)
   (case qc23 => k_is)
   (case qk23 => k_is)
   (case qa24 => k_is)
   (case ql24 => k_is)
   (case qc24 => k_is)
   (case qk24 => k_is)
   (case qa25 => k_is)
   (case qi25 => k_is)
   (case ql25 => k_is)
   (case qc25 => k_is)
   (case qk25 => k_is)
   (case qa26 => k_is)
   (case ql26 => k_is)
   (case qc26 => k_is)
   (case qk26 => k_is)
   (case qa27 => k_is)
   (case ql27 => k_is)
   (case qc27 => k_is)
   (case qk27 => k_is)
   (case qa28 => k_is)
   (case ql28 => k_is)
   (case qc28 => k_is)
   (case qk28 => k_is)
   (case qa29 => k_is)
   (case ql29 => k_is)
   (case qc29 => k_is)
   (case qk29 => k_is)
   (case qa30 => k_is)
   (case ql30 => k_is)
   (case qc30 => k_is)
   (case qk30 => k_is)
   (case qa31 => k_is)
   (case ql31 => k_is)
   (case qc31 => k_is)
   (case qk31 => k_is)
   (case qa32 => k_is)
   (case ql32 => k_is)
   (case qc32 => k_is)
   (case qk32 => k_is)
   (case qa33 => k_is)
   (case ql33 => k_is)
   (case qc33 => k_is)
   (case qk33 => k_is)
   (case qa34 => k_is)
   (case qi34 => k_is)
   (case ql34 => k_is)
   (case qc34 => k_is)
   (case qk34 => k_is)
   (case qa35 => k_is)
   (case qi35 => k_is)
   (case ql35 => k_is)
   (case qc35 => k_is)
   (case qk35 => k_is)
   (case qa36 => k_is)
   (case ql36 => k_is)
   (case qc36 => k_is)
   (case qk36 => k_is)
   (case qa37 => k_is)
   (case ql37 => k_is)
   (case qc37 => k_is)
   (case qk37 => k_is)
   (case qa38 => k_is)
   (case qi38 => k_is)
   (case ql38 => k_is)
   (case qc38 => k_is)
   (case qk38 => k_is)
   (case qa39 => k_is)
   (case ql39 => k_is)
   (case qc39 => k_is)
   (case qk39 => k_is)
   (case qa40 => k_is)
   (case ql40 => k_is)
   (case qc40 => k_is)
   (case qk40 => k_is)
   (case qa41 => k_is)
   (case ql41 => k_is)
   (case qc41 => k_is)
   (case qk41 => k_is)
   (case qa42 => k_is)
   (case ql42 => k_is)
   (case qc42 => k_is)
   (case qk42 => k_is)
   (case qz0 => k_is)
   (case qz1 => k_is)
   (case qz2 => k_is)
   (case qz3 => k_is)
   (case qz4 => k_is)
   (case qz5 => k_is)
   (case qz6 => k_is)
   (case qz7 => k_is)
   (case qz8 => k_is)
   (case qz9 => k_is)
   (case qz10 => k_is)
   (case qg0 => k_is)
   (case qg1 => k_is)
   (case qh1 => k_is)
   (case qg2 => k_is)
   (case qg3 => k_is)
   (case qg4 => k_is)
   (case qg5 => k_is)
   (case qg6 => k_is)
   (case qg7 => k_is)
   (case qg8 => k_is)
   (case qg9 => k_is)
   (case qh9 => k_is)
   (case pg11 => k_is)
   (case pd11 => k_is)
   (case po11 => k_is)
   (case pe11 => k_is)
   (case pm11_ => k_is)
   (case pk11 => k_is)
   (case pn11_0 => k_is)
   (case pn11_1 => k_is)
   (case pn11_2 => k_is)
   (case pg12 => k_is)
   (case pd12 => k_is)
   (case po12 => k_is)
   (case pe12 => k_is)
   (case pm12_ => k_is)
   (case pk12 => k_is)
   (case pn12_0 => k_is)
   (case pn12_1 => k_is)
   (case pn12_2 => k_is)
   (case xx3 => kernel_rfl)
   (case xk3 => k_is)
   (case xy3_0 => k_is)
   (case xy3_1 => k_is)
   (case xy3_2 => k_is)
   (case xy3_3 => k_is)
   (case xy3_4 => k_is)
   (case xy3_5 => k_is)
   (case xy3_6 => k_is)
   (case xy3_7 => k_is)
   (case xo3 => kernel_rfl)
   (case xd3 => k_is)
   (case xn3 => k_is)
   (case xe3_0 => kernel_rfl)
   (case xe3_1 => kernel_rfl)
   (case xe3_2 => kernel_rfl)
   (case xI3_0 => kit_is)
   (case xJ3_0 => kit_is)
   (case rx0 => k_exc)
   (case ry0_0 => k_is)
   (case ry0_1 => k_is)
   (case ry0_2 => k_is)
   (case ry0_3 => k_is)
   (case ry0_4 => k_is)
   (case ry0_5 => k_is)
   (case ry0_6 => k_is)
   (case ry0_7 => k_is)
   (case re0_0 => kernel_rfl)
   (case re0_1 => kernel_rfl)
   (case re0_2 => kernel_rfl)
   (case ri0_0 => kit_is)
   (case rj0_0 => kit_is)
   (case rx1 => k_exc)
   (case ry1_0 => k_is)
   (case ry1_1 => k_is)
   (case ry1_2 => k_is)
   (case ry1_3 => k_is)
   (case ry1_4 => k_is)
   (case ry1_5 => k_is)
   (case ry1_6 => k_is)
   (case ry1_7 => k_is)
   (case re1_0 => kernel_rfl)
   (case re1_1 => kernel_rfl)
   (case re1_2 => kernel_rfl)
   (case ri1_0 => kit_is)
   (case rj1_0 => kit_is)
  obtain ⟨t, T⟩ := T
  have e0 := hmg.symm.trans T.m_law
  cases e0
  exact ⟨_, T.w_law, fun base _ _ => K14.ok_law T⟩
 case S => exact fun K H a ns hl _ hS => ⟨a, ns, rfl, hS, hl, fun _ => rfl⟩
