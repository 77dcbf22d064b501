import PyProof.Rows.All
import Wide.All
import OpenK.AllK
import Wide.FinOn
import Lean
import PyProof.EqAt
import PyProof.EqKinds
import PyProof.TupleCall
import PySem.Challenge.RW_forerun_k30_a_run_walked
import KE.IntBitsLaws
import KE.KDictList
import KE.KDictOf
import KE.KEqDict
import KE.KIntText
import KE.KItemsList
import KE.KRevIter
import KE.KSortAsk
import KE.KSortTup
import KE.KSorted
import KE.KTryMore
import KE.LcSums
import PyProof.AttrMissHeap
import PyProof.Conv_int_bool
import PyProof.DictItems
import PyProof.DictKinds
import PyProof.DictWalks
import PyProof.EnumFor
import PyProof.EnumMake
import PyProof.EqKinds
import PyProof.ListIndexNeg
import PyProof.MeetsStr
import PyProof.NeKinds
import PyProof.NsDelKeeps
import PyProof.P3Eq
import PyProof.Rows.EqDataRows
import PyProof.Rows.Range3
import PyProof.StrCalls2
import PyProof.StrLaws
import PyProof.StrLawsTight
import PyProof.StrOps
import PyProof.StrOps2
import PyProof.TupleIter
import PyProof.TupleKey
import PyProof.TupleOfSeq
import PyProof.ZipIter
import Wide.ObjOpen
import Wide.RegSB
set_option Elab.async false
set_option linter.all false
set_option maxRecDepth 100000
namespace L2
open PySem PySem.Spec PyProof.Rows
abbrev Key:=Sum Int Str
def Y5:Key→Value→Bool
 | .inl k,v=>Value.isInt k v
 | .inr x,v=>Value.isStrOf x v
def zb6 (w:World):Key→Int
 | .inl k=>hashInt k
 | .inr x=>hashStr w x
theorem yI:∀ {k:Key} {v:Value},Y5 k v=true→(∃ i t,k=Sum.inl i∧v=Value.int i t)∨(∃ x t,k=Sum.inr x∧v=Value.str x t)
 | .inl i,v,h=>by
  obtain ⟨t,e⟩:=Value.isInt_shape (k:=i) (v:=v) h
  exact .inl ⟨i,t,rfl,e⟩
 | .inr x,v,h=>by
  obtain ⟨t,e⟩:=Value.isStrOf_shape (x:=x) (v:=v) h
  exact .inr ⟨x,t,rfl,e⟩
theorem JL (i:Int) (t:Tok):Y5 (.inl i) (.int i t)=true:=by simp [Y5,Value.isInt]
theorem JM (x:Str) (t:Tok):Y5 (.inr x) (.str x t)=true:=by simp [Y5,Value.isStrOf]
theorem za3 (a b:Int):decide ((Sum.inl a:Key)=Sum.inl b)=(a == b):=by
 by_cases e:a=b
 ·subst e;simp
 ·have h:¬ (Sum.inl a:Key)=Sum.inl b:=fun q=>e (Sum.inl.inj q)
  rw [decide_eq_false h]
  exact (beq_eq_false_iff_ne.mpr e).symm
theorem za4 (a b:Str):decide ((Sum.inr a:Key)=Sum.inr b)=decide (a=b):=by
 by_cases e:a=b
 ·subst e;simp
 ·have h:¬ (Sum.inr a:Key)=Sum.inr b:=fun q=>e (Sum.inr.inj q)
  rw [decide_eq_false h,decide_eq_false e]
theorem za5 (a:Int) (b:Str):decide ((Sum.inl a:Key)=Sum.inr b)=false:=decide_eq_false (fun q=>nomatch q)
theorem za6 (a:Str) (b:Int):decide ((Sum.inr a:Key)=Sum.inl b)=false:=decide_eq_false (fun q=>nomatch q)
def yw (prog:Program) (w:World):PySem.KeyKind prog w Key where
 is:=Y5
 hash:=zb6 w
 inj:=fun v a b ha hb=>by
  rcases yI ha with ⟨i,t,rfl,rfl⟩ | ⟨x,t,rfl,rfl⟩
  ·rcases yI hb with ⟨j,u,rfl,e⟩ | ⟨y,u,rfl,e⟩
   ·injection e with e1 _;rw [e1]
   ·exact nomatch e
  ·rcases yI hb with ⟨j,u,rfl,e⟩ | ⟨y,u,rfl,e⟩
   ·exact nomatch e
   ·injection e with e1 _;rw [e1]
 byValue:=fun k v h=>by
  rcases yI h with ⟨i,t,rfl,rfl⟩ | ⟨x,t,rfl,rfl⟩ <;> rfl
 pyHash:=fun hv h=>by
  rcases yI hv with ⟨i,t,rfl,rfl⟩ | ⟨x,t,rfl,rfl⟩
  ·exact wpAny_pyHash_int h
  ·exact wpAny_pyHash_str h
 eqBool:=fun hu hv h=>by
  rcases yI hu with ⟨i,t,rfl,rfl⟩ | ⟨x,t,rfl,rfl⟩
  ·rcases yI hv with ⟨j,u,rfl,rfl⟩ | ⟨y,u,rfl,rfl⟩
   ·rw [za3] at h;exact wpAny_eqBool_int h
   ·rw [za5] at h;exact SeqAt.EqAt.int_str i t y u _ _ _ _ h
  ·rcases yI hv with ⟨j,u,rfl,rfl⟩ | ⟨y,u,rfl,rfl⟩
   ·rw [za6] at h;exact SeqAt.EqAt.str_int x t j u _ _ _ _ h
   ·rw [za4] at h;exact wpAny_eqBool_str h
 «strs»:=fun k x t v h=>by
  rcases yI h with ⟨i,u,rfl,e⟩ | ⟨y,u,rfl,e⟩
  ·exact nomatch e
  ·injection e with e1 _
   subst e1
   cases v <;> rfl
theorem Wq (prog:Program) (w:World) (i:Int) (t:Tok):(yw prog w).is (.inl i) (.int i t)=true:=JL i t
theorem Wr (prog:Program) (w:World) (x:Str) (t:Tok):(yw prog w).is (.inr x) (.str x t)=true:=JM x t
end L2
namespace L2
open PySem PySem.Spec PyProof.Rows
inductive V where
 | non | bl (b:Bool) | int (i:Int) | str (x:Str) | byt (b:Array UInt8) | flt (b:UInt64) | ref (a:Addr) | ty (n:String)
 deriving DecidableEq
def RelV:V→Value→Prop
 | .non,u=>u=Value.none
 | .bl b,u=>u=Value.bool b
 | .int i,u=>∃ t,u=Value.int i t
 | .str x,u=>∃ t,u=Value.str x t
 | .byt b,u=>∃ t,u=Value.bytes b t
 | .flt b,u=>∃ t,u=Value.float b t
 | .ref a,u=>u=Value.ref a
 | .ty n,u=>u=Value.type n
abbrev Vals:List V→List Value→Prop:=Paired RelV
theorem Vals.length {xs:List V} {us:List Value} (r:Vals xs us):xs.length=us.length:=Paired.length r
theorem Vals.get:∀ {xs:List V} {us:List Value} {i:Nat} {x:V},Vals xs us→xs[i]?=some x→∃ u,us[i]?=some u∧RelV x u
 | _,_,_,_,.nil,e=>by simp at e
 | _,_,0,_,.cons r _,e=>by simp at e;subst e;exact ⟨_,rfl,r⟩
 | _,_,i + 1,x,.cons _ t,e=>by
  obtain ⟨u,h1,h2⟩:=Vals.get (i:=i) (x:=x) t (by simpa using e)
  exact ⟨u,by simpa using h1,h2⟩
theorem Vals.append:∀ {xs ys:List V} {us ws:List Value},Vals xs us→Vals ys ws→Vals (xs ++ ys) (us ++ ws)
 | _,_,_,_,.nil,s=>s
 | _,_,_,_,.cons r t,s=>.cons r (Vals.append t s)
theorem Vals.take:∀ {xs:List V} {us:List Value} (n:Nat),Vals xs us→Vals (xs.take n) (us.take n)
 | _,_,0,_=>.nil
 | _,_,_ + 1,.nil=>.nil
 | _,_,n + 1,.cons r t=>.cons r (Vals.take n t)
theorem Vals.drop:∀ {xs:List V} {us:List Value} (n:Nat),Vals xs us→Vals (xs.drop n) (us.drop n)
 | _,_,0,r=>r
 | _,_,_ + 1,.nil=>.nil
 | _,_,n + 1,.cons _ t=>Vals.drop n t
def RelO:Option V→Option Value→Prop
 | some v,some u=>RelV v u
 | none,none=>True
 | _,_=>False
def KV {κ:Type}:List (κ × V)→List (κ × Value)→Prop:=Paired fun (p:κ × V) (q:κ × Value)=>p.1=q.1∧RelV p.2 q.2
def kV:Key→V
 | .inl i=>.int i
 | .inr x=>.str x
inductive HO where
  | lst (xs:List V)
  | tup (xs:List V)
  | dK (kvs:List (Key × V)) | dT (kvs:List (List Key × V))
  | set (S:Int→Bool) (n:Nat)
  | ins (C dx:Addr) (fs:List (Str × V))
  | own (x:Addr)
  | xd (fs:List (Str × V))
  | met (f x:Addr)
  | rng (lo hi:Int)
  | frz (o:Obj) (u:HO)
  | tbl (ps:Array Value)
  | ext (φ:Heap→Prop)
abbrev Hp:=Addr→Option HO
def upd (H:Hp) (a:Addr) (o:HO):Hp:=fun b=>if b=a then some o else H b
theorem ze {H:Hp} {a:Addr} {o:HO}:upd H a o a=some o:=by unfold upd;rw [if_pos rfl]
theorem zk {H:Hp} {a b:Addr} {o:HO} (h:b≠a):upd H a o b=H b:=by unfold upd;rw [if_neg h]
theorem Xz {H:Hp} {a:Addr} {o u:HO}:upd (upd H a o) a u=upd H a u:=by
 funext b;unfold upd;split <;> rfl
theorem zS {H:Hp} {a b:Addr} {o u:HO} (h:H a=some o) (h':H b=some u) (d:o≠u):a≠b:=by
 intro e;subst e;rw [h] at h';exact d (Option.some.inj h')
theorem zL {H:Hp} {a b:Addr} {o:HO} (h:H a=some o) (h':H b=none):a≠b:=by
 intro e;subst e;rw [h] at h';cases h'
section
variable (P:Program) (w:World)
def ObjOk (H:Hp) (h:Heap) (a:Addr):HO→Prop
 | .lst xs=>xs.length≤sizeLine∧∃ (its:List Value) (n:Nat),Vals xs its∧h.get? a=some { cls:=.type "list",data:=.seq its.toArray n }
 | .tup xs=>xs.length≤sizeLine∧∃ its:List Value,Vals xs its∧IsTup h a its.toArray
 | .dK kvs=>kvs.length≤sizeLine∧(a == sysModules)=false∧∃ vs,KV kvs vs∧h.DictOf (yw P w) a vs
 | .dT kvs=>kvs.length≤sizeLine∧(a == sysModules)=false∧∃ xs:List (List Key × Addr × Value),
   Paired (fun (p:List Key × V) (q:List Key × Addr × Value)=>p.1=q.1∧H q.2.1=some (.tup (p.1.map kV))∧RelV p.2 q.2.2) kvs xs ∧
   ∃ o es ep,h.get? a=some o∧o.ExactDict∧o.data=.dict es ep∧es.toList=xs.map (entryOfKey (tupleKind (yw P w)))∧(xs.map (·.1)).Nodup
 | .set S n=>h.SetOf (intKind P w) a S n
 | .ins C dx fs=>H dx=some (.own a)∧fs.length≤1000∧dx≠a∧h.get? a=some (W.instObj C dx) ∧
   ∃ mA,h.Ns1 dx mA∧(∀ f,RelO (fs.lookup f) (mA f))∧PySem.Within mA (fs.map (·.1))
 | .own _=>∃ o,h.get? a=some o
 | .xd fs=>∃ mA,h.Ns1 a mA∧∀ f,RelO (fs.lookup f) (mA f)
 | .rng lo hi=>∃ t u v,h.get? a=some { cls:=.type "range",data:=.fields #[.int lo t,.int hi u,.int 1 v] }
 | .frz o u=>h.get? a=some o∧ObjOk H h a u
 | .tbl ps=>h.get? a=some { cls:=.none,data:=.fields ps }
 | .met f x=>h.get? a=some (W.methodObj (.ref f) (.ref x))
 | .ext φ=>φ h∧(∃ o,h.get? a=some o)∧∀ h1 h2:Heap,φ h1→(∀ o,h1.get? a=some o→h2.get? a=some o)→φ h2
def HOk (H:Hp) (h:Heap):Prop:=∀ a o,H a=some o→ObjOk P w H h a o
end
section
variable {P:Program} {w:World} {H H':Hp} {h h':Heap} {a:Addr} {o:HO}
theorem ObjOk.lt (x:ObjOk P w H h a o):a < h.objs.size:=by
 cases o with
 | lst xs=>obtain ⟨_,_,_,_,e⟩:=x;exact Heap.lt_size e
 | tup xs=>obtain ⟨_,_,_,p⟩:=x;exact p.lt
 | dK kvs=>obtain ⟨_,_,_,_,o,_,_,e,_⟩:=x;exact Heap.lt_size e
 | dT kvs=>obtain ⟨_,_,_,_,o,_,_,e,_⟩:=x;exact Heap.lt_size e
 | set S n=>obtain ⟨o,_,_,_,e,_⟩:=x;exact Heap.lt_size e
 | ins C dx fs=>obtain ⟨_,_,_,e,_⟩:=x;exact Heap.lt_size e
 | own y=>obtain ⟨_,e⟩:=x;exact Heap.lt_size e
 | xd fs=>obtain ⟨_,⟨_,_,_,e,_⟩,_⟩:=x;exact Heap.lt_size e
 | rng lo hi=>obtain ⟨_,_,_,e⟩:=x;exact Heap.lt_size e
 | frz ob u=>obtain ⟨e,_⟩:=x;exact Heap.lt_size e
 | tbl ps=>exact Heap.lt_size (show h.get? a=some _ from x)
 | met f y=>exact Heap.lt_size (show h.get? a=some _ from x)
 | ext φ=>obtain ⟨_,⟨_,e⟩,_⟩:=x;exact Heap.lt_size e
theorem Paired.mapP {α β:Type} {F G:α→β→Prop}:∀ {l₁:List α} {l₂:List β},Paired F l₁ l₂→(∀ a b,F a b→G a b)→Paired G l₁ l₂
 | _,_,.nil,_=>.nil
 | _,_,.cons r t,f=>.cons (f _ _ r) (Paired.mapP t f)
theorem ObjOk.stay (x:ObjOk P w H h a o) (k:∀ b u,(b=a∨H b=some (.own a))→h.get? b=some u→h'.get? b=some u)
  (ho:∀ b,H b=some (.own a)→H' b=some (.own a)) (ht:∀ b xs,H b=some (.tup xs)→H' b=some (.tup xs)):ObjOk P w H' h' a o:=by
 induction o with
 | lst xs=>obtain ⟨z,its,n,r,e⟩:=x;exact ⟨z,its,n,r,k _ _ (.inl rfl) e⟩
 | tup xs=>obtain ⟨z,its,r,ob,e,c⟩:=x;exact ⟨z,its,r,ob,k _ _ (.inl rfl) e,c⟩
 | dK kvs=>obtain ⟨z,y,vs,r,ob,es,ep,e,c⟩:=x;exact ⟨z,y,vs,r,ob,es,ep,k _ _ (.inl rfl) e,c⟩
 | dT kvs =>
  obtain ⟨z,y,xs,r,ob,es,ep,e,c⟩:=x
  exact ⟨z,y,xs,Paired.mapP r fun p q z=>⟨z.1,ht _ _ z.2.1,z.2.2⟩,ob,es,ep,k _ _ (.inl rfl) e,c⟩
 | set S n=>obtain ⟨ob,es,ep,t,e,c⟩:=x;exact ⟨ob,es,ep,t,k _ _ (.inl rfl) e,c⟩
 | ins C dx fs =>
  obtain ⟨d,z,ne,e,mA,⟨od,es,ep,e2,c⟩,r⟩:=x
  exact ⟨ho _ d,z,ne,k _ _ (.inl rfl) e,mA,⟨od,es,ep,k _ _ (.inr d) e2,c⟩,r⟩
 | own y=>obtain ⟨ob,e⟩:=x;exact ⟨ob,k _ _ (.inl rfl) e⟩
 | xd fs=>obtain ⟨mA,⟨od,es,ep,e,c⟩,r⟩:=x;exact ⟨mA,⟨od,es,ep,k _ _ (.inl rfl) e,c⟩,r⟩
 | rng lo hi=>obtain ⟨t,u,v,e⟩:=x;exact ⟨t,u,v,k _ _ (.inl rfl) e⟩
 | frz ob u ih=>obtain ⟨e,q⟩:=x;exact ⟨k _ _ (.inl rfl) e,ih q⟩
 | tbl ps =>
  have e:h.get? a=some { cls:=.none,data:=.fields ps }:=x
  show h'.get? a=some { cls:=.none,data:=.fields ps }
  exact k a _ (.inl rfl) e
 | met f y =>
  have e:h.get? a=some (W.methodObj (.ref f) (.ref y)):=x
  show h'.get? a=some (W.methodObj (.ref f) (.ref y))
  exact k a _ (.inl rfl) e
 | ext φ=>obtain ⟨p,⟨o,e⟩,st⟩:=x;exact ⟨st _ _ p fun o q=>k _ _ (.inl rfl) q,⟨o,k _ _ (.inl rfl) e⟩,st⟩
theorem HOk.lt (x:HOk P w H h) (e:H a=some o):a < h.objs.size:=(x a o e).lt
theorem HOk.fresh (x:HOk P w H h) (e:h.objs.size≤a):H a=none:=by
 cases q:H a with
 | none=>rfl
 | some u=>exact absurd (Nat.lt_of_lt_of_le (x.lt q) e) (Nat.lt_irrefl _)
theorem HOk.kept (x:HOk P w H h) (k:∀ b u,h.get? b=some u→h'.get? b=some u):HOk P w H h':=fun a o e =>
 (x a o e).stay (fun b u _ q=>k b u q) (fun _ q=>q) fun _ _ q=>q
theorem HOk.laid (x:HOk P w H h) (k:∀ b u,h.get? b=some u→h'.get? b=some u) (hp:h.objs.size≤a) (new:ObjOk P w (upd H a o) h' a o):HOk P w (upd H a o) h':=fun b u e=>by
 have hn:=x.fresh hp
 by_cases hb:b=a
 ·subst hb;rw [ze] at e;cases e;exact new
 ·rw [zk hb] at e
  exact (x b u e).stay (fun c v _ q=>k c v q) (fun c q=>by rw [zk (zL q hn)];exact q) fun c xs q=>by rw [zk (zL q hn)];exact q
end
def Rd (H:Hp) (a:Addr) (u:HO):Prop:=H a=some u∨∃ o,H a=some (.frz o u)
theorem Rd.ok {P:Program} {w:World} {H:Hp} {h:Heap} {a:Addr} {u:HO} (r:Rd H a u) (x:HOk P w H h):ObjOk P w H h a u:=by
 rcases r with r | ⟨o,r⟩
 ·exact x a u r
 ·obtain ⟨_,q⟩:=x a _ r
  exact q
def Mut:Option HO→Prop
 | some (.lst _)=>True
 | some (.dK _)=>True
 | some (.dT _)=>True
 | some (.set _ _)=>True
 | some (.ins _ _ _)=>True
 | some (.ext _)=>True
 | _=>False
section
variable {P:Program} {w:World} {H:Hp} {h h':Heap} {x e:Addr} {o':HO}
theorem HOk.write (ok:HOk P w H h) (mu:Mut (H x)) (he:e=x∨H e=some (.own x)) (k:∀ b u,b≠e→h.get? b=some u→h'.get? b=some u) (heo:∃ u,h'.get? e=some u)
  (new:ObjOk P w (upd H x o') h' x o'):HOk P w (upd H x o') h':=fun b u q=>by
 have nown:∀ c y,H c=some (.own y)→c≠x:=fun c y r z=>by subst z;rw [r] at mu;exact mu
 have ntup:∀ c xs,H c=some (.tup xs)→c≠x:=fun c xs r z=>by subst z;rw [r] at mu;exact mu
 by_cases hb:b=x
 ·subst hb;rw [ze] at q;cases q;exact new
 ·rw [zk hb] at q
  by_cases hbe:b=e
  ·have q':H b=some (.own x):=by
    rcases he with z | z
    ·exact absurd (hbe.trans z) hb
    ·rw [hbe];exact z
   rw [q] at q';cases q'
   obtain ⟨v,hv⟩:=heo
   exact ⟨v,by rw [hbe];exact hv⟩
  ·refine (ok b u q).stay (fun c v hc r=>k c v ?_ r) (fun c r=>by rw [zk (nown c b r)];exact r) fun c xs r=>by rw [zk (ntup c xs r)];exact r
   rcases hc with rfl | hc
   ·exact hbe
   ·rintro rfl
    rcases he with z | z
    ·exact nown c b hc z
    ·rw [hc] at z;cases z;exact hb rfl
end
structure Un (fs ex:List Addr) (H H':Hp) (h h':Heap):Prop where
 keep:∀ b o,h.get? b=some o→H b=none→b ∉ fs→b ∉ ex→h'.get? b=some o
 slot:∀ b o,h.get? b=some o→H b=none→b∈fs→b ∉ ex→∃ sl,h'.get? b=some { o with slots:=sl }
 free:∀ b o,h.get? b=some o→H b=none→b ∉ ex→H' b=none
 there:∀ b o,h.get? b=some o→b ∉ ex→∃ o',h'.get? b=some o'
 tups:∀ b xs,H b=some (.tup xs)→H' b=some (.tup xs)
 frzs:∀ b o u,H b=some (.frz o u)→H' b=some (.frz o u)
 tbls:∀ b ps,H b=some (.tbl ps)→∃ more,H' b=some (.tbl (ps ++ more))
section
variable {fs fs' ex ex':List Addr} {H H1 H2:Hp} {h h1 h2 h':Heap} {a x e:Addr} {o:HO}
theorem Un.any (u:Un fs ex H H1 h h1) {b:Addr} {ob:Obj} (q:h.get? b=some ob) (n:H b=none) (hx:b ∉ ex):∃ sl,h1.get? b=some { ob with slots:=sl }:=by
 by_cases hb:b∈fs
 ·exact u.slot b ob q n hb hx
 ·exact ⟨ob.slots,u.keep b ob q n hb hx⟩
theorem Un.kept (k:∀ b u,h.get? b=some u→h'.get? b=some u):Un fs ex H H h h' :=
 ⟨fun b ob q _ _ _=>k b ob q,fun b ob q _ _ _=>⟨ob.slots,k b ob q⟩,fun _ _ _ n _=>n,fun b ob q _=>⟨ob,k b ob q⟩,fun _ _ q=>q,fun _ _ _ q=>q,fun _ ps q=>⟨#[],by rw [q];simp⟩⟩
theorem Un.refl:Un fs ex H H h h:=Un.kept fun _ _ q=>q
theorem Un.laid (k:∀ b u,h.get? b=some u→h'.get? b=some u) (hp:h.objs.size≤a) (hn:H a=none):Un fs ex H (upd H a o) h h' where
 keep:=fun b u q _ _ _=>k b u q
 slot:=fun b u q _ _ _=>⟨u.slots,k b u q⟩
 free:=fun b u q n _=>by rw [zk (Nat.ne_of_lt (Nat.lt_of_lt_of_le (Heap.lt_size q) hp))];exact n
 there:=fun b u q _=>⟨u,k b u q⟩
 tups:=fun b xs q=>by rw [zk (zL q hn)];exact q
 frzs:=fun b u xs q=>by rw [zk (zL q hn)];exact q
 tbls:=fun b ps q=>⟨#[],by rw [zk (zL q hn),q];simp⟩
theorem Un.write (mu:Mut (H x)) (he:e=x∨H e=some (.own x)) (k:∀ b u,b≠e→h.get? b=some u→h'.get? b=some u) (heo:∃ u,h'.get? e=some u):Un fs ex H (upd H x o) h h':=by
 have hx:∀ b,H b=none→b≠x:=fun b n z=>by subst z;rw [n] at mu;exact mu
 have hb:∀ b,H b=none→b≠e:=fun b n z=>by
  subst z
  rcases he with r | r
  ·exact hx b n r
  ·rw [n] at r;cases r
 have hm:∀ b u,H b=some u→¬ Mut (some u)→b≠x:=fun b u q nm z=>by subst z;rw [q] at mu;exact nm mu
 refine ⟨fun b u q n _ _=>k b u (hb b n) q,fun b u q n _ _=>⟨u.slots,k b u (hb b n) q⟩,fun b u q n _=>by rw [zk (hx b n)];exact n,fun b u q _=>?_,
  fun b xs q=>by rw [zk (hm b _ q fun z=>z)];exact q,fun b u xs q=>by rw [zk (hm b _ q fun z=>z)];exact q,fun b ps q=>⟨#[],by rw [zk (hm b _ q fun z=>z),q];simp⟩⟩
 by_cases hbe:b=e
 ·subst hbe;exact heo
 ·exact ⟨u,k b u hbe q⟩
end
def trk (h:Heap) (H:Hp):List Addr:=(List.range h.objs.size).filter fun a=>(H a).isSome
def XA (h:Heap) (H:Hp):Heap:=W.hideAll h (trk h H)
theorem JN (h:Heap) (H:Hp):(XA h H).objs.size=h.objs.size:=W.hideAll_size _ _
theorem Kg {h:Heap} {H:Hp} {b:Addr} {o:Obj} (e:h.get? b=some o) (n:H b=none):(XA h H).get? b=some o :=
 W.hideAll_get _ e fun hm=>by
  have q:(H b).isSome=true:=(List.mem_filter.mp hm).2
  rw [n] at q;simp at q
theorem QR {h:Heap} {H:Hp} {b:Addr} {o:Obj} (e:(XA h H).get? b=some o):h.get? b=some o∧H b=none:=by
 have e':h.get? b=some o:=W.of_hideAll (trk h H) e
 refine ⟨e',?_⟩
 cases q:H b with
 | none=>rfl
 | some x =>
  have hm:b∈trk h H:=List.mem_filter.mpr ⟨List.mem_range.mpr (Heap.lt_size e'),by simp [q]⟩
  have z:(XA h H).get? b=none:=W.hideAll_none (trk h H) hm
  rw [z] at e;cases e
def QS (g h:Heap) (L:Addr):List (Addr × Obj):=(List.range h.objs.size).filterMap fun a=>if a=L∨(g.get? a).isSome=true then none else (h.get? a).map fun o=>(a,o)
def rest (g h:Heap) (L d:Addr):List (Addr × Obj):=(QS g h L).filter fun p=>decide (p.1≠d)
end L2
namespace L2
open PySem PySem.Spec PyProof.Rows
structure Mod (K:W.Frag) (mg:Str→Option Value) (base:Heap):Prop where
 kin:K.In base
 glob:base.Ns mainGlobals mg
 blt:∃ mb,base.Ns builtinsNs mb∧∀ x:Str,x≠"__name__"→mb x=bootBuiltins x
 nolimit:base.NoLimit
set_option genSizeOf false in
set_option genInjectivity false in
structure Cx where
 prog:Program
 w:World
 K:W.Frag
 mg:Str→Option Value
 base:Heap
 A:Around
 N:List Str
 s₀:Shared
 H₀:Hp
 env:Env
 outer:List Env
 stack:List Env
 ex:List Addr
 fn:Str→Bool
 calm:Bool
 pn:List (Addr × Obj)
 xe:Value→Shared→Prop
def frs (l:List Env):List Addr:=l.filterMap (·.frame)
abbrev Cx.fs (X:Cx):List Addr:=frs X.outer
def Vis (sc:Scope) (x:Str):Prop:=sc.names.lookup x=some .local∨sc.names.lookup x=some .cell∨sc.names.lookup x=some .free
def Loc (sc:Scope) (x:Str):Prop:=sc.names.lookup x=some .local∨sc.names.lookup x=some .cell
def zb7 (env:Env) (h:Heap) (m:Str→Option Value) (x:Str) (u:Value):Prop :=
 (env.kindOf x=some .local∧m x=some u)∨((env.kindOf x=some .cell∨env.kindOf x=some .free)∧∃ c,env.cells.lookup x=some c∧h.IsCell c (some u))
structure Cx.Ok (X:Cx):Prop where
 mod:Mod X.K X.mg X.base
 kind:X.env.scope.kind=.function
 glob:X.env.globals=mainGlobals
 blt:X.env.builtins=builtinsNs
 above:X.s₀.heap.objs.size≤X.env.locals
 inj:∀ x y c,X.env.cells.lookup x=some c→X.env.cells.lookup y=some c→x=y
 has:∀ x,(X.env.kindOf x=some .cell∨X.env.kindOf x=some .free)→∃ c,X.env.cells.lookup x=some c
 cab:∀ x c,X.fn x=true→X.env.cells.lookup x=some c→X.s₀.heap.objs.size≤c
 hd:X.calm=true→X.A.handled=none
 frames:X.A.frames=some X.stack
 stk:X.stack=X.outer∨(X.stack=X.env :: X.outer∧X.env.frame=some X.env.locals)
 exf:∀ b∈X.ex,b≠X.env.locals∧∀ x c,X.env.cells.lookup x=some c→c≠b
 bs:∀ b o,X.base.get? b=some o→X.s₀.heap.get? b=some o∧X.H₀ b=none
 bsz:X.base.objs.size≤X.s₀.heap.objs.size
 noex:∀ b o,X.base.get? b=some o→b ∉ X.ex
 exfs:∀ b∈X.ex,b ∉ X.fs
 funs:X.s₀.heap.FunFrames X.base X.outer
 frf:∀ b∈X.fs,X.H₀ b=none
structure Inv (X:Cx) (pins:List (Addr × Obj)) (σ:List (Option V)) (H:Hp) (s:Shared):Prop where
 ok:X.Ok
 os:s.os=X.s₀.os
 bare:AllBare s.gens
 base:Un X.fs X.ex X.H₀ H X.s₀.heap s.heap
 loc:∃ m,s.heap.Ns X.env.locals m∧∀ (i:Nat) (x:Str) (v:V),X.N[i]?=some x→σ[i]?=some (some v)→Vis X.env.scope x→∃ u,RelV v u∧zb7 X.env s.heap m x u
 cell:∀ x c,X.env.cells.lookup x=some c→∃ v,s.heap.IsCell c v
 free:H X.env.locals=none
 freeC:∀ x c,X.env.cells.lookup x=some c→H c=none
 pin:∀ p∈X.pn ++ pins,s.heap.get? p.1=some p.2∧H p.1=none∧p.1≠X.env.locals∧p.1 ∉ X.fs∧∀ v,p.2.data≠.cell v
 hok:HOk X.prog X.w H s.heap
 len:σ.length=X.N.length
section
variable {X:Cx} {pins:List (Addr × Obj)} {σ:List (Option V)} {H H':Hp} {s:Shared} {h':Heap}
theorem Cx.Ok.nofr (ok:X.Ok) {b:Addr} {o:Obj} (e:X.base.get? b=some o):b ∉ X.fs:=fun hb=>by
 have:=(ok.funs.mem hb).1
 rw [e] at this;cases this
theorem Inv.bs (I:Inv X pins σ H s):∀ b o,X.base.get? b=some o→s.heap.get? b=some o∧H b=none:=fun b o e =>
 ⟨I.base.keep b o (I.ok.bs b o e).1 (I.ok.bs b o e).2 (I.ok.nofr e) (I.ok.noex b o e),I.base.free b o (I.ok.bs b o e).1 (I.ok.bs b o e).2 (I.ok.noex b o e)⟩
theorem Inv.bk (I:Inv X pins σ H s):∀ b o,X.base.get? b=some o→s.heap.get? b=some o:=fun b o e=>(I.bs b o e).1
theorem Inv.mod (I:Inv X pins σ H s):Mod X.K X.mg X.base:=I.ok.mod
theorem Inv.kIn (I:Inv X pins σ H s):X.K.In s.heap:=I.ok.mod.kin.keeps I.bk
theorem Inv.lt (I:Inv X pins σ H s):X.env.locals < s.heap.objs.size:=let ⟨_,hn,_⟩:=I.loc;hn.lt
theorem Inv.sz (I:Inv X pins σ H s):X.s₀.heap.objs.size≤s.heap.objs.size:=Nat.le_trans I.ok.above (Nat.le_of_lt I.lt)
theorem Inv.nofs (I:Inv X pins σ H s) {a:Addr} (h:s.heap.objs.size≤a):a ∉ X.fs:=fun hb=>by
 obtain ⟨_,o,ho,_⟩:=I.ok.funs.mem hb
 exact absurd (Nat.lt_of_lt_of_le (Heap.lt_size ho) (Nat.le_trans I.sz h)) (Nat.lt_irrefl _)
theorem Inv.cne (I:Inv X pins σ H s):∀ x c,X.env.cells.lookup x=some c→c≠X.env.locals:=fun x c e z=>by
 obtain ⟨v,o,ho,hd⟩:=I.cell x c e
 obtain ⟨m,⟨o',es,ep,ho',hd',_⟩,_⟩:=I.loc
 rw [z,ho'] at ho;cases ho;rw [hd'] at hd;cases hd
theorem Inv.funs (I:Inv X pins σ H s):s.heap.FunFrames X.base X.outer:=by
 have all:∀ (l:List Env),(∀ b∈frs l,b∈X.fs)→X.s₀.heap.FunFrames X.base l→s.heap.FunFrames X.base l:=by
  intro l
  induction l with
  | nil=>intro _ _;trivial
  | cons env r ih =>
   intro hs hl
   obtain ⟨hk,⟨L,o,hf,hn,ho,hd⟩,hr⟩:=hl
   have hL:L∈X.fs:=hs L (by unfold frs;rw [List.filterMap_cons,hf];exact List.mem_cons_self)
   obtain ⟨sl,e⟩:=I.base.slot L o ho (I.ok.frf L hL) hL fun z=>I.ok.exfs L z hL
   exact ⟨hk,⟨L,_,hf,hn,e,hd⟩,ih (fun b hb=>hs b (by unfold frs;rw [List.filterMap_cons,hf];exact List.mem_cons_of_mem _ hb)) hr⟩
 exact all X.outer (fun _ hb=>hb) I.ok.funs
theorem Inv.stack (I:Inv X pins σ H s):s.heap.FunFrames X.base X.stack:=by
 rcases I.ok.stk with e | ⟨e,hf⟩
 ·rw [e];exact I.funs
 ·rw [e]
  obtain ⟨m,hn,_⟩:=I.loc
  refine .cons (by rw [I.ok.kind];decide) hf hn ?_ I.funs
  exact Heap.get?_none_of_le (Nat.le_trans I.ok.bsz I.ok.above)
theorem Inv.stkSub (I:Inv X pins σ H s):∀ b∈frs X.stack,b∈X.env.locals :: X.fs:=fun b hb=>by
 rcases I.ok.stk with e | ⟨e,hf⟩
 ·rw [e] at hb;exact List.mem_cons_of_mem _ hb
 ·rw [e] at hb
  unfold frs at hb
  rw [List.filterMap_cons,hf] at hb
  exact hb
theorem Inv.stkFree (I:Inv X pins σ H s):∀ b∈frs X.stack,H b=none:=fun b hb=>by
 rcases List.mem_cons.mp (I.stkSub b hb) with e | hb
 ·rw [e];exact I.free
 ·obtain ⟨_,o,ho,_⟩:=I.ok.funs.mem hb
  exact I.base.free b o ho (I.ok.frf b hb) fun z=>I.ok.exfs b z hb
theorem Inv.step {g':Array GenState} {t':Nat} {d':Drawn} {ch:List Addr} (I:Inv X pins σ H s)
  (hch:∀ b∈ch,(b∈X.ex∨X.s₀.heap.objs.size≤b)∧b≠X.env.locals∧(∀ x c,X.env.cells.lookup x=some c→c≠b)∧∀ p∈X.pn ++ pins,p.1≠b)
  (keep:∀ b o,b≠X.env.locals→b ∉ X.fs→b ∉ ch→s.heap.get? b=some o→H b=none→h'.get? b=some o)
  (slot:∀ b o,b≠X.env.locals→b∈X.fs→b ∉ ch→s.heap.get? b=some o→H b=none→∃ sl,h'.get? b=some { o with slots:=sl }) (free:∀ b o,b ∉ ch→s.heap.get? b=some o→H b=none→H' b=none)
  (there:∀ b o,b ∉ ch→s.heap.get? b=some o→∃ o',h'.get? b=some o')
  (tups:∀ b xs,H b=some (.tup xs)→H' b=some (.tup xs)) (frzs:∀ b o u,H b=some (.frz o u)→H' b=some (.frz o u)) (tbls:∀ b ps,H b=some (.tbl ps)→∃ more,H' b=some (.tbl (ps ++ more)))
  (ns:∀ m,s.heap.Ns X.env.locals m→h'.Ns X.env.locals m) (hok:HOk X.prog X.w H' h') (hg:AllBare g') :
  Inv X pins σ H' { s with heap:=h',gens:=g',drawn:=d',toks:=t' }:=by
 have neL:∀ b o,X.s₀.heap.get? b=some o→b≠X.env.locals:=fun b o e=>Nat.ne_of_lt (Nat.lt_of_lt_of_le (Heap.lt_size e) I.ok.above)
 have neC:∀ b o,X.s₀.heap.get? b=some o→b ∉ X.ex→b ∉ ch:=fun b o e hx hb=>by
  rcases (hch b hb).1 with z | z
  ·exact hx z
  ·exact absurd (Nat.lt_of_lt_of_le (Heap.lt_size e) z) (Nat.lt_irrefl _)
 have cellK:∀ x c,X.env.cells.lookup x=some c→∀ v,s.heap.IsCell c v→h'.IsCell c v:=fun x c e v ⟨o,ho,hd⟩=>by
  have nch:c ∉ ch:=fun z=>(hch c z).2.2.1 x c e rfl
  by_cases hc:c∈X.fs
  ·obtain ⟨sl,q⟩:=slot c o (I.cne x c e) hc nch ho (I.freeC x c e)
   exact ⟨_,q,hd⟩
  ·exact ⟨o,keep c o (I.cne x c e) hc nch ho (I.freeC x c e),hd⟩
 refine ⟨I.ok,I.os,hg,⟨fun b o e n hb hx=>?_,fun b o e n hb hx=>?_,fun b o e n hx=>?_,fun b o e hx=>?_,fun b xs e=>tups b xs (I.base.tups b xs e),fun b o xs e=>frzs b o xs (I.base.frzs b o xs e),fun b ps e=>?_⟩,?_,fun x c e=>?_,?_,fun x c e=>?_,fun p hp=>?_,hok,I.len⟩
 ·exact keep b o (neL b o e) hb (neC b o e hx) (I.base.keep b o e n hb hx) (I.base.free b o e n hx)
 ·obtain ⟨sl,e1⟩:=I.base.slot b o e n hb hx
  obtain ⟨sl',e2⟩:=slot b _ (neL b o e) hb (neC b o e hx) e1 (I.base.free b o e n hx)
  exact ⟨sl',e2⟩
 ·obtain ⟨o',e1⟩:=I.base.there b o e hx
  exact free b o' (neC b o e hx) e1 (I.base.free b o e n hx)
 ·obtain ⟨o',e1⟩:=I.base.there b o e hx
  exact there b o' (neC b o e hx) e1
 ·obtain ⟨m1,e1⟩:=I.base.tbls b ps e
  obtain ⟨m2,e2⟩:=tbls b _ e1
  exact ⟨m1 ++ m2,by rw [e2,Array.append_assoc]⟩
 ·obtain ⟨m,hn,hl⟩:=I.loc
  refine ⟨m,ns m hn,fun i x v e1 e2 e3=>?_⟩
  obtain ⟨u,r,l⟩:=hl i x v e1 e2 e3
  refine ⟨u,r,?_⟩
  rcases l with l | ⟨k,c,e,z⟩
  ·exact .inl l
  ·exact .inr ⟨k,c,e,cellK x c e _ z⟩
 ·obtain ⟨v,z⟩:=I.cell x c e
  exact ⟨v,cellK x c e v z⟩
 ·obtain ⟨m,⟨o,_,_,ho,_⟩,_⟩:=I.loc
  exact free _ o (fun z=>(hch _ z).2.1 rfl) ho I.free
 ·obtain ⟨v,o,ho,hd⟩:=I.cell x c e
  exact free c o (fun z=>(hch c z).2.2.1 x c e rfl) ho (I.freeC x c e)
 ·obtain ⟨e,n,ne,nf,d⟩:=I.pin p hp
  have nch:p.1 ∉ ch:=fun z=>(hch p.1 z).2.2.2 p hp rfl
  exact ⟨keep p.1 p.2 ne nf nch e n,free p.1 p.2 nch e n,ne,nf,d⟩
theorem Inv.un {t':Nat} (I:Inv X pins σ H s) (u:Un X.fs [] H H' s.heap h') (hok:HOk X.prog X.w H' h'):Inv X pins σ H' { s with heap:=h',toks:=t' }:=by
 obtain ⟨m,⟨o,es,ep,ho,r⟩,_⟩:=id I.loc
 obtain ⟨sl,hL⟩:=u.any ho I.free (by simp)
 exact I.step (g':=s.gens) (d':=s.drawn) (ch:=[]) (fun _ z=>nomatch z) (fun b o _ hb _ e n=>u.keep b o e n hb (by simp)) (fun b o _ hb _ e n=>u.slot b o e n hb (by simp)) (fun b o _ e n=>u.free b o e n (by simp)) (fun b o _ e=>u.there b o e (by simp)) u.tups u.frzs u.tbls (fun m' hm=>by
  obtain ⟨o',es',ep',ho',r'⟩:=hm
  rw [ho] at ho';cases ho'
  exact ⟨_,es',ep',hL,r'⟩) hok I.bare
theorem Inv.call {g':Array GenState} {t':Nat} {d':Drawn} {ch:List Addr} (I:Inv X pins σ H s) (u:Un (frs X.stack) ch H H' s.heap h') (hok:HOk X.prog X.w H' h') (hg:AllBare g')
  (hch:∀ b∈ch,(b∈X.ex∨X.s₀.heap.objs.size≤b)∧b≠X.env.locals∧(∀ x c,X.env.cells.lookup x=some c→c≠b)∧∀ p∈X.pn ++ pins,p.1≠b) :
  Inv X pins σ H' { s with heap:=h',gens:=g',drawn:=d',toks:=t' }:=by
 obtain ⟨m,⟨o,es,ep,ho,r⟩,_⟩:=id I.loc
 obtain ⟨sl,hL⟩:=u.any ho I.free fun z=>(hch _ z).2.1 rfl
 exact I.step (ch:=ch) hch (fun b o hL hb hc e n=>u.keep b o e n (fun z=>(List.mem_cons.mp (I.stkSub b z)).elim hL hb) hc) (fun b o _ _ hc e n=>u.any e n hc) (fun b o hc e n=>u.free b o e n hc) (fun b o hc e=>u.there b o e hc) u.tups u.frzs u.tbls (fun m' hm=>by
  obtain ⟨o',es',ep',ho',r'⟩:=hm
  rw [ho] at ho';cases ho'
  exact ⟨_,es',ep',hL,r'⟩) hok hg
theorem Inv.turned {t':Nat} {it:Addr} (I:Inv X pins σ H s) (k:∀ b o,b≠it→s.heap.get? b=some o→h'.get? b=some o) (hn:H it=none) (hL:it≠X.env.locals)
  (h1:it∈X.ex∨X.s₀.heap.objs.size≤it) (h2:∀ x c,X.env.cells.lookup x=some c→c≠it) (h3:∀ p∈X.pn ++ pins,p.1≠it):Inv X pins σ H { s with heap:=h',toks:=t' }:=by
 have nit:∀ b u,H b=some u→b≠it:=fun b u e z=>by rw [z,hn] at e;cases e
 refine I.step (g':=s.gens) (d':=s.drawn) (ch:=[it]) (fun b hb=>?_) (fun b o _ _ hc e _=>k b o (fun z=>hc (by simp [z])) e) (fun b o _ _ hc e _=>⟨o.slots,k b o (fun z=>hc (by simp [z])) e⟩) (fun _ _ _ _ n=>n)
  (fun b o hc e=>⟨o,k b o (fun z=>hc (by simp [z])) e⟩) (fun _ _ e=>e) (fun _ _ _ e=>e) (fun b ps e=>⟨#[],by rw [e];simp⟩) (fun m hm=>?_) (fun b u e=>?_) I.bare
 ·have e:b=it:=by simpa using hb
  subst e
  exact ⟨h1,hL,h2,h3⟩
 ·obtain ⟨o,es,ep,ho,r⟩:=hm
  exact ⟨o,es,ep,k _ o (Ne.symm hL) ho,r⟩
 ·refine (I.hok b u e).stay (fun c v hc q=>k c v ?_ q) (fun _ q=>q) fun _ _ q=>q
  rcases hc with z | z
  ·rw [z];exact nit b u e
  ·exact nit c _ z
theorem Inv.tok (I:Inv X pins σ H s) (t:Nat):Inv X pins σ H { s with toks:=t }:=I.un (h':=s.heap) (t':=t) Un.refl I.hok
theorem Inv.kept {t':Nat} (I:Inv X pins σ H s) (k:∀ b u,s.heap.get? b=some u→h'.get? b=some u):Inv X pins σ H { s with heap:=h',toks:=t' }:=I.un (Un.kept k) (I.hok.kept k)
theorem Inv.laid {a:Addr} {o:HO} {t':Nat} (I:Inv X pins σ H s) (k:∀ b u,s.heap.get? b=some u→h'.get? b=some u) (hp:s.heap.objs.size≤a) (new:ObjOk X.prog X.w (upd H a o) h' a o) :
  Inv X pins σ (upd H a o) { s with heap:=h',toks:=t' }:=I.un (Un.laid k hp (I.hok.fresh hp)) (I.hok.laid k hp new)
theorem Inv.write {x e:Addr} {o:HO} {t':Nat} (I:Inv X pins σ H s) (mu:Mut (H x)) (he:e=x∨H e=some (.own x)) (k:∀ b u,b≠e→s.heap.get? b=some u→h'.get? b=some u) (heo:∃ u,h'.get? e=some u)
  (new:ObjOk X.prog X.w (upd H x o) h' x o):Inv X pins σ (upd H x o) { s with heap:=h',toks:=t' }:=I.un (Un.write mu he k heo) (I.hok.write mu he k heo new)
theorem Inv.pins_of {pins':List (Addr × Obj)} (I:Inv X pins σ H s) (h:∀ p∈pins',s.heap.get? p.1=some p.2∧H p.1=none∧p.1≠X.env.locals∧p.1 ∉ X.fs∧∀ v,p.2.data≠.cell v):Inv X pins' σ H s :=
 ⟨I.ok,I.os,I.bare,I.base,I.loc,I.cell,I.free,I.freeC,fun p hp=>(List.mem_append.mp hp).elim (fun z=>I.pin p (List.mem_append_left _ z)) (h p),I.hok,I.len⟩
theorem Ws {N:List Str} (hN:N.Nodup) {i j:Nat} {x:Str} (a:N[i]?=some x) (b:N[j]?=some x):i=j:=by
 obtain ⟨h1,e1⟩:=List.getElem?_eq_some_iff.mp a
 obtain ⟨h2,e2⟩:=List.getElem?_eq_some_iff.mp b
 exact (List.getElem_inj hN).mp (e1.trans e2.symm)
theorem JO {M:Model} {A:Around} {E:Value→Shared→Prop} {i:Nat} {x:Str} {v:V} {u:Value} {Q:Unit→Shared→Prop} (I:Inv X pins σ H s) (hN:X.N.Nodup) (hi:X.N[i]?=some x) (hx:Loc X.env.scope x) (r:RelV v u)
  (h:∀ s',Inv X pins (σ.set i (some v)) H s'→(∃ a,Heap.SameBut a s.heap s'.heap∧(a=X.env.locals∨X.env.cells.lookup x=some a))→Q () s') (hf:X.fn x=true∨X.env.scope.names.lookup x=some .local:=by first | exact .inl rfl | exact .inr rfl | assumption):wpAny M A (storeName X.env x u) Q E s:=by
 obtain ⟨m,hn,hl⟩:=id I.loc
 have hcls:(X.env.scope.kind == .class || (X.env.scope.kind == .module && X.env.locals != X.env.globals))=false:=by rw [I.ok.kind];rfl
 have hiσ:i < σ.length:=by rw [I.len];exact (List.getElem?_eq_some_iff.mp hi).1
 have cne:=I.cne
 have tracked:∀ {a:Addr} {h':Heap},(∃ o,s.heap.get? a=some o∧H a=none)→Heap.SameBut a s.heap h'→HOk X.prog X.w H h':=fun {a h'} ha hs b ob e=>by
  obtain ⟨_,_,hfree⟩:=ha
  refine (I.hok b ob e).stay (fun c w' hc q=>(hs.2 c ?_).trans q) (fun _ q=>q) fun _ _ q=>q
  rintro rfl
  rcases hc with rfl | hc
  ·rw [hfree] at e;cases e
  ·rw [hfree] at hc;cases hc
 rcases hx with hk | hk
 ·refine wpAny_storeName_local hk hn (fun h' hn' hs=>?_) hcls
  obtain ⟨oL,_,_,hoL,_⟩:=id hn
  refine h _ ⟨I.ok,I.os,I.bare,⟨fun b o e n hb hx=>?_,fun b o e n hb hx=>?_,I.base.free,fun b o e hx=>?_,I.base.tups,I.base.frzs,I.base.tbls⟩,⟨_,hn',fun j y v' e1 e2 e3=>?_⟩,fun y c e=>?_,I.free,I.freeC,fun p hp=>?_,tracked ⟨oL,hoL,I.free⟩ hs,by simpa using I.len⟩ ⟨_,hs,.inl rfl⟩
  ·exact (hs.2 b (Nat.ne_of_lt (Nat.lt_of_lt_of_le (Heap.lt_size e) I.ok.above))).trans (I.base.keep b o e n hb hx)
  ·obtain ⟨sl,e1⟩:=I.base.slot b o e n hb hx
   exact ⟨sl,(hs.2 b (Nat.ne_of_lt (Nat.lt_of_lt_of_le (Heap.lt_size e) I.ok.above))).trans e1⟩
  ·obtain ⟨o',e1⟩:=I.base.there b o e hx
   exact ⟨o',(hs.2 b (Nat.ne_of_lt (Nat.lt_of_lt_of_le (Heap.lt_size e) I.ok.above))).trans e1⟩
  ·by_cases hj:j=i
   ·subst hj
    rw [hi] at e1;cases e1
    rw [List.getElem?_set_self hiσ] at e2
    cases e2
    exact ⟨u,r,.inl ⟨hk,by simp⟩⟩
   ·rw [List.getElem?_set_ne (Ne.symm hj)] at e2
    obtain ⟨u',r',q⟩:=hl j y v' e1 e2 e3
    refine ⟨u',r',?_⟩
    rcases q with ⟨k,e⟩ | ⟨k,c,e,z⟩
    ·refine .inl ⟨k,?_⟩
     have:y≠x:=fun e=>hj (Ws hN e1 (e ▸ hi))
     simp [this,e]
    ·exact .inr ⟨k,c,e,z.sameBut hs (cne y c e)⟩
  ·obtain ⟨w',z⟩:=I.cell y c e
   exact ⟨w',z.sameBut hs (cne y c e)⟩
  ·obtain ⟨e,n,ne,nf,d⟩:=I.pin p hp
   exact ⟨(hs.2 p.1 ne).trans e,n,ne,nf,d⟩
 ·have hfn:X.fn x=true:=by
   rcases hf with z | z
   ·exact z
   ·rw [z] at hk;cases hk
  obtain ⟨c,hc⟩:=I.ok.has x (.inl hk)
  obtain ⟨w',z⟩:=I.cell x c hc
  refine wpAny_storeName_cell I.ok.kind hk hc z (fun h' hc' hs=>?_)
  obtain ⟨oc,hoc,hocd⟩:=id z
  refine h { s with heap:=h' } ⟨I.ok,I.os,I.bare,⟨fun b o e n hb hx=>?_,fun b o e n hb hx=>?_,I.base.free,fun b o e hx=>?_,I.base.tups,I.base.frzs,I.base.tbls⟩,⟨m,hn.sameBut hs (Ne.symm (cne x c hc)),fun j y v' e1 e2 e3=>?_⟩,fun y c' e=>?_,I.free,I.freeC,fun p hp=>?_,tracked ⟨oc,hoc,I.freeC x c hc⟩ hs,by simpa using I.len⟩ ⟨c,hs,.inr hc⟩
  ·exact (hs.2 b (Nat.ne_of_lt (Nat.lt_of_lt_of_le (Heap.lt_size e) (I.ok.cab x c hfn hc)))).trans (I.base.keep b o e n hb hx)
  ·obtain ⟨sl,e1⟩:=I.base.slot b o e n hb hx
   exact ⟨sl,(hs.2 b (Nat.ne_of_lt (Nat.lt_of_lt_of_le (Heap.lt_size e) (I.ok.cab x c hfn hc)))).trans e1⟩
  ·obtain ⟨o',e1⟩:=I.base.there b o e hx
   exact ⟨o',(hs.2 b (Nat.ne_of_lt (Nat.lt_of_lt_of_le (Heap.lt_size e) (I.ok.cab x c hfn hc)))).trans e1⟩
  ·by_cases hj:j=i
   ·subst hj
    rw [hi] at e1;cases e1
    rw [List.getElem?_set_self hiσ] at e2
    cases e2
    exact ⟨u,r,.inr ⟨.inl hk,c,hc,hc'⟩⟩
   ·rw [List.getElem?_set_ne (Ne.symm hj)] at e2
    obtain ⟨u',r',q⟩:=hl j y v' e1 e2 e3
    refine ⟨u',r',?_⟩
    rcases q with q | ⟨k,c',e,z'⟩
    ·exact .inl q
    ·refine .inr ⟨k,c',e,z'.sameBut hs ?_⟩
     rintro rfl
     exact hj (Ws hN e1 (I.ok.inj _ _ _ e hc ▸ hi))
  ·by_cases hcc:c'=c
   ·subst hcc;exact ⟨_,hc'⟩
   ·obtain ⟨w2,z2⟩:=I.cell y c' e
    exact ⟨w2,z2.sameBut hs hcc⟩
  ·obtain ⟨e,n,ne,nf,d⟩:=I.pin p hp
   refine ⟨(hs.2 p.1 ?_).trans e,n,ne,nf,d⟩
   intro q
   rw [q,hoc] at e
   have q':oc=p.2:=Option.some.inj e
   exact d w' (by rw [← q'];exact hocd)
theorem ZY {M:Model} {A:Around} {E:Value→Shared→Prop} {i:Nat} {x:Str} {v:V} {u:Value} {Q:Unit→Shared→Prop} (I:Inv X pins σ H s) (hN:X.N.Nodup) (hi:X.N[i]?=some x) (hx:Loc X.env.scope x) (r:RelV v u)
  (h:∀ s',Inv X pins (σ.set i (some v)) H s'→Q () s') (hf:X.fn x=true∨X.env.scope.names.lookup x=some .local:=by first | exact .inl rfl | exact .inr rfl | assumption):wpAny M A (storeName X.env x u) Q E s :=
 JO I hN hi hx r (fun s' I' _=>h s' I') hf
theorem Inv.call' {s':Shared} {ch:List Addr} (I:Inv X pins σ H s) (ho:s'.os=s.os) (u:Un (frs X.stack) ch H H' s.heap s'.heap) (hok:HOk X.prog X.w H' s'.heap) (hg:AllBare s'.gens)
  (hch:∀ b∈ch,(b∈X.ex∨X.s₀.heap.objs.size≤b)∧b≠X.env.locals∧(∀ x c,X.env.cells.lookup x=some c→c≠b)∧∀ p∈X.pn ++ pins,p.1≠b):Inv X pins σ H' s':=by
 obtain ⟨h',g',d',t',o'⟩:=s'
 have e:o'=s.os:=ho
 subst e
 exact I.call (g':=g') (t':=t') (d':=d') u hok hg hch
end
abbrev XK:=Value→Option Addr→Hp→Prop
abbrev St:=List (Option V)
abbrev VK:=V→Hp→Prop
abbrev TE:=St→Hp→VK→Prop
abbrev TT:=St→Hp→(Bool→Hp→Prop)→Prop
abbrev TA:=St→Hp→(List V→Hp→Prop)→Prop
set_option genSizeOf false in
set_option genInjectivity false in
structure Zx where
 nx:St→Hp→Prop
 rt:VK
 bk:St→Hp→Prop:=fun _ _=>False
 ct:St→Hp→Prop:=fun _ _=>False
abbrev TS:=Zx→St→Hp→Prop
def EP (X:Cx) (pins:List (Addr × Obj)) (σ:St) (Q:VK) (u:Value) (s':Shared):Prop:=∃ v H',Inv X pins σ H' s'∧RelV v u∧Q v H'
def TP (X:Cx) (pins:List (Addr × Obj)) (σ:St) (Q:Bool→Hp→Prop) (b:Bool) (s':Shared):Prop:=∃ H',Inv X pins σ H' s'∧Q b H'
def AP (X:Cx) (pins:List (Addr × Obj)) (σ:St) (Q:List V→Hp→Prop) (us:List Value) (s':Shared):Prop:=∃ vs H',Inv X pins σ H' s'∧Vals vs us∧Q vs H'
def SP (X:Cx) (pins:List (Addr × Obj)) (D:Zx) (f:Flow) (s':Shared):Prop :=
 match f with
 | .next=>∃ σ' H',Inv X pins σ' H' s'∧D.nx σ' H'
 | .brk=>∃ σ' H',Inv X pins σ' H' s'∧D.bk σ' H'
 | .cont=>∃ σ' H',Inv X pins σ' H' s'∧D.ct σ' H'
 | .ret u=>∃ v σ' H',Inv X pins σ' H' s'∧RelV v u∧D.rt v H'
def PE (X:Cx) (e:Expr) (t:TE):Prop :=
 ∀ (pins:List (Addr × Obj)) (s:Shared) (σ:St) (H:Hp) (Q:VK),Inv X pins σ H s→t σ H Q→wpAny (model X.prog X.w) X.A (eval e X.env) (EP X pins σ Q) X.xe s
def PT (X:Cx) (e:Expr) (t:TT):Prop :=
 ∀ (pins:List (Addr × Obj)) (s:Shared) (σ:St) (H:Hp) (Q:Bool→Hp→Prop),Inv X pins σ H s→t σ H Q→wpAny (model X.prog X.w) X.A (isTrue e X.env (eval e X.env)) (TP X pins σ Q) X.xe s
def PW (X:Cx) (e:Expr) (t:TT):Prop :=
 ∀ (whole:Sem Value) (pins:List (Addr × Obj)) (s:Shared) (σ:St) (H:Hp) (Q:Bool→Hp→Prop),Inv X pins σ H s→t σ H Q→wpAny (model X.prog X.w) X.A (isTrue e X.env whole) (TP X pins σ Q) X.xe s
theorem PW.pt {X:Cx} {e:Expr} {t:TT} (h:PW X e t):PT X e t:=h _
def PA (X:Cx) (es:List Expr) (t:TA):Prop :=
 ∀ (pos:Pos) (pins:List (Addr × Obj)) (s:Shared) (σ:St) (H:Hp) (Q:List V→Hp→Prop),Inv X pins σ H s→t σ H Q→wpAny (model X.prog X.w) X.A (spliced (backTo pos (starEach es X.env))) (AP X pins σ Q) X.xe s
def PS (X:Cx) (st:Stmt) (t:TS):Prop :=
 ∀ (pins:List (Addr × Obj)) (s:Shared) (σ:St) (H:Hp) (D:Zx),Inv X pins σ H s→t D σ H→wpAny (model X.prog X.w) X.A (exec st X.env) (SP X pins D) X.xe s
def PSs (X:Cx) (st:List Stmt) (t:TS):Prop :=
 ∀ (pins:List (Addr × Obj)) (s:Shared) (σ:St) (H:Hp) (D:Zx),Inv X pins σ H s→t D σ H→wpAny (model X.prog X.w) X.A (execs st X.env) (SP X pins D) X.xe s
theorem thn {α:Type} {t:Sem α} {Q Q':α→Shared→Prop} {M:Model} {A:Around} {E:Value→Shared→Prop} {s:Shared} (h:wpAny M A t Q E s) (hQ:∀ a s,Q a s→Q' a s):wpAny M A t Q' E s:=wpAny_mono h hQ fun _ _ x=>x
end L2
namespace L2
open PySem PySem.Spec PyProof.Rows
section
variable {X:Cx}
def zc (i:Nat):TE:=fun σ H Q=>∃ v,σ[i]?=some (some v)∧Q v H
def tC (v:V):TE:=fun _ H Q=>Q v H
theorem za7 {i:Nat} {x:Str} {pos:Pos} (hN:X.N[i]?=some x) (hv:Vis X.env.scope x) (hd:(x == ("__debug__":Str))=false:=by decide) (hcd:(x == ("__classdict__":Str))=false:=by decide):PE X (.Name x pos) (zc i):=by
 intro pins s σ H Q I h
 obtain ⟨v,e,h⟩:=h
 obtain ⟨m,hn,hl⟩:=I.loc
 obtain ⟨u,r,l⟩:=hl i x v hN e hv
 have fin:EP X pins σ Q u s:=⟨v,H,I,r,h⟩
 rcases l with ⟨hk,hm⟩ | ⟨hk,c,hc,hcell⟩
 ·exact wpAny_Name (wpAny_loadName_local I.ok.kind hk hn hm fin) hd
 ·rcases hk with hk | hk
  ·exact wpAny_Name (wpAny_loadName_cell I.ok.kind hk hc hcell fin) hd
  ·exact wpAny_Name (wpAny_loadName_free I.ok.kind hk hc hcell fin hcd) hd
theorem zd {i j pos}:PE X (.Constant (.int i) j pos) (tC (.int i)):=fun _ _ _ H _ I h=>wpAny_Constant_int ⟨.int i,H,I.tok _,⟨_,rfl⟩,h⟩
theorem kF {b j pos}:PE X (.Constant (.bool b) j pos) (tC (.bl b)):=fun _ _ _ H _ I h=>Constant_bool ⟨.bl b,H,I,rfl,h⟩
theorem xl {j pos}:PE X (.Constant .none j pos) (tC .non):=fun _ _ _ H _ I h=>Constant_none ⟨.non,H,I,rfl,h⟩
theorem zl {x j pos}:PE X (.Constant (.str x) j pos) (tC (.str x)):=fun _ _ _ H _ I h=>Calls.Constant_str ⟨.str x,H,I.tok _,⟨_,rfl⟩,h⟩
def Gl (X:Cx) (x:Str):Prop:=X.env.kindOf x=some .globalImplicit
theorem vF {E:Value→Shared→Prop} {pins:List (Addr × Obj)} {s:Shared} {σ:St} {H:Hp} {x:Str} {u:Value} {pos:Pos} {Q:Value→Shared→Prop} (I:Inv X pins σ H s) (hg:Gl X x) (hm:X.mg x=some u) (h:Q u s)
  (hd:(x == ("__debug__":Str))=false:=by decide):wpAny (model X.prog X.w) X.A (eval (.Name x pos) X.env) Q E s :=
 Calls.Name_function_global I.ok.kind hg (Calls.loadGlobal_global (by rw [I.ok.glob];exact I.mod.glob.keeps I.bk) hm h) hd
theorem ZZ {E:Value→Shared→Prop} {pins:List (Addr × Obj)} {s:Shared} {σ:St} {H:Hp} {x:Str} {u:Value} {pos:Pos} {Q:Value→Shared→Prop} (I:Inv X pins σ H s) (hg:Gl X x) (hm:X.mg x=none) (hv:bootBuiltins x=some u) (h:Q u s)
  (hn:x≠"__name__":=by decide) (hd:(x == ("__debug__":Str))=false:=by decide):wpAny (model X.prog X.w) X.A (eval (.Name x pos) X.env) Q E s:=by
 obtain ⟨mb,h1,h2⟩:=I.mod.blt
 exact Calls.Name_function_global I.ok.kind hg (Calls.loadGlobal_builtin (by rw [I.ok.glob];exact I.mod.glob.keeps I.bk) hm (by rw [I.ok.blt];exact h1.keeps I.bk) ((h2 x hn).trans hv) h) hd
theorem QT {x:Str} {v:V} {u:Value} {pos:Pos} (hg:Gl X x) (hm:X.mg x=some u) (r:RelV v u) (hd:(x == ("__debug__":Str))=false:=by decide):PE X (.Name x pos) (tC v) :=
 fun _ _ _ H _ I h=>vF I hg hm ⟨v,H,I,r,h⟩ hd
theorem xq {x:Str} {v:V} {u:Value} {pos:Pos} (hg:Gl X x) (hm:X.mg x=none) (hv:bootBuiltins x=some u) (r:RelV v u) (hn:x≠"__name__":=by decide) (hd:(x == ("__debug__":Str))=false:=by decide):PE X (.Name x pos) (tC v) :=
 fun _ _ _ H _ I h=>ZZ I hg hm hv ⟨v,H,I,r,h⟩ hn hd
variable {a b:Expr} {ta tb:TE} {pos:Pos}
def tB (t:TE):TT:=fun σ H Q=>t σ H fun x H1=>∃ c,x=.bl c∧Q c H1
theorem xC {e:Expr} {t:TE} (h:PE X e t) (he:∀ whole,isTrue e X.env whole=(do let v ← whole;standAt e.pos;holding [v] (truthy v)):=by intro _;rfl):PT X e (tB t):=by
 intro pins s σ H Q I hw
 refine isTrue_plain (thn (h pins s σ H _ I hw) fun v s1 ⟨x,H1,I1,r1,q1⟩=>?_) (he _)
 obtain ⟨d,rfl,q⟩:=q1
 cases r1
 exact wpAny_truthy_bool ⟨H1,I1,q⟩
variable {tA tB':TT} {rest:List Expr}
def wN (t u:TT):TT:=fun σ H Q=>t σ H fun c H1=>if c=true then u σ H1 Q else Q false H1
def tOr (t u:TT):TT:=fun σ H Q=>t σ H fun c H1=>if c=true then Q true H1 else u σ H1 Q
def jc (t:TT):TT:=fun σ H Q=>t σ H fun c H1=>Q (!c) H1
theorem vG (ha:PT X a tA):PW X (.BoolOp .And [a] pos) tA:=by
 intro wh pins s σ H Q I h
 refine isTrue_and (thn (ha pins s σ H Q I h) fun c s1 e=>?_)
 cases c with
 | true=>exact isTrue_and_nil e
 | false=>exact e
theorem kS (ha:PT X a tA):PW X (.BoolOp .Or [a] pos) tA:=by
 intro wh pins s σ H Q I h
 refine isTrue_or (thn (ha pins s σ H Q I h) fun c s1 e=>?_)
 cases c with
 | false=>exact isTrue_or_nil e
 | true=>exact e
theorem jd (ha:PT X a tA) (hb:PW X (.BoolOp .And (b :: rest) pos) tB'):PW X (.BoolOp .And (a :: b :: rest) pos) (wN tA tB'):=by
 intro wh pins s σ H Q I h
 refine isTrue_and (thn (ha pins s σ H _ I h) fun c s1 ⟨H1,I1,q1⟩=>?_)
 cases c with
 | true=>exact hb wh pins s1 σ H1 Q I1 q1
 | false=>exact ⟨H1,I1,q1⟩
theorem Z0 (ha:PT X a tA) (hb:PW X (.BoolOp .Or (b :: rest) pos) tB'):PW X (.BoolOp .Or (a :: b :: rest) pos) (tOr tA tB'):=by
 intro wh pins s σ H Q I h
 refine isTrue_or (thn (ha pins s σ H _ I h) fun c s1 ⟨H1,I1,q1⟩=>?_)
 cases c with
 | true=>exact ⟨H1,I1,q1⟩
 | false=>exact hb wh pins s1 σ H1 Q I1 q1
theorem qR (ha:PT X a tA):PT X (.UnaryOp .Not a pos) (jc tA):=by
 intro pins s σ H Q I h
 exact isTrue_not (ha pins s σ H (fun c H1=>Q (!c) H1) I h)
def kG (ta tb:TE):TE:=fun σ H Q=>ta σ H fun x H1=>∃ c,x=.bl c∧if c=true then tb σ H1 Q else Q (.bl false) H1
def za8 (ta tb:TE):TE:=fun σ H Q=>ta σ H fun x H1=>∃ c,x=.bl c∧if c=true then Q (.bl true) H1 else tb σ H1 Q
def Kh (ta:TE):TE:=fun σ H Q=>ta σ H fun x H1=>∃ c,x=.bl c∧Q (.bl (!c)) H1
theorem Vv {op} {t:TE} (h:PE X a t):PE X (.BoolOp op [a] pos) t:=fun pins s σ H Q I hw=>BoolOp_one (h pins s σ H Q I hw)
theorem XB (ha:PE X a ta) (hb:PE X (.BoolOp .And (b :: rest) pos) tb):PE X (.BoolOp .And (a :: b :: rest) pos) (kG ta tb):=by
 intro pins s σ H Q I h
 refine BoolOp_and (thn (ha pins s σ H _ I h) fun v s1 ⟨x,H1,I1,r1,q1⟩=>?_)
 obtain ⟨c,rfl,q1⟩:=q1
 cases r1
 refine wpAny_truthy_bool ?_
 cases c with
 | true=>exact hb pins s1 σ H1 Q I1 q1
 | false=>exact ⟨.bl false,H1,I1,rfl,q1⟩
theorem zbG (ha:PE X a ta) (hb:PE X (.BoolOp .Or (b :: rest) pos) tb):PE X (.BoolOp .Or (a :: b :: rest) pos) (za8 ta tb):=by
 intro pins s σ H Q I h
 refine BoolOp_or (thn (ha pins s σ H _ I h) fun v s1 ⟨x,H1,I1,r1,q1⟩=>?_)
 obtain ⟨c,rfl,q1⟩:=q1
 cases r1
 refine wpAny_truthy_bool ?_
 cases c with
 | false=>exact hb pins s1 σ H1 Q I1 q1
 | true=>exact ⟨.bl true,H1,I1,rfl,q1⟩
theorem za9 (ha:PE X a ta):PE X (.UnaryOp .Not a pos) (Kh ta):=by
 intro pins s σ H Q I h
 refine UnaryOp_ (thn (ha pins s σ H _ I h) fun v s1 ⟨x,H1,I1,r1,q1⟩=>?_)
 obtain ⟨c,rfl,q1⟩:=q1
 cases r1
 exact not_of (wpAny_truthy_bool ⟨.bl (!c),H1,I1,rfl,q1⟩)
def tIf (t:TT) (ta tb:TE):TE:=fun σ H Q=>t σ H fun c H1=>if c=true then ta σ H1 Q else tb σ H1 Q
theorem jF {c:Expr} (hc:PT X c tA) (ha:PE X a ta) (hb:PE X b tb):PE X (.IfExp c a b pos) (tIf tA ta tb):=by
 intro pins s σ H Q I h
 refine wpAny_IfExp (thn (hc pins s σ H _ I h) fun d s1 ⟨H1,I1,q1⟩=>?_)
 cases d with
 | true=>exact ha pins s1 σ H1 Q I1 q1
 | false=>exact hb pins s1 σ H1 Q I1 q1
end
end L2
namespace L2
open PySem PySem.Spec PyProof.Rows
def SqL (K:W.Frag) (H:Hp) (a:Addr) (xs:List V):Prop :=
 Rd H a (.lst xs) ∨
  ∃ (o:Obj) (its:Array Value) (n:Nat),K.lookup a=some o∧o.cls=.type "list"∧o.dict=none∧o.data=.seq its n∧its.size≤sizeLine∧Vals xs its.toList
def SqT (K:W.Frag) (H:Hp) (a:Addr) (xs:List V):Prop :=
 Rd H a (.tup xs) ∨
  ∃ (o:Obj) (its:Array Value) (n:Nat),K.lookup a=some o∧o.cls=.type "tuple"∧o.data=.seq its n∧its.size≤sizeLine∧Vals xs its.toList
def zb8:Value→Option V
 | .none=>some .non
 | .bool b=>some (.bl b)
 | .int i _=>some (.int i)
 | .str x _=>some (.str x)
 | .bytes b _=>some (.byt b)
 | .float b _=>some (.flt b)
 | .ref a=>some (.ref a)
 | .type n=>some (.ty n)
 | _=>none
theorem RelV.abs {x:V} {u:Value} (r:RelV x u):zb8 u=some x:=by
 cases x with
 | non=>cases r;rfl
 | bl _=>cases r;rfl
 | int _=>obtain ⟨t,rfl⟩:=r;rfl
 | str _=>obtain ⟨t,rfl⟩:=r;rfl
 | byt _=>obtain ⟨t,rfl⟩:=r;rfl
 | flt _=>obtain ⟨t,rfl⟩:=r;rfl
 | ref _=>cases r;rfl
 | ty _=>cases r;rfl
theorem RelV.inj {x y:V} {u:Value} (r:RelV x u) (q:RelV y u):x=y:=Option.some.inj (r.abs.symm.trans q.abs)
theorem Vals.inj:∀ {xs ys:List V} {us:List Value},Vals xs us→Vals ys us→xs=ys
 | _,_,_,.nil,.nil=>rfl
 | _,_,_,.cons r t,.cons r' t'=>by rw [r.inj r',Vals.inj t t']
section
variable {X:Cx} {pins:List (Addr × Obj)} {σ:St} {H:Hp} {s:Shared} {a:Addr} {xs ys:List V}
theorem SqL.of {K:W.Frag} (h:H a=some (.lst xs)):SqL K H a xs:=.inl (.inl h)
theorem SqT.of {K:W.Frag} (h:H a=some (.tup xs)):SqT K H a xs:=.inl (.inl h)
theorem Inv.list (I:Inv X pins σ H s) (h:SqL X.K H a xs):∃ its:List Value,Vals xs its∧PlainL s.heap a its.toArray∧xs.length≤sizeLine:=by
 rcases h with h | ⟨o,its,n,hk,hc,hd,hs,hz,r⟩
 ·obtain ⟨z,its,n,r,e⟩:=h.ok I.hok
  exact ⟨its,r,⟨_,n,e,rfl,rfl,rfl⟩,z⟩
 ·refine ⟨its.toList,r,⟨o,n,I.kIn a o hk,hc,hd,by simpa using hs⟩,?_⟩
  have e:=r.length
  simp only [Array.length_toList] at e
  lia
theorem Inv.tuple (I:Inv X pins σ H s) (h:SqT X.K H a xs):∃ its:List Value,Vals xs its∧IsTup s.heap a its.toArray∧xs.length≤sizeLine:=by
 rcases h with h | ⟨o,its,n,hk,hc,hs,hz,r⟩
 ·obtain ⟨z,its,r,p⟩:=h.ok I.hok
  exact ⟨its,r,p,z⟩
 ·refine ⟨its.toList,r,⟨o,I.kIn a o hk,hc,n,by simpa using hs⟩,?_⟩
  have e:=r.length
  simp only [Array.length_toList] at e
  lia
theorem Inv.list_inj (I:Inv X pins σ H s) (h:SqL X.K H a xs) (h':SqL X.K H a ys):xs=ys:=by
 obtain ⟨its,r,⟨o,n,e,_,_,d⟩,_⟩:=I.list h
 obtain ⟨its',r',⟨o',n',e',_,_,d'⟩,_⟩:=I.list h'
 rw [e] at e';cases e'
 rw [d] at d'
 injection d' with d1 _
 have:its=its':=by simpa using congrArg Array.toList d1
 subst this
 exact r.inj r'
theorem Inv.tuple_inj (I:Inv X pins σ H s) (h:SqT X.K H a xs) (h':SqT X.K H a ys):xs=ys:=by
 obtain ⟨its,r,⟨o,e,_,n,d⟩,_⟩:=I.tuple h
 obtain ⟨its',r',⟨o',e',_,n',d'⟩,_⟩:=I.tuple h'
 rw [e] at e';cases e'
 rw [d] at d'
 injection d' with d1 _
 have:its=its':=by simpa using congrArg Array.toList d1
 subst this
 exact r.inj r'
end
abbrev Cx.wish (X:Cx) (E:Value→Shared→Prop):Cx:={ X with xe:=E }
abbrev Cx.nox (X:Cx):Cx:=X.wish fun _ _=>False
theorem Cx.Ok.wish {X:Cx} (ok:X.Ok) (E:Value→Shared→Prop):(X.wish E).Ok :=
 ⟨ok.mod,ok.kind,ok.glob,ok.blt,ok.above,ok.inj,ok.has,ok.cab,ok.hd,ok.frames,ok.stk,ok.exf,ok.bs,ok.bsz,ok.noex,ok.exfs,ok.funs,ok.frf⟩
theorem Cx.Ok.unwish {X:Cx} {E:Value→Shared→Prop} (ok:(X.wish E).Ok):X.Ok :=
 ⟨ok.mod,ok.kind,ok.glob,ok.blt,ok.above,ok.inj,ok.has,ok.cab,ok.hd,ok.frames,ok.stk,ok.exf,ok.bs,ok.bsz,ok.noex,ok.exfs,ok.funs,ok.frf⟩
section
variable {X:Cx} {pins:List (Addr × Obj)} {σ:St} {H:Hp} {s:Shared} {E:Value→Shared→Prop}
theorem Inv.wish (I:Inv X pins σ H s) (E:Value→Shared→Prop):Inv (X.wish E) pins σ H s:=⟨I.ok.wish E,I.os,I.bare,I.base,I.loc,I.cell,I.free,I.freeC,I.pin,I.hok,I.len⟩
theorem Inv.unwish (I:Inv (X.wish E) pins σ H s):Inv X pins σ H s:=⟨I.ok.unwish,I.os,I.bare,I.base,I.loc,I.cell,I.free,I.freeC,I.pin,I.hok,I.len⟩
theorem SP.unwish {D:Zx} {f:Flow} {s':Shared} (h:SP (X.wish E) pins D f s'):SP X pins D f s':=by
 cases f with
 | next=>obtain ⟨σ',H',I,q⟩:=h;exact ⟨σ',H',I.unwish,q⟩
 | brk=>obtain ⟨σ',H',I,q⟩:=h;exact ⟨σ',H',I.unwish,q⟩
 | cont=>obtain ⟨σ',H',I,q⟩:=h;exact ⟨σ',H',I.unwish,q⟩
 | ret u=>obtain ⟨v,σ',H',I,r,q⟩:=h;exact ⟨v,σ',H',I.unwish,r,q⟩
theorem PSs.nox {st:List Stmt} {t:TS} (h:PSs X.nox st t):PSs X st t:=fun pins s σ H D I hw =>
 wpAny_mono (h pins s σ H D (I.wish _) hw) (fun _ _ q=>q.unwish) fun _ _ z=>False.elim z
end
section
variable {X:Cx} {st:Stmt} {rest:List Stmt} {t u:TS} {e:Expr} {te:TE} {pos:Pos}
def zv:TS:=fun D σ H=>D.nx σ H
def zo (t u:TS):TS:=fun D σ H=>t { D with nx:=u D } σ H
theorem zA:PSs X [] zv:=fun _ _ σ H _ I h=>wpAny_execs_nil ⟨σ,H,I,h⟩
theorem zg (h1:PS X st t) (h2:PSs X rest u):PSs X (st :: rest) (zo t u):=by
 intro pins s σ H D I h
 refine wpAny_execs_cons (thn (h1 pins s σ H { D with nx:=u D } I h) fun f s1 q=>?_)
 cases f with
 | next =>
  obtain ⟨σ',H',I',q⟩:=q
  exact h2 pins s1 σ' H' D I' q
 | ret v=>exact q
 | brk=>exact q
 | cont=>exact q
theorem zh (h1:PS X st t):PSs X [st] t:=by
 intro pins s σ H D I h
 refine wpAny_execs_cons (thn (h1 pins s σ H D I h) fun f s1 q=>?_)
 cases f with
 | next=>exact wpAny_execs_nil q
 | ret v=>exact q
 | brk=>exact q
 | cont=>exact q
def Vw:TS:=fun D σ H=>D.bk σ H
theorem Ki:PS X (.Break pos) Vw:=fun _ _ σ H _ I h=>wpAny_Break ⟨σ,H,I,h⟩
theorem Inv.quiet {pins:List (Addr × Obj)} {σ:St} {H:Hp} {s:Shared} (I:Inv X pins σ H s):interactive X.env=false:=by simp [interactive,I.ok.kind]
def zY (te:TE):TS:=fun D σ H=>te σ H fun _ H1=>D.nx σ H1
theorem yD (he:PE X e te) (hs:swapsWith e none pos.line X.env=pure false:=by rfl):PS X (.Expr e pos) (zY te):=by
 intro pins s σ H D I h
 exact wpAny_Expr_any (thn (he pins s σ H _ I h) fun v s1 ⟨x,H1,I1,r1,q1⟩=>⟨σ,H1,I1,q1⟩) I.quiet hs
def zB (te:TE):TS:=fun D σ H=>te σ H D.rt
theorem zx (he:PE X e te):PS X (.Return (some e) pos) (zB te):=by
 intro pins s σ H D I h
 exact wpAny_Return_some (thn (he pins s σ H _ I h) fun v s1 ⟨x,H1,I1,r1,q1⟩=>⟨x,σ,H1,I1,r1,q1⟩)
def Kj:TS:=fun D _ H=>D.rt .non H
theorem QU:PS X (.Return none pos) Kj:=fun _ _ σ H _ I h=>wpAny_Return_none ⟨.non,σ,H,I,rfl,h⟩
def zE (c:TT) (t u:TS):TS:=fun D σ H=>c σ H fun b H1=>if b=true then t D σ H1 else u D σ H1
theorem zM {c:Expr} {a b:List Stmt} {tc:TT} (hc:PT X c tc) (ha:PSs X a t) (hb:PSs X b u):PS X (.If c a b pos) (zE tc t u):=by
 intro pins s σ H D I h
 refine wpAny_If (thn (hc pins s σ H _ I h) fun d s1 ⟨H1,I1,q1⟩=>?_)
 cases d with
 | true=>exact ha pins s1 σ H1 D I1 q1
 | false=>exact hb pins s1 σ H1 D I1 q1
def zb9:TS:=fun _ _ _=>False
end
abbrev TG:=V→St→Hp→(St→Hp→Prop)→Prop
abbrev TGs:=List V→St→Hp→(St→Hp→Prop)→Prop
def PG (X:Cx) (target:Expr) (t:TG):Prop :=
 ∀ (pins:List (Addr × Obj)) (s:Shared) (σ:St) (H:Hp) (v:V) (u:Value) (Q:St→Hp→Prop),Inv X pins σ H s→RelV v u→t v σ H Q →
  wpAny (model X.prog X.w) X.A (assign target X.env u) (fun _ s'=>∃ σ' H',Inv X pins σ' H' s'∧Q σ' H') X.xe s
abbrev TIp:=V→V→Hp→VK→Prop
section
variable {X:Cx} {pos:Pos}
def zr (i:Nat):TG:=fun v σ H Q=>Q (σ.set i (some v)) H
theorem wW {i:Nat} {x:Str} (hN:X.N.Nodup) (hi:X.N[i]?=some x) (hx:Loc X.env.scope x) (hf:X.fn x=true∨X.env.scope.names.lookup x=some .local:=by first | exact .inl rfl | exact .inr rfl | assumption):PG X (.Name x pos) (zr i):=by
 intro pins s σ H v u Q I r h
 exact wpAny_assign_Name (ZY I hN hi hx r (fun s' I'=>⟨_,H,I',h⟩) hf)
def zcT:TGs:=fun vs σ H Q=>vs=[]∧Q σ H
def zcw (t:TG) (u:TGs):TGs:=fun vs σ H Q=>∃ v r,vs=v :: r∧t v σ H fun σ' H'=>u r σ' H' Q
def zcU (K:W.Frag) (n:Nat) (t:TGs):TG:=fun v σ H Q=>∃ a xs,v=.ref a∧SqT K H a xs∧xs.length=n∧t xs σ H Q
def zQ (te:TE) (g:TG):TS:=fun D σ H=>te σ H fun x H1=>g x σ H1 D.nx
theorem zP {i:Nat} {x:Str} {e:Expr} {te:TE} {pos':Pos} (hN:X.N.Nodup) (hi:X.N[i]?=some x) (hx:Loc X.env.scope x) (he:PE X e te) (hs:swapsWith e (some (.Name x pos')) pos.line X.env=pure false:=by rfl) (hf:X.fn x=true∨X.env.scope.names.lookup x=some .local:=by first | exact .inl rfl | exact .inr rfl | assumption) :
  PS X (.Assign [.Name x pos'] e pos) (zQ te (zr i)):=by
 intro pins s σ H D I h
 refine wpAny_Assign_Name (thn (he pins s σ H _ I h) fun v s1 ⟨y,H1,I1,r1,q1⟩=>?_) hs
 exact ZY I1 hN hi hx r1 (fun s2 I2=>⟨_,H1,I2,q1⟩) hf
def zcV (i:Nat) (te:TE) (ti:TIp):TS:=fun D σ H=>∃ x,σ[i]?=some (some x)∧te σ H fun y H1=>ti x y H1 fun z H2=>D.nx (σ.set i (some z)) H2
def ipI (f:Int→Int→Int):TIp:=fun x y H Q=>∃ i j,x=.int i∧y=.int j∧Q (.int (f i j)) H
end
section
variable {X:Cx} {pos:Pos}
def Vx (c:TT) (tb:TS):TS:=fun D σ H=>∃ W:Nat→St→Hp→Prop,(∃ m,W m σ H)∧∀ m σ H,W m σ H →
 c σ H fun b H1=>if b=true then ∃ N:St→Hp→Prop,(∀ σ' H',N σ' H'→∃ m',m' < m∧W m' σ' H')∧tb { D with nx:=N,ct:=N,bk:=D.nx } σ H1 else D.nx σ H1
theorem Kk {c:Expr} {body:List Stmt} {tc:TT} {tb:TS} (hp:PassesOwn (model X.prog X.w) X.A X.env X.xe) (hc:PT X c tc) (hb:PSs X body tb):PS X (.While c body [] pos) (Vx tc tb):=by
 intro pins s σ H D I h
 obtain ⟨W,⟨m0,w0⟩,turn⟩:=h
 refine wpAny_While (codeAny_whileLoop (fun n s'=>∃ σ' H',Inv X pins σ' H' s'∧W n σ' H') ?_ m0 ⟨σ,H,I,w0⟩)
 rintro n s1 ⟨σ1,H1,I1,w1⟩
 refine wpAny_passesOwn hp (thn (hc pins s1 σ1 H1 _ I1 (turn n σ1 H1 w1)) fun b s2 ⟨H2,I2,q2⟩=>?_)
 cases b with
 | true =>
  obtain ⟨N,hN,q2⟩:=q2
  rw [if_pos rfl]
  refine wpAny_passesOwn hp (thn (hb pins s2 σ1 H2 _ I2 q2) fun f s3 q3=>?_)
  cases f with
  | next =>
   obtain ⟨σ3,H3,I3,n3⟩:=q3
   obtain ⟨m',hm,w3⟩:=hN σ3 H3 n3
   exact ⟨m',hm,σ3,H3,I3,w3⟩
  | cont =>
   obtain ⟨σ3,H3,I3,n3⟩:=q3
   obtain ⟨m',hm,w3⟩:=hN σ3 H3 n3
   exact ⟨m',hm,σ3,H3,I3,w3⟩
  | brk=>exact q3
  | ret v=>exact q3
 | false =>
  rw [if_neg Bool.false_ne_true]
  exact wpAny_execs_nil ⟨σ1,H2,I2,q2⟩
end
set_option genSizeOf false in
set_option genInjectivity false in
structure It where
 go:Nat→Hp→Prop
 yld:Nat→Hp→V→Hp→Prop
 stop:Nat→Hp→Prop
def qq (X:Cx) (pins:List (Addr × Obj)) (H:Hp) (b:Addr):Prop :=
 H b=none∧b≠X.env.locals∧b ∉ X.fs∧(b∈X.ex∨X.s₀.heap.objs.size≤b)∧(∀ x c,X.env.cells.lookup x=some c→c≠b)∧∀ p∈X.pn ++ pins,p.1≠b
theorem Inv.fpOk {X:Cx} {pins:List (Addr × Obj)} {σ:St} {H H':Hp} {s:Shared} {b:Addr} (I:Inv X pins σ H s) (hb:s.heap.objs.size≤b) (hn:H' b=none):qq X pins H' b:=by
 refine ⟨hn,Nat.ne_of_gt (Nat.lt_of_lt_of_le I.lt hb),I.nofs hb,.inr (Nat.le_trans I.sz hb),fun x c e z=>?_,fun p hp z=>?_⟩
 ·obtain ⟨v,q⟩:=I.cell x c e
  exact absurd (Nat.lt_of_lt_of_le q.lt (by rw [z];exact hb)) (Nat.lt_irrefl _)
 ·exact absurd (Nat.lt_of_lt_of_le (Heap.lt_size (I.pin p hp).1) (by rw [z];exact hb)) (Nat.lt_irrefl _)
structure Kl (P:Program) (w:World) (K:W.Frag) (tg:Expr) (J:It) (fp:List Addr) (it:Addr) (tn:Nat→Heap→Prop):Prop where
 mem:it∈fp
 obj:∀ i h,tn i h→∀ b∈fp,∃ o,h.get? b=some o∧∀ v,o.data≠.cell v
 keep:∀ i h h',tn i h→(∀ b∈fp,∀ o,h.get? b=some o→h'.get? b=some o)→tn i h'
 item:∀ (X:Cx),X.prog=P→X.w=w→X.K=K→X.calm=true→∀ (i:Nat) (pins:List (Addr × Obj)) (s:Shared) (σ:St) (H:Hp) (E:Value→Shared→Prop),Inv X pins σ H s→(∀ b∈fp,qq X pins H b)→tn i s.heap→J.go i H →
  wpAny (model P w) X.A (pyNext (.ref it)) (fun r s1=>∃ u,r=some u ∧
   wpAny (model P w) X.A (letOwnedTupleGo tg (.ref it) u) (fun _ s2=>∃ x H',Inv X pins σ H' s2∧RelV x u∧J.yld i H x H'∧tn (i + 1) s2.heap∧∀ b∈fp,H' b=none) E s1) E s
 done:∀ (X:Cx),X.prog=P→X.w=w→X.K=K→X.calm=true→∀ (i:Nat) (pins:List (Addr × Obj)) (s:Shared) (σ:St) (H:Hp) (E:Value→Shared→Prop),Inv X pins σ H s→(∀ b∈fp,qq X pins H b)→tn i s.heap→J.stop i H →
  wpAny (model P w) X.A (pyNext (.ref it)) (fun r s1=>r=none∧Inv X pins σ H s1) E s
 self:∀ (A:Around) (i:Nat) (s:Shared) (Q:Value→Shared→Prop) (E:Value→Shared→Prop),tn i s.heap→Q (.ref it) s→wpAny (model P w) A (pyIter (.ref it)) Q E s
abbrev TI:=St→Hp→(It→Hp→Prop)→Prop
def PIE (X:Cx) (pins:List (Addr × Obj)) (σ:St) (tg:Expr) (R:It→Hp→Prop) (itv:Value) (s2:Shared):Prop :=
 ∃ (it:Addr) (fp:List Addr) (tn:Nat→Heap→Prop) (J:It) (H':Hp),itv=.ref it∧Inv X pins σ H' s2∧Kl X.prog X.w X.K tg J fp it tn∧tn 0 s2.heap∧(∀ b∈fp,qq X pins H' b)∧R J H'
def PI (X:Cx) (tg iter:Expr) (wi:TI):Prop :=
 ∀ (pins:List (Addr × Obj)) (s:Shared) (σ:St) (H:Hp) (R:It→Hp→Prop),Inv X pins σ H s→wi σ H R →
  wpAny (model X.prog X.w) X.A (eval iter X.env) (fun v s1=>wpAny (model X.prog X.w) X.A (pyIter v) (PIE X pins σ tg R) X.xe s1) X.xe s
theorem Jb {M:Model} {A:Around} {E:Value→Shared→Prop} {s:Shared} {tg:Expr} {it:Addr} {u:Value} {o:Obj} {n:String} {vs:Array Value} {Q:Unit→Shared→Prop} (ho:s.heap.get? it=some o) (hc:o.cls=.type n) (hd:o.data=.fields vs)
  (hn:["enumerate","zip","dict_itemiterator","dict_reverseitemiterator","odict_iterator","itertools.zip_longest","itertools.pairwise"].contains n=false) (hQ:Q () s):wpAny M A (letOwnedTupleGo tg (.ref it) u) Q E s:=by
 unfold letOwnedTupleGo
 cases tg <;> first
  | exact wpAny_pure hQ
  | (cases u <;> first
      | exact wpAny_pure hQ
      | (refine wpAny_bind (wpAny_load ho ?_)
         rw [hc,hd]
         show wpAny M A (if (["enumerate","zip","dict_itemiterator","dict_reverseitemiterator","odict_iterator","itertools.zip_longest","itertools.pairwise"].contains n && vs[0]? == some (rawInt _))=true then _ else _) Q E s
         rw [if_neg (by intro h;rw [hn,Bool.false_and] at h;cases h)]
         exact wpAny_pure hQ))
def Itl (K:W.Frag) (a:Addr):It :=
 ⟨fun i H=>∃ xs x,SqL K H a xs∧xs[i]?=some x,fun i H x H'=>H'=H∧∀ xs,SqL K H a xs→xs[i]?=some x,fun i H=>∃ xs,SqL K H a xs∧xs.length≤i⟩
def Itt (K:W.Frag) (a:Addr):It :=
 ⟨fun i H=>∃ xs x,SqT K H a xs∧xs[i]?=some x,fun i H x H'=>H'=H∧∀ xs,SqT K H a xs→xs[i]?=some x,fun i H=>∃ xs,SqT K H a xs∧xs.length≤i⟩
def Itr (lo:Int) (n:Nat):It:=⟨fun i _=>i < n,fun i H x H'=>H'=H∧x=.int (lo + i),fun i _=>n≤i⟩
theorem Y6 {P:Program} {w:World} {K:W.Frag} {tg:Expr} (a it:Addr):Kl P w K tg (Itl K a) [it] it (fun i h=>h.IsListIter it a i) where
 mem:=by simp
 obj:=fun i h st b hb=>by
  have e:b=it:=by simpa using hb
  subst e
  obtain ⟨o,e,c,d⟩:=st
  exact ⟨o,e,fun v z=>by rw [d] at z;cases z⟩
 keep:=fun i h h' st k=>st.at fun o e=>k it (by simp) o e
 item:=by
  intro X hP hw hK hc i pins s σ H E I hf st hg
  subst hP hw hK
  obtain ⟨xs,x,hq,hx⟩:=hg
  obtain ⟨its,rv,p,hz⟩:=I.list hq
  obtain ⟨u,hu,ru⟩:=rv.get hx
  obtain ⟨f0,f1,f2,f3,f4,f5⟩:=hf it (by simp)
  refine wpAny_pyNext_list_item st p.isList (x:=u) (by simpa using hu) fun h' st' sb=>?_
  have I1:Inv X pins σ H { s with heap:=h' }:=I.turned (t':=s.toks) (fun b o hb e=>(sb.2 b hb).trans e) f0 f1 f3 f4 f5
  obtain ⟨o,e,c,d⟩:=id st'
  exact ⟨u,rfl,Jb (s:={ s with heap:=h' }) e c d (by decide) ⟨x,H,I1,ru,⟨rfl,fun ys hy=>by rw [I.list_inj hy hq];exact hx⟩,st',fun b hb=>(hf b hb).1⟩⟩
 done:=by
  intro X hP hw hK hc i pins s σ H E I hf st hg
  subst hP hw hK
  obtain ⟨xs,hq,hx⟩:=hg
  obtain ⟨its,rv,p,hz⟩:=I.list hq
  obtain ⟨f0,f1,f2,f3,f4,f5⟩:=hf it (by simp)
  have hl:=rv.length
  exact wpAny_pyNext_list_end (I.ok.hd hc) st p.isList (by simp;lia) fun h' eb=>⟨rfl,I.turned (t':=s.toks) (fun b o hb e=>eb b o hb e) f0 f1 f3 f4 f5⟩
 self:=fun _ _ _ _ _ st h=>wpAny_pyIter_listiter st h
theorem Z4 {P:Program} {w:World} {K:W.Frag} {tg:Expr} (a it:Addr):Kl P w K tg (Itt K a) [it] it (fun i h=>h.IsTupleIter it a i) where
 mem:=by simp
 obj:=fun i h st b hb=>by
  have e:b=it:=by simpa using hb
  subst e
  obtain ⟨o,e,c,d⟩:=st
  exact ⟨o,e,fun v z=>by rw [d] at z;cases z⟩
 keep:=fun i h h' st k=>st.at fun o e=>k it (by simp) o e
 item:=by
  intro X hP hw hK hc i pins s σ H E I hf st hg
  subst hP hw hK
  obtain ⟨xs,x,hq,hx⟩:=hg
  obtain ⟨its,rv,p,hz⟩:=I.tuple hq
  obtain ⟨u,hu,ru⟩:=rv.get hx
  obtain ⟨f0,f1,f2,f3,f4,f5⟩:=hf it (by simp)
  refine wpAny_pyNext_tuple_item st (show s.heap.IsTuple a its.toArray from p) (x:=u) (by simpa using hu) fun h' st' sb=>?_
  have I1:Inv X pins σ H { s with heap:=h' }:=I.turned (t':=s.toks) (fun b o hb e=>(sb.2 b hb).trans e) f0 f1 f3 f4 f5
  obtain ⟨o,e,c,d⟩:=id st'
  exact ⟨u,rfl,Jb (s:={ s with heap:=h' }) e c d (by decide) ⟨x,H,I1,ru,⟨rfl,fun ys hy=>by rw [I.tuple_inj hy hq];exact hx⟩,st',fun b hb=>(hf b hb).1⟩⟩
 done:=by
  intro X hP hw hK hc i pins s σ H E I hf st hg
  subst hP hw hK
  obtain ⟨xs,hq,hx⟩:=hg
  obtain ⟨its,rv,p,hz⟩:=I.tuple hq
  obtain ⟨f0,f1,f2,f3,f4,f5⟩:=hf it (by simp)
  have hl:=rv.length
  exact wpAny_pyNext_tuple_end (I.ok.hd hc) st (show s.heap.IsTuple a its.toArray from p) (by simp;lia) fun h' eb=>⟨rfl,I.turned (t':=s.toks) (fun b o hb e=>eb b o hb e) f0 f1 f3 f4 f5⟩
 self:=fun _ _ _ _ _ st h=>wpAny_pyIter_tupleiter st h
theorem Vy {P:Program} {w:World} {K:W.Frag} {tg:Expr} (it:Addr) (lo:Int) (n:Nat):Kl P w K tg (Itr lo n) [it] it (fun i h=>IsRangeIter h it (lo + (i:Nat) * 1) ((n:Int) - (i:Nat)) 1) where
 mem:=by simp
 obj:=fun i h st b hb=>by
  have e:b=it:=by simpa using hb
  subst e
  exact ⟨_,st,fun v z=>by
   have z':Data.fields _=Data.cell v:=z
   cases z'⟩
 keep:=fun i h h' st k=>k it (by simp) _ st
 item:=by
  intro X hP hw hK hc i pins s σ H E I hf st hg
  subst hP hw hK
  obtain ⟨f0,f1,f2,f3,f4,f5⟩:=hf it (by simp)
  have W:=Walks.range (prog:=X.prog) (w:=X.w) (I.ok.hd hc) it lo 1 n
  refine W.item i s _ _ hg st fun v h' tk hv st' kk=>?_
  obtain ⟨t,rfl⟩:=hv
  have I1:Inv X pins σ H { s with heap:=h',toks:=tk }:=I.turned (fun b o hb e=>kk b o (by simpa using hb) e) f0 f1 f3 f4 f5
  refine ⟨_,rfl,Jb (s:={ s with heap:=h',toks:=tk }) (n:="range_iterator") st' rfl rfl (by decide) ⟨.int (lo + i),H,I1,⟨t,?_⟩,⟨rfl,rfl⟩,st',fun b hb=>(hf b hb).1⟩⟩
  rw [Int.mul_one]
 done:=by
  intro X hP hw hK hc i pins s σ H E I hf st hg
  subst hP hw hK
  obtain ⟨f0,f1,f2,f3,f4,f5⟩:=hf it (by simp)
  exact wpAny_pyNext_range_end (I.ok.hd hc) st (by have:n≤i:=hg;lia) fun h' eb=>⟨rfl,I.turned (t':=s.toks) (fun b o hb e=>eb b o hb e) f0 f1 f3 f4 f5⟩
 self:=fun _ _ _ _ _ st h=>wpAny_pyIter_rangeiter st h
end L2
namespace L2
open PySem PySem.Spec PyProof.Rows
section
variable {X:Cx} {tg:Expr}
def Zn (K:W.Frag) (tl:TE):TI:=fun σ H R=>tl σ H fun x H1=>∃ a,x=.ref a∧(∃ xs,SqL K H1 a xs)∧R (Itl K a) H1
def XC (K:W.Frag) (tl:TE):TI:=fun σ H R=>tl σ H fun x H1=>∃ a,x=.ref a∧(∃ xs,SqT K H1 a xs)∧R (Itt K a) H1
theorem Jc {l:Expr} {tl:TE} (hl:PE X l tl):PI X tg l (Zn X.K tl):=by
 intro pins s σ H R I h
 refine thn (hl pins s σ H _ I h) fun v s1 ⟨x,H1,I1,r1,q1⟩=>?_
 obtain ⟨a,e,⟨xs,hq⟩,q⟩:=q1
 subst e
 cases r1
 obtain ⟨its,rv,p,hz⟩:=I1.list hq
 refine wpAny_pyIter_list p.isList ?_
 refine ⟨s1.heap.objs.size,[s1.heap.objs.size],_,_,H1,rfl,I1.kept (t':=s1.toks) fun b o e=>Heap.get?_push_of_some _ e,Y6 a _,⟨_,Heap.get?_push_size _ rfl,rfl,rfl⟩,fun b hb=>?_,q⟩
 have e:b=s1.heap.objs.size:=by simpa using hb
 subst e
 exact I1.fpOk (Nat.le_refl _) (I1.hok.fresh (Nat.le_refl _))
theorem Km {l:Expr} {tl:TE} (hl:PE X l tl):PI X tg l (XC X.K tl):=by
 intro pins s σ H R I h
 refine thn (hl pins s σ H _ I h) fun v s1 ⟨x,H1,I1,r1,q1⟩=>?_
 obtain ⟨a,e,⟨xs,hq⟩,q⟩:=q1
 subst e
 cases r1
 obtain ⟨its,rv,p,hz⟩:=I1.tuple hq
 refine wpAny_pyIter_tuple (show s1.heap.IsTuple a its.toArray from p) ?_
 refine ⟨s1.heap.objs.size,[s1.heap.objs.size],_,_,H1,rfl,I1.kept (t':=s1.toks) fun b o e=>Heap.get?_push_of_some _ e,Z4 a _,⟨_,Heap.get?_push_size _ rfl,rfl,rfl⟩,fun b hb=>?_,q⟩
 have e:b=s1.heap.objs.size:=by simpa using hb
 subst e
 exact I1.fpOk (Nat.le_refl _) (I1.hok.fresh (Nat.le_refl _))
theorem Kn {pins:List (Addr × Obj)} {σ:St} {H:Hp} {s:Shared} {R:It→Hp→Prop} {E:Value→Shared→Prop} {lo hi:Int} {t u v:Tok} {tk:Nat} (I:Inv X pins σ H s) (h1:-(2 ^ 62)≤lo) (h2:lo < 2 ^ 62) (h3:-(2 ^ 62)≤hi) (h4:hi < 2 ^ 62)
  (q:R (Itr lo (hi - lo).toNat) H):wpAny (model X.prog X.w) X.A (pyIter (.ref s.heap.objs.size)) (PIE X pins σ tg R) E { s with heap:=s.heap.push { cls:=.type "range",data:=.fields #[.int lo t,.int hi u,.int 1 v] },toks:=tk }:=by
 refine wpAny_pyIter_range (IsRange.new ..) (small_one h1 h2 h3 h4) ?_
 have I1:Inv X pins σ H { s with heap:=s.heap.push { cls:=.type "range",data:=.fields #[.int lo t,.int hi u,.int 1 v] },toks:=tk }:=I.kept fun b o e=>Heap.get?_push_of_some _ e
 refine ⟨(s.heap.push { cls:=.type "range",data:=.fields #[.int lo t,.int hi u,.int 1 v] }).objs.size,[(s.heap.push { cls:=.type "range",data:=.fields #[.int lo t,.int hi u,.int 1 v] }).objs.size],_,_,H,rfl,
  I1.kept (t':=tk) fun b o e=>Heap.get?_push_of_some _ e,Vy _ lo (hi - lo).toNat,?_,fun b hb=>?_,q⟩
 ·have e1:lo + ((0:Nat):Int) * 1=lo:=by simp
  have e2:(((hi - lo).toNat:Nat):Int) - ((0:Nat):Int)=Builtin.Range.rangeSize lo hi 1:=by rw [rangeSize_one];split <;> lia
  show IsRangeIter _ _ (lo + ((0:Nat):Int) * 1) ((((hi - lo).toNat:Nat):Int) - ((0:Nat):Int)) 1
  rw [e1,e2]
  exact Heap.get?_push_size _ rfl
 ·have e:b=(s.heap.push { cls:=.type "range",data:=.fields #[.int lo t,.int hi u,.int 1 v] }).objs.size:=by simpa using hb
  subst e
  exact I1.fpOk (Nat.le_refl _) (I1.hok.fresh (Nat.le_refl _))
def v6 (ta:TA):TI:=fun σ H R=>ta σ H fun vs H1=>∃ j:Int,vs=[.int j]∧-(2 ^ 62)≤j∧j < 2 ^ 62∧R (Itr 0 j.toNat) H1
def zcx (ta:TA):TI:=fun σ H R=>ta σ H fun vs H1=>∃ i j:Int,vs=[.int i,.int j]∧(-(2 ^ 62)≤i∧i < 2 ^ 62∧-(2 ^ 62)≤j∧j < 2 ^ 62)∧R (Itr i (j - i).toNat) H1
theorem qS {a:Expr} {ta:TA} {p pos:Pos} (hg:Gl X "range") (hm:X.mg "range"=none) (ha:PA X [a] ta) (hs:starEach [a] X.env=[(false,eval a X.env)]:=by rfl):PI X tg (.Call (.Name "range" p) [a] [] pos) (v6 ta):=by
 intro pins s σ H R I h
 refine Call_ (ZZ I hg hm boot_range (PyProof.Rows.callWith_type1 (thn (ha pos pins s σ H _ I h) fun us s1 ⟨vs,H1,I1,r1,q1⟩=>?_) hs rfl))
 obtain ⟨j,e,q1,q2,q⟩:=q1
 subst e
 cases r1 with
 | cons r rr =>
  cases rr
  obtain ⟨t,rfl⟩:=r
  exact call_range_1 (Kn I1 (by lia) (by lia) q1 q2 (by simpa using q))
def xD (wi:TI) (g:TG) (tb:TS):TS:=fun D σ H=>wi σ H fun J H1=>∃ W:Nat→Nat→St→Hp→Prop,(∃ m,W 0 m σ H1)∧∀ i m σ H,W i m σ H →
 (J.stop i H∧D.nx σ H)∨(J.go i H∧∃ N:St→Hp→Prop,(∀ σ' H',N σ' H'→∃ m',m' < m∧W (i + 1) m' σ' H')∧∀ x H',J.yld i H x H'→g x σ H' fun σ2 H2=>tb { D with nx:=N,ct:=N,bk:=D.nx } σ2 H2)
def Z5 (fp:List Addr) (h:Heap):List (Addr × Obj):=fp.filterMap fun b=>(h.get? b).map fun o=>(b,o)
theorem je {fp:List Addr} {h:Heap} {b:Addr} {o:Obj} (hb:b∈fp) (e:h.get? b=some o):(b,o)∈Z5 fp h:=List.mem_filterMap.mpr ⟨b,hb,by rw [e];rfl⟩
theorem JP {fp:List Addr} {h:Heap} {p:Addr × Obj} (hp:p∈Z5 fp h):p.1∈fp∧h.get? p.1=some p.2:=by
 obtain ⟨b,hb,e⟩:=List.mem_filterMap.mp hp
 cases q:h.get? b with
 | none=>rw [q] at e;cases e
 | some o =>
  rw [q] at e
  have e':(b,o)=p:=Option.some.inj e
  subst e'
  exact ⟨hb,q⟩
theorem Inv.pinned {pins:List (Addr × Obj)} {σ:St} {H:Hp} {s:Shared} {fp:List Addr} (I:Inv X pins σ H s) (hf:∀ b∈fp,qq X pins H b) (ho:∀ b∈fp,∃ o,s.heap.get? b=some o∧∀ v,o.data≠.cell v):Inv X (pins ++ Z5 fp s.heap) σ H s :=
 I.pins_of fun p hp=>(List.mem_append.mp hp).elim (fun z=>I.pin p (List.mem_append_right _ z)) fun z=>by
  obtain ⟨hb,e⟩:=JP z
  obtain ⟨f0,f1,f2,_⟩:=hf p.1 hb
  obtain ⟨o,e',d⟩:=ho p.1 hb
  rw [e] at e';cases e'
  exact ⟨e,f0,f1,f2,d⟩
theorem Inv.unpinned {pins pl:List (Addr × Obj)} {σ:St} {H:Hp} {s:Shared} (I:Inv X (pins ++ pl) σ H s):Inv X pins σ H s:=I.pins_of fun p hp=>I.pin p (List.mem_append_right _ (List.mem_append_left _ hp))
theorem jG {iter:Expr} {body:List Stmt} {wi:TI} {g:TG} {tb:TS} {pos:Pos} (hp:PassesOwn (model X.prog X.w) X.A X.env X.xe) (hc:X.calm=true) (hi:PI X tg iter wi) (hg:PG X tg g) (hb:PSs X body tb)
  (hs:∀ x,foldedSetIterable iter X.env x=pure x:=by intro _;rfl):PS X (.For tg iter body [] pos) (xD wi g tb):=by
 intro pins s σ H D I h
 refine wpAny_For (thn (hi pins s σ H _ I h) fun v s1 h1=>thn h1 fun itv s2 h2=>?_) hs
 obtain ⟨it,fp,tn,J,H2,e,I2,T,st2,f2,W,⟨m0,w0⟩,turn⟩:=h2
 subst e
 -- what stays true of the iterator's objects through the loop
 have stat:∀ {H':Hp},(∀ b∈fp,H' b=none)→∀ b∈fp,qq X pins H' b:=fun hn b hb=>⟨hn b hb,(f2 b hb).2⟩
 refine codeAny_forLoop_any (fun n s'=>∃ i σ' H',Inv X pins σ' H' s'∧tn i s'.heap∧(∀ b∈fp,H' b=none)∧W i n σ' H') ?_ m0 ⟨0,σ,H2,I2,st2,fun b hb=>(f2 b hb).1,w0⟩
 rintro n s3 ⟨i,σ3,H3,I3,st3,fr3,w3⟩
 rcases turn i n σ3 H3 w3 with ⟨stop,qn⟩ | ⟨go,N,hN,step⟩
 ·refine wpAny_passesOwn hp (thn (T.done X rfl rfl rfl hc i pins s3 σ3 H3 X.xe I3 (stat fr3) st3 stop) fun r s4 ⟨hr,I4⟩=>?_)
  subst hr
  exact wpAny_execs_nil ⟨σ3,H3,I4,qn⟩
 ·refine wpAny_passesOwn hp (thn (T.item X rfl rfl rfl hc i pins s3 σ3 H3 X.xe I3 (stat fr3) st3 go) fun r s4 ⟨u,hr,h4⟩=>?_)
  subst hr
  refine wpAny_passesOwn hp (thn h4 fun _ s5 ⟨x,H5,I5,r5,y5,st5,fr5⟩=>?_)
  have I5':=I5.pinned (stat fr5) (T.obj _ _ st5)
  refine wpAny_passesOwn hp (thn (hg _ s5 σ3 H5 x u _ I5' r5 (step x H5 y5)) fun _ s6 ⟨σ6,H6,I6,q6⟩=>?_)
  refine wpAny_passesOwn hp (thn (hb _ s6 σ6 H6 _ I6 q6) fun f s7 q7=>?_)
  have again:∀ {σ7:St} {H7:Hp},Inv X (pins ++ Z5 fp s5.heap) σ7 H7 s7→N σ7 H7→∃ m,m < n∧∃ i σ' H',Inv X pins σ' H' s7∧tn i s7.heap∧(∀ b∈fp,H' b=none)∧W i m σ' H':=fun {σ7 H7} I7 n7=>by
   obtain ⟨m',hm,w7⟩:=hN σ7 H7 n7
   refine ⟨m',hm,i + 1,σ7,H7,I7.unpinned,T.keep _ _ _ st5 fun b hb o e=>(I7.pin (b,o) (List.mem_append_right _ (List.mem_append_right _ (je hb e)))).1,fun b hb=>?_,w7⟩
   obtain ⟨o,e,d⟩:=T.obj _ _ st5 b hb
   exact (I7.pin (b,o) (List.mem_append_right _ (List.mem_append_right _ (je hb e)))).2.1
  cases f with
  | next=>obtain ⟨σ7,H7,I7,n7⟩:=q7;exact again I7 n7
  | cont=>obtain ⟨σ7,H7,I7,n7⟩:=q7;exact again I7 n7
  | brk=>obtain ⟨σ7,H7,I7,q7⟩:=q7;exact ⟨σ7,H7,I7.unpinned,q7⟩
  | ret v=>obtain ⟨x7,σ7,H7,I7,r7,q7⟩:=q7;exact ⟨x7,σ7,H7,I7.unpinned,r7,q7⟩
end
end L2
namespace L2
open PySem PySem.Spec PyProof.Rows
abbrev R2:=V→V→Hp→VK→Prop
def OpR (X:Cx) (f:Value→Value→Sem Value) (r:R2):Prop :=
 ∀ (pins:List (Addr × Obj)) (s:Shared) (σ:St) (H:Hp) (x y:V) (v u:Value) (Q:VK),Inv X pins σ H s→RelV x v→RelV y u→r x y H Q →
  wpAny (model X.prog X.w) X.A (f v u) (EP X pins σ Q) X.xe s
def UnR (X:Cx) (f:Value→Sem Value) (r:V→Hp→VK→Prop):Prop :=
 ∀ (pins:List (Addr × Obj)) (s:Shared) (σ:St) (H:Hp) (x:V) (v:Value) (Q:VK),Inv X pins σ H s→RelV x v→r x H Q →
  wpAny (model X.prog X.w) X.A (f v) (EP X pins σ Q) X.xe s
def kH (X:Cx) (f:Value) (r:List V→Hp→VK→Prop):Prop :=
 ∀ (pins:List (Addr × Obj)) (s:Shared) (σ:St) (H:Hp) (xs:List V) (us:List Value) (Q:VK),Inv X pins σ H s→Vals xs us→r xs H Q →
  wpAny (model X.prog X.w) X.A (call f us) (EP X pins σ Q) X.xe s
def tOp (r:R2) (ta tb:TE):TE:=fun σ H Q=>ta σ H fun x H1=>tb σ H1 fun y H2=>r x y H2 Q
def tUn (r:V→Hp→VK→Prop) (ta:TE):TE:=fun σ H Q=>ta σ H fun x H1=>r x H1 Q
def rI (C:Int→Int→Prop) (g:Int→Int→V):R2:=fun x y H Q=>∃ i j,x=.int i∧y=.int j∧C i j∧Q (g i j) H
def rI0 (g:Int→Int→V):R2:=fun x y H Q=>∃ i j,x=.int i∧y=.int j∧Q (g i j) H
def rU (g:Int→V):V→Hp→VK→Prop:=fun x H Q=>∃ i,x=.int i∧Q (g i) H
section
variable {X:Cx} {a b c:Expr} {ta tb tc:TE} {pos:Pos}
theorem zba (ha:PE X a ta) (hb:PE X b tb) {pins:List (Addr × Obj)} {s:Shared} {σ:St} {H:Hp} {R:V→V→Hp→Prop} (I:Inv X pins σ H s)
  (h:ta σ H fun x H1=>tb σ H1 fun y H2=>R x y H2) {Q:Value→Shared→Prop} {f:Value→Value→Sem Value}
  (hf:∀ v u s2 x y H2,Inv X pins σ H2 s2→RelV x v→RelV y u→R x y H2→wpAny (model X.prog X.w) X.A (f v u) Q X.xe s2) :
  wpAny (model X.prog X.w) X.A (eval a X.env) (fun v s₁=>wpAny (model X.prog X.w) X.A (eval b X.env) (fun u s₂=>wpAny (model X.prog X.w) X.A (f v u) Q X.xe s₂) X.xe s₁) X.xe s:=by
 refine thn (ha pins s σ H _ I h) fun v s1 ⟨x,H1,I1,r1,q1⟩=>?_
 refine thn (hb pins s1 σ H1 _ I1 q1) fun u s2 ⟨y,H2,I2,r2,q2⟩=>?_
 exact hf v u s2 x y H2 I2 r1 r2 q2
theorem zw {op:Operator} {r:R2} (ho:OpR X (binaryOp op) r) (ha:PE X a ta) (hb:PE X b tb):PE X (.BinOp a op b pos) (tOp r ta tb):=by
 intro pins s σ H Q I h
 exact wpAny_BinOp (zba ha hb I h fun v u s2 x y H2 I2 rx ry q=>ho pins s2 σ H2 x y v u Q I2 rx ry q)
theorem qt {op:UnaryOp} {r:V→Hp→VK→Prop} (ho:UnR X (unaryOp op) r) (ha:PE X a ta):PE X (.UnaryOp op a pos) (tUn r ta):=by
 intro pins s σ H Q I h
 exact UnaryOp_ (thn (ha pins s σ H _ I h) fun v s1 ⟨x,H1,I1,r1,q1⟩=>ho pins s1 σ H1 x v Q I1 r1 q1)
theorem opI {f:Value→Value→Sem Value} {C:Int→Int→Prop} {g:Int→Int→Int}
  (rule:∀ (i j:Int) (t u:Tok) (s:Shared) (Q:Value→Shared→Prop) (E:Value→Shared→Prop),C i j→Q (.int (g i j) s.toks) { s with toks:=s.toks + 1 }→wpAny (model X.prog X.w) X.A (f (.int i t) (.int j u)) Q E s) :
  OpR X f (rI C fun i j=>.int (g i j)):=by
 intro pins s σ H x y v u Q I rx ry h
 obtain ⟨i,j,rfl,rfl,hc,q⟩:=h
 obtain ⟨t,rfl⟩:=rx
 obtain ⟨t',rfl⟩:=ry
 exact rule i j t t' s _ _ hc ⟨.int (g i j),H,I.tok _,⟨_,rfl⟩,q⟩
theorem zbH {f:Value→Value→Sem Value} {g:Int→Int→Int}
  (rule:∀ (i j:Int) (t u:Tok) (s:Shared) (Q:Value→Shared→Prop) (E:Value→Shared→Prop),Q (.int (g i j) s.toks) { s with toks:=s.toks + 1 }→wpAny (model X.prog X.w) X.A (f (.int i t) (.int j u)) Q E s) :
  OpR X f (rI0 fun i j=>.int (g i j)):=by
 intro pins s σ H x y v u Q I rx ry h
 obtain ⟨i,j,rfl,rfl,q⟩:=h
 obtain ⟨t,rfl⟩:=rx
 obtain ⟨t',rfl⟩:=ry
 exact rule i j t t' s _ _ ⟨.int (g i j),H,I.tok _,⟨_,rfl⟩,q⟩
theorem QV {f:Value→Value→Sem Value} {g:Int→Int→Bool}
  (rule:∀ (i j:Int) (t u:Tok) (s:Shared) (Q:Value→Shared→Prop) (E:Value→Shared→Prop),Q (.bool (g i j)) s→wpAny (model X.prog X.w) X.A (f (.int i t) (.int j u)) Q E s) :
  OpR X f (rI0 fun i j=>.bl (g i j)):=by
 intro pins s σ H x y v u Q I rx ry h
 obtain ⟨i,j,rfl,rfl,q⟩:=h
 obtain ⟨t,rfl⟩:=rx
 obtain ⟨t',rfl⟩:=ry
 exact rule i j t t' s _ _ ⟨.bl (g i j),H,I,rfl,q⟩
def Zy (i j:Int):Prop:=0≤j∧j≤1000000∧i.natAbs < 2 ^ 64
theorem z6:OpR X (binaryOp .Add) (rI0 fun i j=>.int (i + j)):=zbH fun _ _ _ _ _ _ _ q=>add_int q
theorem kT:OpR X (binaryOp .Sub) (rI0 fun i j=>.int (i - j)):=zbH fun _ _ _ _ _ _ _ q=>sub_int q
theorem yj:OpR X (binaryOp .Mod) (rI (fun _ j=>0 < j) fun i j=>.int (i % j)):=opI fun i j _ _ _ _ _ hc q=>by
 have h1:(0:Int) < j:=hc
 exact mod_int' (by lia) (by rw [Int.fmod_eq_emod_of_nonneg i (by lia)];exact q)
theorem QW:OpR X (binaryOp .Mod) (rI (fun _ j=>j≠0) fun i j=>.int (i.fmod j)):=opI fun _ _ _ _ _ _ _ hc q=>mod_int' hc q
theorem jH:OpR X (binaryOp .Pow) (rI Zy fun i j=>.int (i ^ j.toNat)):=opI fun _ _ _ _ _ _ _ hc q=>pow_int_small hc.1 hc.2.1 hc.2.2 q
theorem unI {f:Value→Sem Value} {g:Int→Int}
  (rule:∀ (i:Int) (t:Tok) (s:Shared) (Q:Value→Shared→Prop) (E:Value→Shared→Prop),Q (.int (g i) s.toks) { s with toks:=s.toks + 1 }→wpAny (model X.prog X.w) X.A (f (.int i t)) Q E s) :
  UnR X f (rU fun i=>.int (g i)):=by
 intro pins s σ H x v Q I rx h
 obtain ⟨i,rfl,q⟩:=h
 obtain ⟨t,rfl⟩:=rx
 exact rule i t s _ _ ⟨.int (g i),H,I.tok _,⟨_,rfl⟩,q⟩
theorem jf:UnR X (unaryOp .USub) (rU fun i=>.int (-i)):=unI fun _ _ _ _ _ q=>neg_int q
end
def yP:V→V→Bool
 | .non,.non=>true | .non,.int _=>true | .int _,.non=>true | .non,.bl _=>true | .bl _,.non=>true | .non,.str _=>true | .str _,.non=>true
 | .int _,.int _=>true | .bl _,.bl _=>true | .str _,.str _=>true | .byt _,.byt _=>true
 | .int _,.str _=>true | .str _,.int _=>true | .bl _,.str _=>true | .str _,.bl _=>true
 | _,_=>false
def rEq:R2:=fun x y H Q=>yP x y=true∧Q (.bl (decide (x=y))) H
def rNe:R2:=fun x y H Q=>yP x y=true∧Q (.bl (!decide (x=y))) H
theorem Jd {i j:Int}:decide (V.int i=V.int j)=(i == j):=by
 rw [Bool.eq_iff_iff]
 simp
theorem Ko {i j:Bool}:decide (V.bl i=V.bl j)=(i == j):=by
 rw [Bool.eq_iff_iff]
 simp
theorem Je {i j:Str}:decide (V.str i=V.str j)=(i == j):=by
 rw [Bool.eq_iff_iff]
 simp
theorem Jf {i j:Array UInt8}:decide (V.byt i=V.byt j)=(i.toList == j.toList):=by
 rw [Bool.eq_iff_iff]
 cases i
 cases j
 simp
section
variable {X:Cx} {a b c:Expr} {ta tb tc:TE} {pos:Pos}
theorem yc {pins:List (Addr × Obj)} {σ:St} {H:Hp} {s:Shared} {Q:VK} {k k':Bool} (I:Inv X pins σ H s) (q:Q (.bl k) H) (e:k=k'):EP X pins σ Q (.bool k') s:=by
 subst e
 exact ⟨.bl k,H,I,rfl,q⟩
theorem yi:OpR X (compareOp .Eq) rEq:=by
 intro pins s σ H x y v u Q I rx ry h
 obtain ⟨hs,q⟩:=h
 cases x with
 | non =>
  cases rx
  cases y with
  | non=>cases ry;exact PySem.EqNone.eq_none_none (yc I q (by simp))
  | bl j=>cases ry;exact PySem.EqNone.eq_none_bool (yc I q (by simp))
  | int j=>obtain ⟨t',rfl⟩:=ry;exact PySem.EqNone.eq_none_int (yc I q (by simp))
  | str j=>obtain ⟨t',rfl⟩:=ry;exact PySem.EqNone.eq_none_str (yc I q (by simp))
  | _=>exact absurd (show false=true from hs) Bool.false_ne_true
 | bl i =>
  cases rx
  cases y with
  | non=>cases ry;exact PySem.EqNone.eq_bool_none (yc I q (by simp))
  | bl j=>cases ry;exact eq_bool (yc I q Ko)
  | str j=>obtain ⟨t',rfl⟩:=ry;exact PySem.EqMixed.eq_bool_str (yc I q (by simp))
  | _=>exact absurd (show false=true from hs) Bool.false_ne_true
 | int i =>
  obtain ⟨t,rfl⟩:=rx
  cases y with
  | non=>cases ry;exact PySem.EqNone.eq_int_none (yc I q (by simp))
  | int j=>obtain ⟨t',rfl⟩:=ry;exact eq_int (yc I q Jd)
  | str j=>obtain ⟨t',rfl⟩:=ry;exact PySem.EqMixed.eq_int_str (yc I q (by simp))
  | _=>exact absurd (show false=true from hs) Bool.false_ne_true
 | str i =>
  obtain ⟨t,rfl⟩:=rx
  cases y with
  | non=>cases ry;exact PySem.EqNone.eq_str_none (yc I q (by simp))
  | bl j=>cases ry;exact PySem.EqMixed.eq_str_bool (yc I q (by simp))
  | int j=>obtain ⟨t',rfl⟩:=ry;exact PySem.EqMixed.eq_str_int (yc I q (by simp))
  | str j=>obtain ⟨t',rfl⟩:=ry;exact eq_str (yc I q Je)
  | _=>exact absurd (show false=true from hs) Bool.false_ne_true
 | byt i =>
  obtain ⟨t,rfl⟩:=rx
  cases y with
  | byt j=>obtain ⟨t',rfl⟩:=ry;exact W.eq_bytes (yc I q Jf)
  | _=>exact absurd (show false=true from hs) Bool.false_ne_true
 | _=>cases y <;> exact absurd (show false=true from hs) Bool.false_ne_true
theorem Y7:OpR X (compareOp .NotEq) rNe:=by
 intro pins s σ H x y v u Q I rx ry h
 obtain ⟨hs,q⟩:=h
 cases x with
 | non =>
  cases rx
  cases y with
  | non=>cases ry;exact PySem.EqNone.ne_none_none (yc I q (by simp))
  | bl j=>cases ry;exact PySem.EqNone.ne_none_bool (yc I q (by simp))
  | int j=>obtain ⟨t',rfl⟩:=ry;exact PySem.EqNone.ne_none_int (yc I q (by simp))
  | str j=>obtain ⟨t',rfl⟩:=ry;exact PySem.EqNone.ne_none_str (yc I q (by simp))
  | _=>exact absurd (show false=true from hs) Bool.false_ne_true
 | bl i =>
  cases rx
  cases y with
  | non=>cases ry;exact PySem.EqNone.ne_bool_none (yc I q (by simp))
  | bl j=>cases ry;exact ne_bool (yc I q (congrArg not Ko))
  | str j=>obtain ⟨t',rfl⟩:=ry;exact PySem.EqMixed.ne_bool_str (yc I q (by simp))
  | _=>exact absurd (show false=true from hs) Bool.false_ne_true
 | int i =>
  obtain ⟨t,rfl⟩:=rx
  cases y with
  | non=>cases ry;exact PySem.EqNone.ne_int_none (yc I q (by simp))
  | int j=>obtain ⟨t',rfl⟩:=ry;exact ne_int (yc I q (congrArg not Jd))
  | str j=>obtain ⟨t',rfl⟩:=ry;exact PySem.EqMixed.ne_int_str (yc I q (by simp))
  | _=>exact absurd (show false=true from hs) Bool.false_ne_true
 | str i =>
  obtain ⟨t,rfl⟩:=rx
  cases y with
  | non=>cases ry;exact PySem.EqNone.ne_str_none (yc I q (by simp))
  | bl j=>cases ry;exact PySem.EqMixed.ne_str_bool (yc I q (by simp))
  | int j=>obtain ⟨t',rfl⟩:=ry;exact PySem.EqMixed.ne_str_int (yc I q (by simp))
  | str j=>obtain ⟨t',rfl⟩:=ry;exact ne_str (yc I q (congrArg not Je))
  | _=>exact absurd (show false=true from hs) Bool.false_ne_true
 | byt i =>
  obtain ⟨t,rfl⟩:=rx
  cases y with
  | byt j=>obtain ⟨t',rfl⟩:=ry;exact W.ne_bytes (yc I q (congrArg not Jf))
  | _=>exact absurd (show false=true from hs) Bool.false_ne_true
 | _=>cases y <;> exact absurd (show false=true from hs) Bool.false_ne_true
theorem jI:OpR X (compareOp .Lt) (rI0 fun i j=>.bl (decide (i < j))):=QV fun _ _ _ _ _ _ _ q=>lt_int q
theorem zaQ:OpR X (compareOp .LtE) (rI0 fun i j=>.bl (decide (i≤j))):=QV fun _ _ _ _ _ _ _ q=>le_int q
theorem Jg:OpR X (compareOp .Gt) (rI0 fun i j=>.bl (decide (j < i))):=QV fun _ _ _ _ _ _ _ q=>gt_int q
theorem zaR:OpR X (compareOp .GtE) (rI0 fun i j=>.bl (decide (j≤i))):=QV fun _ _ _ _ _ _ _ q=>ge_int q
theorem Vz:OpR X (compareOp .Is) (fun x y H Q=>y=.non∧Q (.bl (decide (x=.non))) H):=by
 intro pins s σ H x y v u Q I rx ry h
 obtain ⟨rfl,q⟩:=h
 cases ry
 refine is_none_gen (yc I q ?_)
 cases x <;> first
  | (cases rx;rfl)
  | (obtain ⟨t,rfl⟩:=rx;rfl)
theorem ZN:OpR X (compareOp .IsNot) (fun x y H Q=>y=.non∧Q (.bl (!decide (x=.non))) H):=by
 intro pins s σ H x y v u Q I rx ry h
 obtain ⟨rfl,q⟩:=h
 cases ry
 refine isnot_none_gen (yc I q ?_)
 cases x <;> first
  | (cases rx;rfl)
  | (obtain ⟨t,rfl⟩:=rx;rfl)
theorem zy (b:Expr) {op:CmpOp} (h:op≠.In:=by decide) (h2:op≠.NotIn:=by decide):behindInMarks op b=false:=by
 have e1:(op == CmpOp.In)=false:=by cases op <;> first | rfl | exact absurd rfl h
 have e2:(op == CmpOp.NotIn)=false:=by cases op <;> first | rfl | exact absurd rfl h2
 cases b <;> simp [behindInMarks,e1,e2]
theorem vH {op:CmpOp} {r:R2} (ho:OpR X (compareOp op) r) (ha:PE X a ta) (hb:PE X b tb) (hm:behindInMarks op b=false):PE X (.Compare a [op] [b] pos) (tOp r ta tb):=by
 intro pins s σ H Q I h
 exact wpAny_Compare1 (zba ha hb I h fun v u s2 x y H2 I2 rx ry q=>ho pins s2 σ H2 x y v u Q I2 rx ry q) hm
def zm (t:TE):TT:=fun σ H Q=>t σ H fun x H'=>∃ k,x=.bl k∧Q k H'
theorem zn {op:CmpOp} {r:R2} (ho:OpR X (compareOp op) r) (ha:PE X a ta) (hb:PE X b tb) (hm:behindInMarks op b=false):PT X (.Compare a [op] [b] pos) (zm (tOp r ta tb)):=by
 intro pins s σ H Q I h
 refine wpAny_isTrue_Compare1 (thn (ha pins s σ H _ I h) fun v s1 ⟨x,H1,I1,r1,q1⟩=>thn (hb pins s1 σ H1 _ I1 q1) fun u s2 ⟨y,H2,I2,r2,q2⟩ =>
  thn (ho pins s2 σ H2 x y v u _ I2 r1 r2 q2) fun c s3 ⟨z,H3,I3,r3,k,e,q3⟩=>?_) hm
 subst e
 cases r3
 exact wpAny_truthy_bool ⟨H3,I3,q3⟩
def VA (r r':R2) (ta tb tc:TE):TE:=fun σ H Q=>ta σ H fun x H1=>tb σ H1 fun y H2=>r x y H2 fun z H3=>∃ k,z=.bl k ∧
 (if k=true then tc σ H3 fun w' H4=>r' y w' H4 Q else Q (.bl false) H3)
theorem Kq {op op':CmpOp} {r r':R2} (ho:OpR X (compareOp op) r) (ho':OpR X (compareOp op') r') (ha:PE X a ta) (hb:PE X b tb) (hc:PE X c tc)
  (hm:lastMarks [op,op'] [b,c]=false:=by with_unfolding_all rfl):PE X (.Compare a [op,op'] [b,c] pos) (VA r r' ta tb tc):=by
 intro pins s σ H Q I h
 refine Compare_chain (thn (ha pins s σ H _ I h) fun v s1 ⟨x,H1,I1,r1,q1⟩=>chain_link (thn (hb pins s1 σ H1 _ I1 q1) fun u s2 ⟨y,H2,I2,r2,q2⟩ =>
  thn (ho pins s2 σ H2 x y v u _ I2 r1 r2 q2) fun d s3 ⟨z,H3,I3,r3,k,e,q3⟩=>?_)) hm
 subst e
 cases r3
 refine wpAny_truthy_bool ?_
 cases k with
 | false=>exact ite_ff ⟨.bl false,H3,I3,rfl,q3⟩
 | true=>exact ite_tt (chain_last (thn (hc pins s3 σ H3 _ I3 q3) fun w' s4 ⟨z',H4,I4,r4,q4⟩=>ho' pins s4 σ H4 y z' u w' Q I4 r2 r4 q4))
theorem XD:(sizeLine:Nat) < 2 ^ 63:=by rw [sizeLine_eq];decide
theorem jg:OpR X (binaryOp .Add) (fun x y H Q=>∃ i j,x=.str i∧y=.str j∧i.length + j.length≤sizeLine∧Q (.str (i ++ j)) H):=by
 intro pins s σ H x y v u Q I rx ry h
 obtain ⟨i,j,rfl,rfl,hz,q⟩:=h
 obtain ⟨t,rfl⟩:=rx
 obtain ⟨t',rfl⟩:=ry
 exact add_str (fun t' tk=>⟨.str (i ++ j),H,I.tok _,⟨_,rfl⟩,q⟩) hz
theorem Y8 {x:V} {us:List Value} (r:Vals [x] us):∃ u,us=[u]∧RelV x u:=by
 cases r with
 | cons r1 r2=>cases r2;exact ⟨_,rfl,r1⟩
theorem zaS {x y:V} {us:List Value} (r:Vals [x,y] us):∃ u w',us=[u,w']∧RelV x u∧RelV y w':=by
 cases r with
 | cons r1 r2 =>
  cases r2 with
  | cons r3 r4=>cases r4;exact ⟨_,_,rfl,r1,r3⟩
def xS (K:W.Frag) (x:V) (H:Hp) (n:Nat):Prop :=
 match x with
 | .str y=>y.length≤sizeLine∧n=y.length
 | .byt y=>y.size≤sizeLine∧n=y.size
 | .ref p=>(∃ xs,SqL K H p xs∧n=xs.length)∨∃ xs,SqT K H p xs∧n=xs.length
 | _=>False
theorem yA:kH X (.builtin "len") (fun xs H Q=>∃ x n,xs=[x]∧xS X.K x H n∧Q (.int n) H):=by
 intro pins s σ H xs us Q I r h
 obtain ⟨x,n,rfl,e,q⟩:=h
 obtain ⟨u,rfl,rx⟩:=Y8 r
 have hl:=XD
 have hs:sizeLine=16777216:=sizeLine_eq
 cases x with
 | str y =>
  obtain ⟨t,rfl⟩:=rx
  obtain ⟨hy,e'⟩:y.length≤sizeLine∧n=y.length:=e
  subst e'
  exact len_str (by lia) ⟨.int _,H,I.tok _,⟨_,rfl⟩,q⟩
 | byt y =>
  obtain ⟨t,rfl⟩:=rx
  obtain ⟨hy,e'⟩:y.size≤sizeLine∧n=y.size:=e
  subst e'
  exact W.len_bytes (by lia) ⟨.int _,H,I.tok _,⟨_,rfl⟩,q⟩
 | ref p =>
  cases rx
  have e':(∃ xs,SqL X.K H p xs∧n=xs.length)∨∃ xs,SqT X.K H p xs∧n=xs.length:=e
  rcases e' with ⟨xs,hx,e'⟩ | ⟨xs,hx,e'⟩
  ·subst e'
   obtain ⟨its,r',pl,hz⟩:=I.list hx
   have hlen:=r'.length
   exact Calls.call_len_list pl.isList (by simp only [List.size_toArray];lia) ⟨.int xs.length,H,I.tok _,⟨_,by simp only [List.size_toArray];rw [hlen]⟩,q⟩
  ·subst e'
   obtain ⟨its,r',pl,hz⟩:=I.tuple hx
   have hlen:=r'.length
   exact len_tuple pl (by simp only [List.size_toArray];lia) ⟨.int xs.length,H,I.tok _,⟨_,by simp only [List.size_toArray];rw [hlen]⟩,q⟩
 | _=>exact (show False from e).elim
end
end L2
namespace L2
open PySem PySem.Spec PyProof.Rows
structure ObjM (h:Heap) (x dx C:Addr) (mA:Str→Option Value):Prop where
 obj:h.get? x=some (W.instObj C dx)
 ns:h.Ns1 dx mA
 ne:dx≠x
theorem JQ {h:Heap} {dx:Addr} {mA:Str→Option Value} (n:h.Ns1 dx mA):∃ od,h.get? dx=some od∧∀ name,W.lookIn name od=some (mA name):=by
 obtain ⟨o,es,ep,ho,hd,hk,_,hm⟩:=n
 refine ⟨o,ho,fun name=>?_⟩
 have e:=hm name
 unfold nsFind findBy at e
 rw [← Array.find?_toList] at e
 unfold W.lookIn
 rw [hd]
 dsimp only
 split
 ·rename_i y q
  rw [q] at e
  exact congrArg some e
 ·rename_i q
  rw [q] at e
  have a:es.toList.any (·.refKey)=false:=by
   rw [List.any_eq_false]
   intro y hy
   obtain ⟨z,t,hkey⟩:=hk y (Array.mem_toList_iff.mp hy)
   simp [DictEntry.refKey,hkey]
  have a':¬ es.toList.any (·.refKey)=true:=by rw [a];exact Bool.false_ne_true
  rw [if_neg a']
  exact congrArg some e
theorem ObjM.look {h:Heap} {x dx C:Addr} {mA:Str→Option Value} (I:ObjM h x dx C mA):∃ od,W.InstAt h x (W.instObj C dx) C (some od)∧∀ name,W.lookIn name od=some (mA name) :=
 let ⟨od,ho,hl⟩:=JQ I.ns
 ⟨od,⟨I.obj,rfl,rfl,ho⟩,hl⟩
section
variable {prog:Program} {w:World} {A:Around} {E:Value→Shared→Prop} {s:Shared} {K:W.Frag} {x dx C f:Addr} {mA:Str→Option Value} {name:Str} {v:Value}
theorem QX {expr:Bool} {Q:Value→Shared→Prop} (X:K.In s.heap) (I:ObjM s.heap x dx C mA) (hg:W.plainGet K C name=true) (hh:W.hasDictIn K C=true)
  (ha:W.findIn K (.ref C) name=some none) (hv:mA name=some v) (hv':W.handedIn v=true) (h:Q v { s with toks:=s.toks + 1 }) :
  wpAny (model prog w) A (getAttr (.ref x) name expr) Q E s:=by
 obtain ⟨od,J,hl⟩:=I.look
 exact W.get_value X J (W.plainGet_of hg).1 (W.findObj_own hh ha rfl (by rw [hl,hv])) hv' h
theorem Kr {pl:Sem Bool} {Q:Value × List Value→Shared→Prop} (X:K.In s.heap) (I:ObjM s.heap x dx C mA) (hg:W.plainGet K C name=true)
  (hf:W.findIn K (.ref C) name=some (some (.ref f))) (ht:W.isFn K (.ref f)=true) (hv:mA name=none) (h:Q (.ref f,[.ref x]) s) :
  wpAny (model prog w) A (getMethod (.ref x) name pl) Q E s:=by
 obtain ⟨od,J,hl⟩:=I.look
 exact W.method_fn X J (W.plainGet_of hg).1 (W.plainGet_of hg).2 hf (beq_iff_eq.mp ht) (by show (W.lookIn name od).map (·.isSome)=some false;rw [hl,hv];rfl) h
theorem QY {ns:List Str} {Q:Unit→Shared→Prop} (X:K.In s.heap) (I:ObjM s.heap x dx C mA)
  (hs:W.findIn K (.ref C) "__setattr__"=some (some (.builtin "object.__setattr__"))) (hp:W.plainOver K C=true) (ht:W.takerIn K C name=some none) (hh:W.hasDictIn K C=true)
  (hw:PySem.Within mA ns) (hsz:ns.length≤sizeLine)
  (h:∀ h',ObjM h' x dx C (fun y=>if y=name then some v else mA y)→Heap.SameBut dx s.heap h'→Q () { s with heap:=h',toks:=s.toks + 2 }) :
  wpAny (model prog w) A (setAttr (.ref x) name v) Q E s:=by
 obtain ⟨od,J,hl⟩:=I.look
 refine W.set_plain X J hs (W.osa_open (s:={ s with toks:=s.toks + 1 }) (r:=none) X J hp ht fun b=>?_)
 obtain ⟨cd,hc,hd'⟩:=W.any_some hh
 have hx:s.heap.get? x=some ⟨.ref C,some dx,.plain,#[]⟩:=I.obj
 refine wpAny_bind (wpAny_pure (wpAny_bind (wpAny_bind (wpAny_loadPart hx (wpAny_bind (W.Looks.here (s:={ s with toks:=s.toks + 1 }) (W.looks_clsIn X hc) ?_))))))
 rw [hd']
 refine wpAny_pure (a:=some dx) (wpAny_bind (wpAny_pure (wpAny_bind ?_)))
 refine wpAny_nsSet1 (s:={ s with toks:=s.toks + 1 }) I.ns fun h' hn2 hs2=>?_
 obtain ⟨oD,esD,epD,hoD,hdD,hcD⟩:=hn2.count (PySem.Within.cons name v hw)
 refine wpAny_bind (wpAny_lookBehind hoD (by rw [hdD];exact pastItsLine_dict (Nat.le_trans hcD (by rw [List.length_cons];lia))) ?_)
 exact wpAny_pure (h _ ⟨(hs2.2 _ (Ne.symm I.ne)).trans I.obj,hn2,I.ne⟩ hs2)
theorem Ks {R:Result→Shared→Prop} {vs:List Value} {kw:List (Str × Value)} (X:K.In s.heap) (hm:W.makesIn K C=true)
  (hi:W.findIn K (.ref C) "__init__"=some (some (.ref f))) (hf:W.typeIn K (.ref f)=some (.type "function"))
  (h:codeAny (model prog w) (A.under (.builtin "type.__call__" ⟨.ref C :: vs,kw⟩)) (.call (.ref f) ⟨.ref (s.heap.objs.size + 1) :: vs,kw⟩) (W.InitBack (s.heap.objs.size + 1) R)
   { s with heap:=(s.heap.push W.emptyDict).push (W.instObj C s.heap.objs.size) }) :
  codeAny (model prog w) A (.call (.ref C) ⟨vs,kw⟩) R s:=by
 obtain ⟨hh,g,d,t,os⟩:=s
 exact W.make_core (W.makes_of X hm) (W.looks_findIn X hi) (fun self=>W.bind_fn X self hf) (.inl rfl) h
end
def ym (f:Str) (v:V):List (Str × V)→List (Str × V)
 | []=>[(f,v)]
 | (g,x) :: r=>if g=f then (g,v) :: r else (g,x) :: ym f v r
theorem Zo (f g:Str) (v:V):∀ fs:List (Str × V),(ym f v fs).lookup g=if g=f then some v else fs.lookup g
 | []=>by
  show List.lookup g [(f,v)]=_
  by_cases h:g=f
  ·have hb:(g == f)=true:=beq_iff_eq.mpr h
   simp only [List.lookup,hb,if_pos h]
  ·have hb:(g == f)=false:=beq_eq_false_iff_ne.mpr h
   simp only [List.lookup,hb,if_neg h]
 | (k,x) :: r=>by
  have ih:=Zo f g v r
  rw [show ym f v ((k,x) :: r)=(if k=f then (k,v) :: r else (k,x) :: ym f v r) from rfl]
  by_cases hk:k=f
  ·rw [if_pos hk]
   by_cases h:g=k
   ·have hb:(g == k)=true:=beq_iff_eq.mpr h
    simp only [List.lookup,hb,if_pos (h.trans hk)]
   ·have hb:(g == k)=false:=beq_eq_false_iff_ne.mpr h
    simp only [List.lookup,hb,if_neg (fun e:g=f=>h (e.trans hk.symm))]
  ·rw [if_neg hk]
   by_cases h:g=k
   ·have hb:(g == k)=true:=beq_iff_eq.mpr h
    simp only [List.lookup,hb,if_neg (fun e:g=f=>hk (h.symm.trans e))]
   ·have hb:(g == k)=false:=beq_eq_false_iff_ne.mpr h
    simp only [List.lookup,hb]
    exact ih
theorem qT (f:Str) (v:V):∀ fs:List (Str × V),f∈(ym f v fs).map (·.1)∧∀ g,g∈fs.map (·.1)→g∈(ym f v fs).map (·.1)
 | []=>⟨by simp [ym],fun g h=>by simp at h⟩
 | (k,x) :: r=>by
  obtain ⟨i1,i2⟩:=qT f v r
  rw [show ym f v ((k,x) :: r)=(if k=f then (k,v) :: r else (k,x) :: ym f v r) from rfl]
  by_cases hk:k=f
  ·rw [if_pos hk]
   subst hk
   exact ⟨by simp,fun g h=>by simpa using h⟩
  ·rw [if_neg hk]
   refine ⟨?_,fun g h=>?_⟩
   ·rw [List.map_cons]
    exact List.mem_cons_of_mem _ i1
   ·rw [List.map_cons] at h ⊢
    rcases List.mem_cons.mp h with e | e
    ·exact List.mem_cons.mpr (.inl e)
    ·exact List.mem_cons_of_mem _ (i2 g e)
theorem Zq (f:Str) (v:V):∀ fs:List (Str × V),(ym f v fs).length≤fs.length + 1
 | []=>by simp [ym]
 | (k,x) :: r=>by
  have ih:=Zq f v r
  rw [show ym f v ((k,x) :: r)=(if k=f then (k,v) :: r else (k,x) :: ym f v r) from rfl]
  by_cases hk:k=f
  ·rw [if_pos hk,List.length_cons,List.length_cons];lia
  ·rw [if_neg hk,List.length_cons,List.length_cons];lia
theorem RelO.some_of {v:V} {o:Option Value} (r:RelO (some v) o):∃ u,o=some u∧RelV v u:=by
 cases o with
 | none=>exact (show False from r).elim
 | some u=>exact ⟨u,rfl,r⟩
theorem RelO.none_of {o:Option Value} (r:RelO none o):o=none:=by
 cases o with
 | none=>rfl
 | some u=>exact (show False from r).elim
theorem JR {v:V} {u:Value} (r:RelV v u):W.handedIn u=true:=by
 cases v with
 | non=>cases (show u=Value.none from r);rfl
 | bl b=>cases (show u=Value.bool b from r);rfl
 | int i=>obtain ⟨t,e⟩:=(show ∃ t,u=Value.int i t from r);cases e;rfl
 | str x=>obtain ⟨t,e⟩:=(show ∃ t,u=Value.str x t from r);cases e;rfl
 | byt b=>obtain ⟨t,e⟩:=(show ∃ t,u=Value.bytes b t from r);cases e;rfl
 | flt b=>obtain ⟨t,e⟩:=(show ∃ t,u=Value.float b t from r);cases e;rfl
 | ref a=>cases (show u=Value.ref a from r);rfl
 | ty n=>cases (show u=Value.type n from r);rfl
section
variable {P:Program} {w:World} {H H':Hp} {h h':Heap} {a C dx:Addr} {fs fs':List (Str × V)}
theorem qu (hok:HOk P w H h) (e:H a=some (.ins C dx fs)):∃ mA,ObjM h a dx C mA∧(∀ f,RelO (fs.lookup f) (mA f))∧PySem.Within mA (fs.map (·.1))∧fs.length≤1000∧H dx=some (.own a):=by
 obtain ⟨d,z,ne,ob,mA,n,r,q⟩:=(show ObjOk P w H h a (.ins C dx fs) from hok a _ e)
 exact ⟨mA,⟨ob,n,ne⟩,r,q,z,d⟩
end
structure Cls (K:W.Frag) (C:Addr):Prop where
 pg:W.plainGet K C Str.empty=true
 hd:W.hasDictIn K C=true
 po:W.plainOver K C=true
 sa:W.findIn K (.ref C) "__setattr__"=some (some (.builtin "object.__setattr__"))
theorem Cls.get {K:W.Frag} {C:Addr} (c:Cls K C) (f:Str):W.plainGet K C f=true:=c.pg
def NoAttr (K:W.Frag) (C:Addr) (f:Str):Prop:=W.findIn K (.ref C) f=some none
theorem NoAttr.taker {K:W.Frag} {C:Addr} {f:Str} (n:NoAttr K C f):W.takerIn K C f=some none:=by
 unfold W.takerIn
 rw [show W.findIn K (.ref C) f=some none from n]
 rfl
structure qU (K:W.Frag) (C:Addr) (m:Str) (f:Addr):Prop where
 at_:W.findIn K (.ref C) m=some (some (.ref f))
 fn:W.isFn K (.ref f)=true
 kp:W.keepIn K (.ref f)=true
section
variable {X:Cx} {pins:List (Addr × Obj)} {σ:St} {H:Hp} {s:Shared} {a C dx:Addr} {fs:List (Str × V)} {f:Str} {v:V} {A:Around} {E:Value→Shared→Prop}
theorem VB {b:Bool} {Q:Value→Shared→Prop} (I:Inv X pins σ H s) (e:H a=some (.ins C dx fs)) (c:Cls X.K C) (n:NoAttr X.K C f) (l:fs.lookup f=some v)
  (h:∀ u s',Inv X pins σ H s'→RelV v u→Q u s'):wpAny (model X.prog X.w) A (getAttr (.ref a) f b) Q E s:=by
 obtain ⟨mA,O,r,_,_,_⟩:=qu I.hok e
 obtain ⟨u,hu,ru⟩:=RelO.some_of (v:=v) (o:=mA f) (by rw [← l];exact r f)
 exact QX I.kIn O (c.get f) c.hd n hu (JR ru) (h u _ (I.tok _) ru)
theorem kU {m:Str} {g:Addr} {pl:Sem Bool} {Q:Value × List Value→Shared→Prop} (I:Inv X pins σ H s) (e:H a=some (.ins C dx fs)) (c:Cls X.K C) (k:qU X.K C m g) (l:fs.lookup m=none)
  (h:Q (.ref g,[.ref a]) s):wpAny (model X.prog X.w) A (getMethod (.ref a) m pl) Q E s:=by
 obtain ⟨mA,O,r,_,_,_⟩:=qu I.hok e
 have hn:mA m=none:=RelO.none_of (by rw [← l];exact r m)
 exact Kr I.kIn O (c.get m) k.at_ k.fn hn h
theorem Z6 {y:V} {u:Value} {Q:Unit→Shared→Prop} (I:Inv X pins σ H s) (e:H a=some (.ins C dx fs)) (c:Cls X.K C) (n:NoAttr X.K C f) (hl:fs.length < 1000) (ry:RelV y u)
  (h:∀ s',Inv X pins σ (upd H a (.ins C dx (ym f y fs))) s'→Q () s'):wpAny (model X.prog X.w) A (setAttr (.ref a) f u) Q E s:=by
 obtain ⟨mA,O,r,wi,_,ho⟩:=qu I.hok e
 have hz:(fs.map (·.1)).length≤sizeLine:=by rw [List.length_map,sizeLine_eq];lia
 refine QY I.kIn O c.sa c.po n.taker c.hd wi hz fun h' O' sb=>h _ ?_
 have hd:∃ o,h'.get? dx=some o:=let ⟨o,_,_,e',_⟩:=O'.ns;⟨o,e'⟩
 refine I.write (x:=a) (e:=dx) (by rw [e];exact True.intro) (.inr ho) (fun b q hb z=>(sb.2 b hb).trans z) hd ?_
 refine ⟨by rw [zk O.ne];exact ho,?_,O.ne,O'.obj,_,O'.ns,fun g=>?_,fun g hg=>?_⟩
 ·have:=Zq f y fs;lia
 ·show RelO ((ym f y fs).lookup g) (if g=f then some u else mA g)
  rw [Zo]
  by_cases q:g=f
  ·rw [if_pos q,if_pos q];exact ry
  ·rw [if_neg q,if_neg q];exact r g
 ·by_cases q:g=f
  ·rw [q];exact (qT f y fs).1
  ·refine (qT f y fs).2 g (wi g fun z=>hg ?_)
   show (if g=f then some u else mA g)=none
   rw [if_neg q];exact z
theorem Inv.made (I:Inv X pins σ H s):Inv X pins σ (upd (upd H s.heap.objs.size (.own (s.heap.objs.size + 1))) (s.heap.objs.size + 1) (.ins C s.heap.objs.size []))
  { s with heap:=(s.heap.push W.emptyDict).push (W.instObj C s.heap.objs.size) }:=by
 have e1:(s.heap.push W.emptyDict).get? s.heap.objs.size=some W.emptyDict:=Heap.get?_push_size s.heap rfl
 have e2:((s.heap.push W.emptyDict).push (W.instObj C s.heap.objs.size)).get? (s.heap.objs.size + 1)=some (W.instObj C s.heap.objs.size):=by
  have:=Heap.get?_push_size (s.heap.push W.emptyDict) (o:=W.instObj C s.heap.objs.size) rfl
  rwa [Heap.size_push] at this
 have e3:(s.heap.push W.emptyDict).Ns s.heap.objs.size (fun _=>none):=⟨W.emptyDict,#[],_,e1,rfl,(fun e he=>absurd he (by simp)),fun _=>rfl⟩
 have I1:=I.laid (a:=s.heap.objs.size) (o:=.own (s.heap.objs.size + 1)) (h':=s.heap.push W.emptyDict) (t':=s.toks) (fun b u q=>Heap.get?_push_of_some _ q) (Nat.le_refl _) ⟨_,e1⟩
 refine I1.laid (a:=s.heap.objs.size + 1) (o:=.ins C s.heap.objs.size []) (t':=s.toks) (fun b u q=>Heap.get?_push_of_some _ q) (Nat.le_of_eq (Heap.size_push _ _)) ?_
 have ne:s.heap.objs.size≠s.heap.objs.size + 1:=Nat.ne_of_lt (Nat.lt_succ_self _)
 refine ⟨by rw [zk ne,ze],Nat.zero_le _,ne,e2,fun _=>none,(Heap.Ns1.of_empty e3).at fun o q=>Heap.get?_push_of_some _ q,fun _=>True.intro,fun y hy=>absurd rfl hy⟩
theorem QZ {prog:Program} {w:World} {env:Env} {e:Expr} {f:Str} {pos:Pos} {s:Shared} {Q:Value→Shared→Prop} (hb:attributeBase e f env (eval e env)=eval e env)
  (h:wpAny (model prog w) A (eval e env) (fun o s₁=>wpAny (model prog w) A (getAttr o f true) Q E s₁) E s):wpAny (model prog w) A (eval (.Attribute e f pos) env) Q E s :=
 Attribute_any_ h (by rw [arm_eval_Attribute,hb])
end
def yF (K:W.Frag) (ta:TE) (f:Str):TE:=fun σ H Q=>ta σ H fun x H1=>∃ a C dx fs v,x=.ref a∧H1 a=some (.ins C dx fs)∧Cls K C∧NoAttr K C f∧fs.lookup f=some v∧Q v H1
def jD (K:W.Frag) (ta tv:TE) (f:Str):TS:=fun D σ H=>tv σ H fun y H1=>ta σ H1 fun x H2=>∃ a C dx fs,x=.ref a∧H2 a=some (.ins C dx fs)∧Cls K C∧NoAttr K C f∧fs.length < 1000 ∧
 D.nx σ (upd H2 a (.ins C dx (ym f y fs)))
def zb4 (K:W.Frag) (ta tv:TE) (rd:V→V→Hp→VK→Prop) (f:Str):TS:=fun D σ H=>ta σ H fun x H1=>∃ a C dx fs v,x=.ref a∧H1 a=some (.ins C dx fs)∧Cls K C∧NoAttr K C f∧fs.lookup f=some v ∧
 tv σ H1 fun y H2=>rd v y H2 fun z H3=>∃ dx' fs',H3 a=some (.ins C dx' fs')∧fs'.length < 1000∧D.nx σ (upd H3 a (.ins C dx' (ym f z fs')))
section
variable {X:Cx} {o e value:Expr} {f:Str} {pos pos' tpos:Pos} {ta tv:TE}
theorem yn (he:PE X e ta) (hb:attributeBase e f X.env (eval e X.env)=eval e X.env):PE X (.Attribute e f pos) (yF X.K ta f):=by
 intro pins s σ H Q I h
 refine QZ hb (thn (he pins s σ H _ I h) fun u s1 ⟨x,H1,I1,rx,a,C,dx,fs,v,ex,ea,c,n,l,q⟩=>?_)
 subst ex
 obtain rfl:u=Value.ref a:=rx
 exact VB I1 ea c n l fun u' s2 I2 ru=>⟨v,H1,I2,ru,q⟩
theorem vL (ha:PE X o ta) (hv:PE X value tv) (hs:swapsWith value (some (.Attribute o f pos')) pos.line X.env=pure false):PS X (.Assign [.Attribute o f pos'] value pos) (jD X.K ta tv f):=by
 intro pins s σ H D I h
 refine plainObj_wpAny_Assign_Attribute (thn (hv pins s σ H _ I h) fun u s1 ⟨y,H1,I1,ry,q⟩=>thn (ha pins s1 σ H1 _ I1 q) fun ov s2 ⟨x,H2,I2,rx,a,C,dx,fs,ex,ea,c,n,l,q2⟩=>?_) hs
 subst ex
 obtain rfl:ov=Value.ref a:=rx
 exact Z6 I2 ea c n l ry fun s3 I3=>⟨σ,_,I3,q2⟩
def zcW:V→V→Hp→VK→Prop:=fun x y H Q=>∃ i j,x=.int i∧y=.int j∧Q (.int (i + j)) H
end
section
variable {X:Cx} {pins:List (Addr × Obj)} {σ:St} {H:Hp} {s:Shared} {A:Around} {E:Value→Shared→Prop} {Q:Value→Shared→Prop} {c:Value} {b:Bool}
inductive qv (K:W.Frag) (H:Hp):V→Value→Prop where
 | non:qv K H .non (.type "NoneType")
 | bl (x:Bool):qv K H (.bl x) (.type "bool")
 | int (i:Int):qv K H (.int i) (.type "int")
 | str (x:Str):qv K H (.str x) (.type "str")
 | flt (x:UInt64):qv K H (.flt x) (.type "float")
 | lst {a:Addr} {xs:List V} (e:H a=some (.lst xs)):qv K H (.ref a) (.type "list")
 | frz {a:Addr} {o:Obj} {xs:List V} (e:H a=some (.frz o (.lst xs))):qv K H (.ref a) (.type "list")
 | tup {a:Addr} {xs:List V} (e:H a=some (.tup xs)):qv K H (.ref a) (.type "tuple")
 | dK {a:Addr} {kvs:List (Key × V)} (e:H a=some (.dK kvs)):qv K H (.ref a) (.type "dict")
 | dT {a:Addr} {kvs:List (List Key × V)} (e:H a=some (.dT kvs)):qv K H (.ref a) (.type "dict")
 | ins {a C dx:Addr} {fs:List (Str × V)} (e:H a=some (.ins C dx fs)) (cl:Cls K C) (ha:W.findIn K (.ref C) "__class__"=some (some (.builtin "object.__class__")))
   (hn:W.specialIn K (.builtin "object.__class__") "__get__"=some (some (.builtin "getset_descriptor.__get__"))) (htk:W.takesIn K (.builtin "object.__class__")=some true)
   (hm:W.mroIn K C (.type "object")=some true):qv K H (.ref a) (.ref C)
theorem JS {x:V} {u t:Value} (I:Inv X pins σ H s) (rx:RelV x u) (ty:qv X.K H x t) (e:W.kitOne X.K t c=some b) (h:∀ tk,Q (.bool b) { s with toks:=tk }) :
  wpAny (model X.prog X.w) A (call (.builtin "isinstance") [u,c]) Q E s:=by
 cases ty with
 | non=>cases (show u=Value.none from rx);exact W.kia_one W.kitx_none I.kIn True.intro e (fun z=>nomatch z) h
 | bl y=>cases (show u=Value.bool y from rx);exact W.kia_one W.kitx_bool I.kIn True.intro e (fun z=>nomatch z) h
 | int i=>obtain ⟨t,q⟩:=(show ∃ t,u=Value.int i t from rx);cases q;exact W.kia_one W.kitx_int I.kIn True.intro e (fun z=>nomatch z) h
 | str y=>obtain ⟨t,q⟩:=(show ∃ t,u=Value.str y t from rx);cases q;exact W.kia_one W.kitx_str I.kIn True.intro e (fun z=>nomatch z) h
 | flt y=>obtain ⟨t,q⟩:=(show ∃ t,u=Value.float y t from rx);cases q;exact W.kia_one W.kitx_float I.kIn True.intro e (fun z=>nomatch z) h
 | @lst a xs ea =>
  cases (show u=Value.ref a from rx)
  obtain ⟨_,_,n,_,h1⟩:=(show ObjOk X.prog X.w H s.heap a (.lst xs) from I.hok a _ ea)
  exact W.kia_one W.kitx_list I.kIn ⟨_,h1,rfl⟩ e (fun z=>nomatch z) h
 | @frz a ob xs ea =>
  cases (show u=Value.ref a from rx)
  obtain ⟨_,_,_,n,_,h1⟩:=(show ObjOk X.prog X.w H s.heap a (.frz ob (.lst xs)) from I.hok a _ ea)
  exact W.kia_one W.kitx_list I.kIn ⟨_,h1,rfl⟩ e (fun z=>nomatch z) h
 | @tup a xs ea =>
  cases (show u=Value.ref a from rx)
  obtain ⟨_,_,_,p⟩:=(show ObjOk X.prog X.w H s.heap a (.tup xs) from I.hok a _ ea)
  obtain ⟨o,h1,h2,_⟩:=p
  exact W.kia_one W.kitx_tuple I.kIn ⟨o,h1,h2⟩ e (fun z=>nomatch z) h
 | @dK a kvs ea =>
  cases (show u=Value.ref a from rx)
  obtain ⟨_,_,vs,_,p⟩:=(show ObjOk X.prog X.w H s.heap a (.dK kvs) from I.hok a _ ea)
  obtain ⟨o,es,ep,h1,h2,_⟩:=p
  exact W.kia_one W.kitx_dict I.kIn ⟨o,h1,h2.1⟩ e (fun z=>nomatch z) h
 | @dT a kvs ea =>
  cases (show u=Value.ref a from rx)
  obtain ⟨_,_,xs,_,o,es,ep,h1,h2,_⟩:=(show ObjOk X.prog X.w H s.heap a (.dT kvs) from I.hok a _ ea)
  exact W.kia_one W.kitx_dict I.kIn ⟨o,h1,h2.1⟩ e (fun z=>nomatch z) h
 | @ins a C dx fs ea cl ha hn htk hm =>
  cases (show u=Value.ref a from rx)
  obtain ⟨mA,O,_⟩:=qu I.hok ea
  obtain ⟨od,J,_⟩:=O.look
  exact W.kia_one (W.kitx_own (cl.get _) cl.hd ha hn htk hm) I.kIn J e (fun z=>nomatch z) h
end
end L2
namespace L2
open PySem PySem.Spec PyProof.Rows
structure Room (k:Nat) (A:Around):Prop where
 hd:A.handled=none
 dp:A.depth + 3 * k + 5 < recursionLimit
 un:A.units + 16 * k + 200 < cLine
theorem Room.mono {j k:Nat} {A:Around} (r:Room k A) (h:j≤k):Room j A:=⟨r.hd,by have:=r.dp;lia,by have:=r.un;lia⟩
theorem Room.deeper {k:Nat} {A:Around} (r:Room (k + 1) A) (env:Env):Room k (A.deeper env) :=
 ⟨r.hd,by have:=r.dp;show A.depth + 1 + 3 * k + 5 < _;lia,by have:=r.un;show A.units + 3 + 16 * k + 200 < _;lia⟩
theorem VC {A:Around} {C:Addr} {us:List Value} {kw:List (Str × Value)}:(A.under (.builtin "type.__call__" ⟨.ref C :: us,kw⟩)).depth=A.depth + 1:=by
 first | rfl | simp [Around.under,Code.weight,Code.isCreation,Code.isGuard,Code.isCaller,Code.frames,Code.isFrame,guardIds]
theorem VD {A:Around} {C:Addr} {us:List Value} {kw:List (Str × Value)}:(A.under (.builtin "type.__call__" ⟨.ref C :: us,kw⟩)).units=A.units + 1:=by
 first | rfl | simp [Around.under,Code.cUnits,Code.frames,Code.isFrame]
theorem Room.make {k:Nat} {A:Around} (r:Room (k + 1) A) (C:Addr) (us:List Value) (kw:List (Str × Value)):Room k (A.under (.builtin "type.__call__" ⟨.ref C :: us,kw⟩)) :=
 ⟨r.hd,by have:=r.dp;rw [VC];lia,by have:=r.un;rw [VD];lia⟩
theorem Room.depth {k:Nat} {A:Around} (r:Room k A):A.depth < recursionLimit:=by have:=r.dp;lia
theorem Room.units {k:Nat} {A:Around} (r:Room k A):A.units + 64 < cLine:=by have:=r.un;lia
def zi:TA:=fun _ H Q=>Q [] H
def zb (ta:TE) (tr:TA):TA:=fun σ H Q=>ta σ H fun x H1=>tr σ H1 fun xs H2=>Q (x :: xs) H2
section
variable {X:Cx} {e:Expr} {es:List Expr} {te:TE} {t:TA} {pos:Pos}
theorem zf:PA X [] zi:=fun _ _ _ _ H Q I h=>Calls.spliced_nil ⟨[],H,I,.nil,h⟩
theorem za (ha:PE X e te) (hr:PA X es t) (hs:starEach (e :: es) X.env=(false,eval e X.env) :: starEach es X.env:=by rfl):PA X (e :: es) (zb te t):=by
 intro pos pins s σ H Q I h
 rw [hs]
 show wpAny _ _ (spliced ((false,eval e X.env) :: backTo pos (starEach es X.env))) _ _ s
 refine Calls.spliced_cons (thn (ha pins s σ H _ I h) fun u s1 ⟨x,H1,I1,r1,q1⟩=>?_)
 exact thn (hr pos pins s1 σ H1 _ I1 q1) fun us s2 ⟨xs,H2,I2,r2,q2⟩=>⟨x :: xs,H2,I2,.cons r1 r2,q2⟩
def yb (t:TA):TE:=fun σ H Q=>t σ H fun xs H1=>xs.length≤sizeLine∧∀ p,H1 p=none→Q (.ref p) (upd H1 p (.tup xs))
def yB (t:TA):TE:=fun σ H Q=>t σ H fun xs H1=>xs.length≤sizeLine∧∀ p,H1 p=none→Q (.ref p) (upd H1 p (.lst xs))
theorem zW {x1} (h:PA X es t):PE X (.Tuple es x1 pos) (yb t):=by
 intro pins s σ H Q I hq
 refine wpAny_Tuple_spliced (thn (h pos pins s σ H _ I hq) fun us s1 ⟨xs,H1,I1,r,z,q⟩=>⟨by rw [← r.length];exact z,?_⟩)
 have hf:H1 s1.heap.objs.size=none:=I1.hok.fresh (Nat.le_refl _)
 refine ⟨.ref s1.heap.objs.size,upd H1 s1.heap.objs.size (.tup xs),I1.laid (t':=s1.toks) (fun b u e=>Heap.get?_push_of_some _ e) (Nat.le_refl _) ?_,rfl,q _ hf⟩
 exact ⟨z,us,r,⟨_,Heap.get?_push_size _ rfl,rfl,_,rfl⟩⟩
theorem yG (h:PA X es t):PE X (.List es pos) (yB t):=by
 intro pins s σ H Q I hq
 refine wpAny_List_spliced (thn (h pos pins s σ H _ I hq) fun us s1 ⟨xs,H1,I1,r,z,q⟩=>⟨by rw [← r.length];exact z,?_⟩)
 have hf:H1 s1.heap.objs.size=none:=I1.hok.fresh (Nat.le_refl _)
 refine ⟨.ref s1.heap.objs.size,upd H1 s1.heap.objs.size (.lst xs),I1.laid (t':=s1.toks) (fun b u e=>Heap.get?_push_of_some _ e) (Nat.le_refl _) ?_,rfl,q _ hf⟩
 exact ⟨z,us,0,r,Heap.get?_push_size _ rfl⟩
end
abbrev Sp:=List V→Hp→VK→XK→Prop
abbrev CXT:=List Env→Hp→Shared→XK→Value→Shared→Prop
structure Env0 (P:Program) (w:World) (K:W.Frag) (mg:Str→Option Value) (base:Heap) (A:Around) (outer:List Env) (s:Shared) (H:Hp):Prop where
 frames:A.frames=some outer
 mod:Mod K mg base
 bs:∀ b o,base.get? b=some o→s.heap.get? b=some o∧H b=none
 bsz:base.objs.size≤s.heap.objs.size
 funs:s.heap.FunFrames base outer
 frf:∀ b∈frs outer,H b=none
 hok:HOk P w H s.heap
 bare:AllBare s.gens
def CE (outer:List Env) (P:Program) (w:World) (H:Hp) (s:Shared) (Q:VK) (u:Value) (s':Shared):Prop :=
 ∃ v H',s'.os=s.os∧AllBare s'.gens∧Un (frs outer) [] H H' s.heap s'.heap∧HOk P w H' s'.heap∧RelV v u∧Q v H'
def CR (CX:CXT) (outer:List Env) (P:Program) (w:World) (H:Hp) (s:Shared) (Q:VK) (E:XK) (r:Result) (s':Shared):Prop :=
 match r with
 | .ok (.ret u)=>CE outer P w H s Q u s'
 | .ok _=>False
 | .error e=>CX outer H s E e s'
structure FnOk (P:Program) (w:World) (K:W.Frag) (mg:Str→Option Value) (base:Heap) (CX:CXT) (k:Nat) (f:Addr) (fd:FuncData) (ps:List Str) (sp:Sp):Prop where
 len:∀ vs H Q E,sp vs H Q E→vs.length=ps.length
 run:∀ (A:Around) (outer:List Env) (s:Shared) (H:Hp) (args:Args) (us:List Value) (vs:List V) (Q:VK) (E:XK),Room k A→Env0 P w K mg base A outer s H→BindsTo s fd args (ps.zip us)→Vals vs us→sp vs H Q E →
  codeAny (model P w) A (.call (.ref f) args) (CR CX outer P w H s Q E) s
theorem FnOk.mono {P:Program} {w:World} {K:W.Frag} {mg:Str→Option Value} {base:Heap} {CX:CXT} {j k:Nat} {f:Addr} {fd:FuncData} {ps:List Str} {sp:Sp} (F:FnOk P w K mg base CX j f fd ps sp) (h:j≤k) :
  FnOk P w K mg base CX k f fd ps sp:=⟨F.len,fun A outer s H args us vs Q E hr=>F.run A outer s H args us vs Q E (hr.mono h)⟩
theorem Env0.make {P:Program} {w:World} {K:W.Frag} {mg:Str→Option Value} {base:Heap} {A:Around} {outer:List Env} {s:Shared} {H:Hp} (e:Env0 P w K mg base A outer s H) (C:Addr) (us:List Value) (kw:List (Str × Value)) :
  Env0 P w K mg base (A.under (.builtin "type.__call__" ⟨.ref C :: us,kw⟩)) outer s H:=⟨by first | exact e.frames | (simpa [Around.under,Code.envs,Code.isFrame,pushEnvs] using e.frames),e.mod,e.bs,e.bsz,e.funs,e.frf,e.hok,e.bare⟩
section
variable {X:Cx} {pins:List (Addr × Obj)} {σ:St} {H:Hp} {s s':Shared}
theorem Inv.env0 (I:Inv X pins σ H s):Env0 X.prog X.w X.K X.mg X.base X.A X.stack s H :=
 ⟨I.ok.frames,I.ok.mod,I.bs,Nat.le_trans I.ok.bsz I.sz,I.stack,I.stkFree,I.hok,I.bare⟩
theorem Inv.after {Q:VK} {u:Value} (I:Inv X pins σ H s) (h:CE X.stack X.prog X.w H s Q u s'):EP X pins σ Q u s':=by
 obtain ⟨v,H',os,bare,un,hok,r,q⟩:=h
 obtain ⟨hh,g,d,t,os'⟩:=s'
 obtain rfl:os'=s.os:=os
 exact ⟨v,H',I.call (h':=hh) (g':=g) (d':=d) (t':=t) (ch:=[]) un hok bare (fun b z=>absurd z (by simp)),r,q⟩
end
def zp (sp:Sp) (dvs:List V) (E:XK) (t:TA):TE:=fun σ H Q=>t σ H fun vs H1=>sp (vs ++ dvs) H1 Q E
def yg (C:Addr) (m:Str) (sp:Sp) (dvs:List V) (E:XK) (ta:TE) (t:TA):TE:=fun σ H Q=>ta σ H fun x H1=>∃ a dx fs,x=.ref a∧H1 a=some (.ins C dx fs)∧fs.lookup m=none ∧
 t σ H1 fun vs H2=>sp (x :: (vs ++ dvs)) H2 Q E
def Kt (C:Addr) (sp:Sp) (dvs:List V) (E:XK) (t:TA):TE:=fun σ H Q=>t σ H fun vs H1=>∀ x dx,H1 x=none→H1 dx=none→dx≠x →
 sp (.ref x :: (vs ++ dvs)) (upd (upd H1 dx (.own x)) x (.ins C dx [])) (fun v H2=>v=.non∧Q (.ref x) H2) E
def Binds (K:W.Frag) (fd:FuncData) (ps:List Str) (ds:List Value):Prop :=
 ∀ (s:Shared) (us:List Value),K.In s.heap→(us ++ ds).length=ps.length→BindsTo s fd ⟨us,[]⟩ (ps.zip (us ++ ds))
theorem Binds.all {K:W.Frag} {fd:FuncData} {ps:List Str} (h:∀ us:List Value,us.length=ps.length→bindArgs fd ⟨us,[]⟩=pure (ps.zip us)):Binds K fd ps []:=fun s us _ hl=>by
 rw [List.append_nil] at hl ⊢
 exact .of_eq (h us hl)
def jJ (CX:CXT) (X:Cx) (E:XK):Prop:=∀ (pins:List (Addr × Obj)) (σ:St) (H:Hp) (s:Shared) (e:Value) (s':Shared),Inv X pins σ H s→CX X.stack H s E e s'→X.xe e s'
section
variable {X:Cx} {CX:CXT} {k:Nat} {f C:Addr} {fd:FuncData} {ps:List Str} {sp:Sp} {dvs:List V} {ds:List Value} {E:XK} {x m:Str} {p pos apos:Pos} {e o:Expr} {es:List Expr} {ta:TE} {t:TA}
theorem VE {pins:List (Addr × Obj)} {σ:St} {H:Hp} {s:Shared} {Q:VK} {us:List Value} {vs:List V} (F:FnOk X.prog X.w X.K X.mg X.base CX k f fd ps sp) (hr:Room k X.A) (hb:Binds X.K fd ps ds) (hd:Vals dvs ds) (hx:jJ CX X E)
  (I:Inv X pins σ H s) (r:Vals vs us) (h:sp (vs ++ dvs) H Q E):wpAny (model X.prog X.w) X.A (call (.ref f) us) (EP X pins σ Q) X.xe s:=by
 have r2:Vals (vs ++ dvs) (us ++ ds):=r.append hd
 have hl:(us ++ ds).length=ps.length:=by rw [← r2.length];exact F.len _ _ _ _ h
 refine wpAny_call (codeAny_mono (F.run X.A X.stack s H ⟨us,[]⟩ (us ++ ds) (vs ++ dvs) Q E hr I.env0 (hb s us I.kIn hl) r2 h) fun r s' hq=>?_)
 cases r with
 | error e=>exact hx pins σ H s e s' I hq
 | ok fl =>
  cases fl with
  | ret u=>exact I.after hq
  | next=>exact False.elim hq
  | brk=>exact False.elim hq
  | cont=>exact False.elim hq
theorem zt (F:FnOk X.prog X.w X.K X.mg X.base CX k f fd ps sp) (hr:Room k X.A) (hg:Gl X x) (hm:X.mg x=some (.ref f)) (hk:W.keepIn X.K (.ref f)=true) (hb:Binds X.K fd ps ds) (hd:Vals dvs ds) (hx:jJ CX X E)
  (ha:PA X (e :: es) t) (hdb:(x == ("__debug__":Str))=false:=by decide) (he:starEach (e :: es) X.env=(false,eval e X.env) :: starEach es X.env:=by rfl) (hpl:(backTo pos (starEach es X.env)).any (·.1)=false:=by rfl) :
  PE X (.Call (.Name x p) (e :: es) [] pos) (zp sp dvs E t):=by
 intro pins s σ H Q I h
 refine wpAny_Call_Name_kw (vF I hg hm ?_ hdb)
 refine W.callWith_K (h₀:=X.base) I.ok.mod.kin hk (thn (ha pos pins s σ H _ I h) fun us s1 ⟨vs,H1,I1,r,q⟩=>⟨I1.kIn,?_⟩) he hpl
 exact VE F hr hb hd hx I1 r q
theorem xT {pl:Sem Bool} (he:PE X o ta) (c:Cls X.K C) (hm:qU X.K C m f) (F:FnOk X.prog X.w X.K X.mg X.base CX k f fd ps sp) (hr:Room k X.A) (hb:Binds X.K fd ps ds) (hd:Vals dvs ds) (hx:jJ CX X E) (ha:PA X (e :: es) t)
  (hst:starEach (e :: es) X.env=(false,eval e X.env) :: starEach es X.env:=by rfl) (hpl:(backTo pos (starEach es X.env)).any (·.1)=false:=by rfl)
  (ht:eval (.Call (.Attribute o m apos) (e :: es) [] pos) X.env=(do
   let ov ← eval o X.env
   standAt apos.atName
   let (f,first) ← holding [ov] (getMethod ov m pl)
   callWith pos f first (backTo pos (starEach (e :: es) X.env)) (backToKw pos (keywordEach [] X.env))):=by rfl) :
  PE X (.Call (.Attribute o m apos) (e :: es) [] pos) (yg C m sp dvs E ta t):=by
 intro pins s σ H Q I h
 refine W.methodCall_KW (pl:=pl) (thn (he pins s σ H _ I h) fun u s1 ⟨x,H1,I1,rx,a,dx,fs,ex,ea,l,q⟩=>?_) ht
 subst ex
 obtain rfl:u=Value.ref a:=rx
 refine kU I1 ea c hm l ?_
 refine W.callWith_K (first:=[.ref a]) (h₀:=X.base) I.ok.mod.kin hm.kp (thn (ha pos pins s1 σ H1 _ I1 q) fun us s2 ⟨vs,H2,I2,r,q2⟩=>⟨I2.kIn,?_⟩) hst hpl
 exact VE (us:=.ref a :: us) (vs:=.ref a :: vs) F hr hb hd hx I2 (.cons rfl r) q2
theorem xU {pl:Sem Bool} (he:PE X o ta) (c:Cls X.K C) (hm:qU X.K C m f) (F:FnOk X.prog X.w X.K X.mg X.base CX k f fd ps sp) (hr:Room k X.A) (hb:Binds X.K fd ps ds) (hd:Vals dvs ds) (hx:jJ CX X E)
  (ht:eval (.Call (.Attribute o m apos) [] [] pos) X.env=(do
   let ov ← eval o X.env
   standAt apos.atName
   let (f,first) ← holding [ov] (getMethod ov m pl)
   callWith pos f first (backTo pos (starEach [] X.env)) (backToKw pos (keywordEach [] X.env))):=by rfl) :
  PE X (.Call (.Attribute o m apos) [] [] pos) (yg C m sp dvs E ta zi):=by
 intro pins s σ H Q I h
 refine W.methodCall_KW (pl:=pl) (thn (he pins s σ H _ I h) fun u s1 ⟨x,H1,I1,rx,a,dx,fs,ex,ea,l,q⟩=>?_) ht
 subst ex
 obtain rfl:u=Value.ref a:=rx
 refine kU I1 ea c hm l ?_
 exact W.callWith_K0 (first:=[.ref a]) I1.kIn hm.kp (VE (us:=[.ref a]) (vs:=[.ref a]) F hr hb hd hx I1 (.cons rfl .nil) q)
structure Mk (K:W.Frag) (C f:Addr):Prop where
 makes:W.makesIn K C=true
 init:W.findIn K (.ref C) "__init__"=some (some (.ref f))
 fn:W.isFn K (.ref f)=true
 kp:W.keepIn K (.ref C)=true
theorem Ku {pins:List (Addr × Obj)} {σ:St} {H:Hp} {s:Shared} {Q:VK} {us:List Value} {vs:List V} (M:Mk X.K C f) (F:FnOk X.prog X.w X.K X.mg X.base CX k f fd ps sp) (hr:Room (k + 1) X.A) (hb:Binds X.K fd ps ds) (hd:Vals dvs ds)
  (hx:jJ CX X E) (I:Inv X pins σ H s) (r:Vals vs us)
  (h:∀ x dx,H x=none→H dx=none→dx≠x→sp (.ref x :: (vs ++ dvs)) (upd (upd H dx (.own x)) x (.ins C dx [])) (fun v H2=>v=.non∧Q (.ref x) H2) E) :
  wpAny (model X.prog X.w) X.A (call (.ref C) us) (EP X pins σ Q) X.xe s:=by
 have hq:=h (s.heap.objs.size + 1) s.heap.objs.size (I.hok.fresh (Nat.le_succ _)) (I.hok.fresh (Nat.le_refl _)) (Nat.ne_of_lt (Nat.lt_succ_self _))
 have I2:=Inv.made (C:=C) I
 have r2:Vals (V.ref (s.heap.objs.size + 1) :: (vs ++ dvs)) (Value.ref (s.heap.objs.size + 1) :: (us ++ ds)):=.cons rfl (r.append hd)
 have hl:(Value.ref (s.heap.objs.size + 1) :: us ++ ds).length=ps.length:=by
  have e:=r2.length
  rw [F.len _ _ _ _ hq] at e
  exact e.symm
 refine wpAny_call (Ks (f:=f) I.kIn M.makes M.init (beq_iff_eq.mp M.fn) (codeAny_mono (F.run _ X.stack _ _ ⟨Value.ref (s.heap.objs.size + 1) :: us,[]⟩ (Value.ref (s.heap.objs.size + 1) :: (us ++ ds)) _ _ E (hr.make C us [])
  (I2.env0.make C us []) (hb _ (Value.ref (s.heap.objs.size + 1) :: us) I2.kIn hl) r2 hq) fun r s' hq'=>?_))
 cases r with
 | error e=>exact hx pins σ _ _ e s' I2 hq'
 | ok fl =>
  cases fl with
  | ret u =>
   obtain ⟨v,H',I3,rv,ev,q3⟩:=I2.after hq'
   subst ev
   exact ⟨rv,⟨V.ref (s.heap.objs.size + 1),H',I3,rfl,q3⟩⟩
  | next=>exact False.elim hq'
  | brk=>exact False.elim hq'
  | cont=>exact False.elim hq'
theorem Q0 (M:Mk X.K C f) (F:FnOk X.prog X.w X.K X.mg X.base CX k f fd ps sp) (hr:Room (k + 1) X.A) (hg:Gl X x) (hm:X.mg x=some (.ref C)) (hb:Binds X.K fd ps ds) (hd:Vals dvs ds) (hx:jJ CX X E)
  (ha:PA X (e :: es) t) (hdb:(x == ("__debug__":Str))=false:=by decide) (he:starEach (e :: es) X.env=(false,eval e X.env) :: starEach es X.env:=by rfl) (hpl:(backTo pos (starEach es X.env)).any (·.1)=false:=by rfl) :
  PE X (.Call (.Name x p) (e :: es) [] pos) (Kt C sp dvs E t):=by
 intro pins s σ H Q I h
 refine wpAny_Call_Name_kw (vF I hg hm ?_ hdb)
 refine W.callWith_K (h₀:=X.base) I.ok.mod.kin M.kp (thn (ha pos pins s σ H _ I h) fun us s1 ⟨vs,H1,I1,r,q⟩=>⟨I1.kIn,?_⟩) he hpl
 exact Ku M F hr hb hd hx I1 r q
end
section
variable {X:Cx} {CX:CXT} {k:Nat} {f C:Addr} {fd:FuncData} {ps ks:List Str} {sp:Sp} {E:XK} {x m:Str} {p pos apos kpos:Pos} {e o:Expr} {es:List Expr} {kws:List Keyword} {te ta:TE} {t tk:TA} {nm:Option Str}
variable {g:List Value→List Value→List Value} {gV:List V→List V→List V}
end
structure zO (N P:List Str) (sc:Scope):Prop where
 kind:sc.kind=.function
 co:sc.isCoroutine=false
 gen:sc.isGenerator=false
 nd:N.Nodup
 pre:N.take P.length=P
 par:∀ x∈P,sc.names.lookup x=some .local∨sc.names.lookup x=some .cell
 nofree:∀ y∈sc.names,y.2≠.free
theorem Y9 {kindOf:Str→Option NameKind} {x:Str}:∀ {binds:List (Str × Value)} {m:Str→Option Value},(∀ v,(x,v) ∉ binds)→bindL kindOf binds m x=m x
 | [],_,_=>rfl
 | (n,v) :: r,m,h=>by
  unfold bindL
  rw [Y9 fun w hw=>h w (List.mem_cons_of_mem _ hw)]
  split
  ·have:x≠n:=by rintro rfl;exact h v List.mem_cons_self
   simp [this]
  ·rfl
theorem Xa {kindOf:Str→Option NameKind} {x:Str}:∀ {binds:List (Str × Value)} {m:Str→Option Value},(∀ v,(x,v) ∉ binds)→bindC kindOf binds m x=m x
 | [],_,_=>rfl
 | (n,v) :: r,m,h=>by
  unfold bindC
  rw [Xa fun w hw=>h w (List.mem_cons_of_mem _ hw)]
  split
  ·rfl
  ·have:x≠n:=by rintro rfl;exact h v List.mem_cons_self
   simp [this]
theorem Xb {kindOf:Str→Option NameKind} {x:Str} {v:Value}:∀ {P:List Str} {vs:List Value} {i:Nat} {m:Str→Option Value},P.Nodup→P[i]?=some x→vs[i]?=some v→kindOf x=some .local →
  bindL kindOf (P.zip vs) m x=some v
 | [],_,_,_,_,h,_,_=>by simp at h
 | _ :: _,[],_,_,_,_,h,_=>by simp at h
 | p :: P,w :: vs,0,m,nd,h1,h2,hk=>by
  simp at h1 h2;subst h1;subst h2
  show bindL kindOf ((p,w) :: P.zip vs) m p=_
  unfold bindL
  rw [Y9 fun v hv=>(List.nodup_cons.mp nd).1 (List.of_mem_zip hv).1,if_pos hk]
  simp
 | p :: P,w :: vs,i + 1,m,nd,h1,h2,hk=>by
  show bindL kindOf ((p,w) :: P.zip vs) m x=_
  unfold bindL
  exact Xb (i:=i) (List.nodup_cons.mp nd).2 (by simpa using h1) (by simpa using h2) hk
theorem Xc {kindOf:Str→Option NameKind} {x:Str} {v:Value}:∀ {P:List Str} {vs:List Value} {i:Nat} {m:Str→Option Value},P.Nodup→P[i]?=some x→vs[i]?=some v→kindOf x≠some .local →
  bindC kindOf (P.zip vs) m x=some v
 | [],_,_,_,_,h,_,_=>by simp at h
 | _ :: _,[],_,_,_,_,h,_=>by simp at h
 | p :: P,w :: vs,0,m,nd,h1,h2,hk=>by
  simp at h1 h2;subst h1;subst h2
  show bindC kindOf ((p,w) :: P.zip vs) m p=_
  unfold bindC
  rw [Xa fun v hv=>(List.nodup_cons.mp nd).1 (List.of_mem_zip hv).1,if_neg hk]
  simp
 | p :: P,w :: vs,i + 1,m,nd,h1,h2,hk=>by
  show bindC kindOf ((p,w) :: P.zip vs) m x=_
  unfold bindC
  exact Xc (i:=i) (List.nodup_cons.mp nd).2 (by simpa using h1) (by simpa using h2) hk
def start (N:List Str) (vs:List V):St:=vs.map some ++ List.replicate (N.length - vs.length) none
def kB (CX:CXT) (P:Program) (w:World) (K:W.Frag) (mg:Str→Option Value) (base:Heap) (N:List Str) (qual:Str) (scope:Scope) (f:Addr) (cd:Value) (A:Around) (outer:List Env) (s:Shared) (H:Hp) (E:XK):Cx where
 prog:=P
 w:=w
 K:=K
 mg:=mg
 base:=base
 A:=A.deeper (envOfC qual scope s.heap.objs.size f cd)
 N:=N
 s₀:=s
 H₀:=H
 env:=envOfC qual scope s.heap.objs.size f cd
 outer:=outer
 stack:=envOfC qual scope s.heap.objs.size f cd :: outer
 ex:=[]
 calm:=true
 fn:=fun _=>true
 pn:=[]
 xe:=fun e s'=>wpAny (model P w) (A.deeper (envOfC qual scope s.heap.objs.size f cd)) (leaving (envOfC qual scope s.heap.objs.size f cd) e) (fun _ s''=>CX outer H s E e s'') (fun e' s''=>CX outer H s E e' s'') s'
theorem Wt {sc:Scope} {n:Nat} {x:Str} (h:sc.names.lookup x=some .cell):∃ c,(cellsFrom n sc.names []).lookup x=some c:=by
 have q:=W.cellsFrom_some sc.names n [] (.inl h)
 exact Option.isSome_iff_exists.mp q
theorem JT {CX:CXT} {P:Program} {w:World} {K:W.Frag} {mg:Str→Option Value} {base:Heap} {N ps:List Str} {qual:Str} {scope:Scope} {f:Addr} {cd:Value} {A:Around} {outer:List Env} {s s1:Shared} {H:Hp} {E:XK} {us:List Value} {vs:List V}
  (S:zO N ps scope) (hd:A.handled=none) (e0:Env0 P w K mg base A outer s H) (hl:vs.length=ps.length) (r:Vals vs us)
  (x:InCallC s s.heap.objs.size (bindL (envOfC qual scope s.heap.objs.size f cd).kindOf (ps.zip us) fun _=>none) (cellsFrom (s.heap.objs.size + 1) scope.names []) (bindC (envOfC qual scope s.heap.objs.size f cd).kindOf (ps.zip us) fun _=>none) s1) :
  Inv (kB CX P w K mg base N qual scope f cd A outer s H E) [] (start N vs) H s1:=by
 have hpl:ps.length≤N.length:=by have:=congrArg List.length S.pre;rw [List.length_take] at this;lia
 obtain ⟨h1,tk,rfl,hk⟩:=x.done
 have noA:∀ b:Addr,b ∉ (kB CX P w K mg base N qual scope f cd A outer s H E).ex:=fun b z=>absurd (show b∈([]:List Addr) from z) (by simp)
 refine ⟨⟨e0.mod,S.kind,rfl,rfl,Nat.le_refl _,fun y z c h1 h2=>?_,fun y hy=>?_,fun y c _ h=>?_,fun _=>hd,Around.frames_deeper e0.frames,.inr ⟨rfl,rfl⟩,fun b z=>absurd z (noA b),e0.bs,e0.bsz,fun b _ _=>noA b,fun b z=>absurd z (noA b),e0.funs,e0.frf⟩,
  rfl,e0.bare,Un.kept hk,⟨_,x.toInCall.ns,fun i y v h1 h2 h3=>?_⟩,fun y c h=>⟨_,x.cell y c h⟩,e0.hok.fresh (Nat.le_refl _),fun y c h=>?_,fun p hp=>absurd (show p∈([]:List (Addr × Obj)) from hp) (by simp),e0.hok.kept hk,?_⟩
 ·exact name_of_addr x.apart (PySem.mem_of_lookup h1) (PySem.mem_of_lookup h2)
 ·have hy:scope.names.lookup y=some .cell∨scope.names.lookup y=some .free:=hy
  rcases hy with hy | hy
  ·exact Wt hy
  ·exact absurd rfl (S.nofree _ (PySem.mem_of_lookup hy))
 ·exact Nat.le_of_lt (x.above y c (PySem.mem_of_lookup h))
 ·have hi:i < vs.length:=by
   unfold start at h2
   by_cases hi:i < vs.length
   ·exact hi
   ·rw [List.getElem?_append_right (by simpa using hi)] at h2
    rw [List.getElem?_replicate] at h2
    split at h2 <;> cases h2
  have ha:vs[i]?=some v:=by
   unfold start at h2
   rw [List.getElem?_append_left (by simpa using hi),List.getElem?_map] at h2
   cases e:vs[i]? with
   | none=>rw [e] at h2;cases h2
   | some a=>rw [e] at h2;cases h2;rfl
  obtain ⟨u,hu,rv⟩:=r.get ha
  have hp:ps[i]?=some y:=by
   rw [← S.pre,List.getElem?_take_of_lt (by lia)];exact h1
  have ndP:ps.Nodup:=by rw [← S.pre];exact S.nd.sublist (List.take_sublist _ _)
  refine ⟨u,rv,?_⟩
  rcases S.par y (List.mem_of_getElem? hp) with k | k
  ·exact .inl ⟨k,Xb ndP hp hu k⟩
  ·obtain ⟨c,e⟩:=Wt (n:=s.heap.objs.size + 1) k
   refine .inr ⟨.inl k,c,e,?_⟩
   have q:=x.cell y c e
   rw [Xc ndP hp hu (by show scope.names.lookup y≠_;rw [k];decide)] at q
   exact q
 ·exact e0.hok.fresh (Nat.le_of_lt (x.above y c (PySem.mem_of_lookup h)))
 ·unfold start
  show _=N.length
  rw [List.length_append,List.length_map,List.length_replicate]
  lia
theorem zaT {CX:CXT} {P:Program} {w:World} {K:W.Frag} {mg:Str→Option Value} {base:Heap} {k:Nat} {f:Addr} {name qual:Str} {params:Arguments} {body:List Stmt} {scope:Scope} {dV kV doc pm cdv ct oc:Value} {an od:Option Addr}
  {osl:Array (Option Value)} {N ps:List Str} {sp:Sp} (lk:K.lookup f=some ⟨oc,od,.func (W.fnOf name qual params body scope dV kV doc pm an cdv ct),osl⟩) (hcd:W.codeIn K cdv qual=true) (S:zO N ps scope)
  (len:∀ vs H Q E,sp vs H Q E→vs.length=ps.length)
  (hbody:∀ (A:Around) (outer:List Env) (s:Shared) (H:Hp) (vs:List V) (Q:VK) (E:XK),Room k (A.deeper (envOfC qual scope s.heap.objs.size f cdv))→sp vs H Q E →
   ∃ t,PSs (kB CX P w K mg base N qual scope f cdv A outer s H E) body t∧t { nx:=fun _ H'=>Q .non H',rt:=Q } (start N vs) H) :
  FnOk P w K mg base CX (k + 1) f (W.fnOf name qual params body scope dV kV doc pm an cdv ct) ps sp:=by
 refine ⟨len,fun A outer s H args us vs Q E hr e0 hb r hsp=>?_⟩
 have hl:=len _ _ _ _ hsp
 have KX:K.In s.heap:=e0.mod.kin.keeps fun b o e=>(e0.bs b o e).1
 have lim:s.heap.NoLimit:=e0.mod.nolimit.keeps fun b o e=>(e0.bs b o e).1
 have hkind:∀ y∈ps.zip us,scope.names.lookup y.1=some .local∨(scope.names.lookup y.1=some .cell∧((cellsFrom (s.heap.objs.size + 1) scope.names []).lookup y.1).isSome=true):=fun ⟨n,v⟩ hy=>by
  rcases S.par n (List.of_mem_zip hy).1 with q | q
  ·exact .inl q
  ·exact .inr ⟨q,W.cellsFrom_some _ _ _ (.inl q)⟩
 refine codeAny_call_function hr.depth (KX _ _ lk) rfl S.co S.gen rfl (W.codeRec_of KX hcd) (hb _ _ _ _ ?_)
 refine wpAny_newFunctionEnv_cells S.kind hkind fun env he s1 x=>?_
 subst he
 refine ⟨lim.keeps x.toInCall.keep,codeAny_func ?_⟩
 obtain ⟨t,ht,hq⟩:=hbody A outer s H vs Q E (hr.deeper _) hsp
 have I:Inv (kB CX P w K mg base N qual scope f cdv A outer s H E) [] (start N vs) H s1:=JT S hr.hd e0 hl r x
 refine wpAny_mono (ht [] s1 (start N vs) H _ I hq) (fun fl s' hs=>?_) fun e s' hs=>hs
 have fin:∀ {σ':St} {H':Hp} {v:V} {u:Value},Inv (kB CX P w K mg base N qual scope f cdv A outer s H E) [] σ' H' s'→RelV v u→Q v H'→CE outer P w H s Q u s' :=
  fun {σ' H' v u} J rv q=>⟨v,H',J.os,J.bare,J.base,J.hok,rv,q⟩
 cases fl with
 | ret u =>
  obtain ⟨v,σ',H',J,rv,q⟩:=hs
  exact fin J rv q
 | next =>
  obtain ⟨σ',H',J,q⟩:=hs
  exact fin (v:=V.non) (u:=Value.none) J rfl q
 | brk =>
  obtain ⟨_,_,_,q⟩:=hs
  exact False.elim q
 | cont =>
  obtain ⟨_,_,_,q⟩:=hs
  exact False.elim q
end L2
namespace L2
open PySem PySem.Spec PyProof.Rows
section
variable {X:Cx} {x:Str} {p pos:Pos} {e:Expr} {es:List Expr} {t:TA} {id T:String} {r:List V→Hp→VK→Prop}
def tCB (r:List V→Hp→VK→Prop) (t:TA):TE:=fun σ H Q=>t σ H fun vs H1=>r vs H1 Q
theorem zV (hc:kH X (.builtin id) r) (hg:Gl X x) (hm:X.mg x=none) (hv:bootBuiltins x=some (.builtin id)) (ha:PA X (e :: es) t) (hn:x≠"__name__":=by decide) (hdb:(x == ("__debug__":Str))=false:=by decide)
  (he:starEach (e :: es) X.env=(false,eval e X.env) :: starEach es X.env:=by rfl) (hpl:(backTo pos (starEach es X.env)).any (·.1)=false:=by rfl):PE X (.Call (.Name x p) (e :: es) [] pos) (tCB r t):=by
 intro pins s σ H Q I h
 refine wpAny_Call_Name_kw (ZZ I hg hm hv ?_ hn hdb)
 exact PyProof.Rows.callWith_builtin1 (thn (ha pos pins s σ H _ I h) fun us s1 ⟨vs,H1,I1,r1,q1⟩=>hc pins s1 σ H1 vs us Q I1 r1 q1) he hpl
theorem xH (hc:kH X (.type T) r) (hg:Gl X x) (hm:X.mg x=none) (hv:bootBuiltins x=some (.type T)) (ha:PA X (e :: es) t) (hn:x≠"__name__":=by decide) (hdb:(x == ("__debug__":Str))=false:=by decide)
  (he:starEach (e :: es) X.env=(false,eval e X.env) :: starEach es X.env:=by rfl) (hpl:(backTo pos (starEach es X.env)).any (·.1)=false:=by rfl):PE X (.Call (.Name x p) (e :: es) [] pos) (tCB r t):=by
 intro pins s σ H Q I h
 refine wpAny_Call_Name_kw (ZZ I hg hm hv ?_ hn hdb)
 exact PyProof.Rows.callWith_type1 (thn (ha pos pins s σ H _ I h) fun us s1 ⟨vs,H1,I1,r1,q1⟩=>hc pins s1 σ H1 vs us Q I1 r1 q1) he hpl
end
end L2
namespace HT
open PySem PyProof.Rows
def zbI:List Int→List Int→Bool
 | [],[]=>false
 | [],_ :: _=>true
 | _ :: _,[]=>false
 | x :: xs,y :: ys=>if x=y then zbI xs ys else decide (x < y)
theorem rcLt_int (A:Around) (s:Shared) (a:Int) (t:Tok) (c:Int) (u:Tok) (prog:Program) (w:World) (E:Value→Shared→Prop) (Q:Value→Shared→Prop) (h:Q (.bool (decide (a < c))) s) :
  wpAny (model prog w) A (richCompare .Lt (.int a t) (.int c u)) Q E s :=
 (PyProof.Rows.lt_int h:wpAny (model prog w) A (compareOp .Lt (.int a t) (.int c u)) Q E s)
section
open PySem.SeqAt
open PySem.AutoSeq1 (wpAny_loadPart')
open PySem.MeetsSeq PySem.MeetsSeq2 PySem.MeetsSeq3
end
section
variable {prog:Program} {w:World} {A:Around} {E:Value→Shared→Prop} {s:Shared}
def sIx (n d:Nat):Option Int→Nat
 | none=>d
 | some v=>if v < 0 then (v + (n:Int)).toNat else min v.toNat n
theorem sIx_none (n d:Nat):sIx n d none=d:=rfl
theorem sIx_nat (n d k:Nat):sIx n d (some (k:Int))=min k n:=by
 show (if (k:Int) < 0 then ((k:Int) + (n:Int)).toNat else min (k:Int).toNat n)=min k n
 rw [if_neg (by lia),Int.toNat_natCast]
theorem sIx_le (n d:Nat) (hd:d≤n) (o:Option Int):sIx n d o≤n:=by
 cases o with
 | none=>exact hd
 | some v =>
  show (if v < 0 then (v + (n:Int)).toNat else min v.toNat n)≤n
  by_cases hv:v < 0
  ·rw [if_pos hv];lia
  ·rw [if_neg hv];exact Nat.min_le_right _ _
end
end HT
namespace L2
open PySem PySem.Spec PyProof.Rows
abbrev TO:=St→Hp→(Option Int→Hp→Prop)→Prop
def PO (X:Cx) (e:Option Expr) (t:TO):Prop :=
 ∀ (pins:List (Addr × Obj)) (s:Shared) (σ:St) (H:Hp) (Q:Option Int→Hp→Prop),Inv X pins σ H s→t σ H Q →
  wpAny (model X.prog X.w) X.A (evalPart e X.env) (fun u s'=>∃ o H',Inv X pins σ H' s'∧IsPart u o∧Q o H') X.xe s
def xr:TO:=fun _ H Q=>Q none H
def x8 (t:TE):TO:=fun σ H Q=>t σ H fun x H1=>∃ i,x=.int i∧Q (some i) H1
section
variable {X:Cx} {e:Expr} {te:TE} {lo hi:Option Expr} {tl th:TO} {pos p2:Pos}
theorem qw:PO X none xr:=by
 intro pins s σ H Q I h
 rw [evalPart_none]
 exact wpAny_pure ⟨none,H,I,.none,h⟩
theorem jh (h:PE X e te):PO X (some e) (x8 te):=by
 intro pins s σ H Q I hw
 rw [evalPart_some]
 refine thn (h pins s σ H _ I hw) fun u s1 ⟨x,H1,I1,r1,q1⟩=>?_
 obtain ⟨i,rfl,q⟩:=q1
 obtain ⟨t,rfl⟩:=r1
 exact ⟨some i,H1,I1,.int i t,q⟩
def SlR (X:Cx) (r:V→Option Int→Option Int→Hp→VK→Prop):Prop :=
 ∀ (pins:List (Addr × Obj)) (s:Shared) (σ:St) (H:Hp) (x:V) (v vl vu:Value) (lo hi:Option Int) (sl:Addr) (Q:VK),Inv X pins σ H s→RelV x v→s.heap.IsSliceOf sl vl vu .none→IsPart vl lo→IsPart vu hi→r x lo hi H Q →
  ∃ T id,typeLookup (.type T) "__getitem__"=pure (some (.builtin id))∧s.TypeIs v T∧wpAny (model X.prog X.w) X.A (getItem v (.ref sl)) (EP X pins σ Q) X.xe s
def tSl (r:V→Option Int→Option Int→Hp→VK→Prop) (te:TE) (tl th:TO):TE:=fun σ H Q=>te σ H fun x H1=>tl σ H1 fun l H2=>th σ H2 fun u H3=>r x l u H3 Q
theorem v7 {r:V→Option Int→Option Int→Hp→VK→Prop} (hr:SlR X r) (he:PE X e te) (hl:PO X lo tl) (hu:PO X hi th):PE X (.Subscript e (.Slice lo hi none p2) pos) (tSl r te tl th):=by
 intro pins s σ H Q I h
 refine Subscript_ (thn (he pins s σ H _ I h) fun v s1 ⟨x,H1,I1,r1,q1⟩=>?_)
 refine wpAny_Slice (thn (hl pins s1 σ H1 _ I1 q1) fun vl s2 ⟨l,H2,I2,pl,q2⟩=>thn (hu pins s2 σ H2 _ I2 q2) fun vu s3 ⟨u,H3,I3,pu,q3⟩=>?_)
 rw [evalPart_none]
 refine wpAny_pure ?_
 have I4:Inv X pins σ H3 { s3 with heap:=s3.heap.push { cls:=.type "slice",data:=.fields #[vl,vu,.none] } }:=I3.kept (t':=s3.toks) fun b ob q=>Heap.get?_push_of_some _ q
 obtain ⟨T,id,hT,ht,hg⟩:=hr pins { s3 with heap:=s3.heap.push { cls:=.type "slice",data:=.fields #[vl,vu,.none] } } σ H3 x v vl vu l u s3.heap.objs.size Q I4 r1 (Heap.IsSliceOf.new ..) pl pu q3
 show wpAny (model X.prog X.w) X.A (subscriptTail e (.Slice lo hi none p2) v (.ref s3.heap.objs.size)) (EP X pins σ Q) X.xe { s3 with heap:=s3.heap.push { cls:=.type "slice",data:=.fields #[vl,vu,.none] } }
 exact tail_any (ops:=[.ref s3.heap.objs.size,v]) ht hT hg (by with_unfolding_all rfl)
def XE (xs:List V) (lo hi:Option Int):List V:=(xs.drop (HT.sIx xs.length 0 lo)).take (HT.sIx xs.length xs.length hi - HT.sIx xs.length 0 lo)
theorem Wu (xs:List V) (lo hi:Option Int):(XE xs lo hi).length≤xs.length:=by
 unfold XE
 rw [List.length_take,List.length_drop]
 lia
def zcy (K:W.Frag):R2:=fun x y H Q=>∃ a b xs ys,x=.ref a∧y=.ref b∧SqT K H a xs∧SqT K H b ys∧xs≠[]∧xs.length + ys.length≤sizeLine ∧
 (ys=[]→Q (.ref a) H)∧(ys≠[]→∀ p,H p=none→Q (.ref p) (upd H p (.tup (xs ++ ys))))
end
end L2
namespace L2
open PySem PySem.Spec PyProof.Rows
def ixN (n:Nat) (i:Int):Option Nat:=if 0≤i then (if i < n then some i.toNat else none) else if -(n:Int)≤i then some (i + n).toNat else none
def atI {α:Type} (xs:List α) (i:Int):Option α:=(ixN xs.length i).bind fun j=>xs[j]?
theorem Q1 {n:Nat} {i:Int} {j:Nat} (h:ixN n i=some j):seqIndex? i n=some j∧j < n∧-(n:Int)≤i∧i < n:=by
 unfold ixN at h
 by_cases h0:0≤i
 ·rw [if_pos h0] at h
  by_cases h1:i < n
  ·rw [if_pos h1] at h
   have e:i.toNat=j:=Option.some.inj h
   exact ⟨by rw [seqIndex_of h0 h1,e],by lia,by lia,h1⟩
  ·rw [if_neg h1] at h;cases h
 ·rw [if_neg h0] at h
  by_cases h1:-(n:Int)≤i
  ·rw [if_pos h1] at h
   have e:(i + n).toNat=j:=Option.some.inj h
   exact ⟨by rw [seqIndex_neg (by lia) h1,e],by lia,h1,by lia⟩
  ·rw [if_neg h1] at h;cases h
theorem XG {α:Type} {xs:List α} {i:Int} {v:α} (h:atI xs i=some v):∃ j,seqIndex? i xs.length=some j∧xs[j]?=some v∧j < xs.length∧-(xs.length:Int)≤i∧i < xs.length:=by
 unfold atI at h
 cases e:ixN xs.length i with
 | none=>rw [e] at h;cases h
 | some j =>
  rw [e] at h
  obtain ⟨h1,h2,h3,h4⟩:=Q1 e
  exact ⟨j,h1,h,h2,h3,h4⟩
theorem ZO {α:Type} {xs:List α} {j:Nat} {v:α} (h:xs[j]?=some v):atI xs (j:Int)=some v:=by
 have hj:j < xs.length:=(List.getElem?_eq_some_iff.mp h).1
 have e:ixN xs.length (j:Int)=some j:=by
  unfold ixN
  rw [if_pos (by lia),if_pos (by lia)];simp
 unfold atI;rw [e];exact h
def Q2 (b:Expr):Prop:=∀ o i,subscripted b false o i=operate [o,i] (getItem o i)
def IxR (X:Cx) (r:R2):Prop :=
 ∀ (value slice:Expr) (pins:List (Addr × Obj)) (s:Shared) (σ:St) (H:Hp) (x y:V) (v u:Value) (Q:VK),Inv X pins σ H s→RelV x v→RelV y u→r x y H Q →
  subscripted slice false v u=operate [v,u] (getItem v u)→wpAny (model X.prog X.w) X.A (subscriptTail value slice v u) (EP X pins σ Q) X.xe s
def MtR (X:Cx) (id:String) (r:V→List V→Hp→VK→Prop):Prop :=
 ∀ (pins:List (Addr × Obj)) (s:Shared) (σ:St) (H:Hp) (x:V) (xs:List V) (v:Value) (us:List Value) (Q:VK),Inv X pins σ H s→RelV x v→Vals xs us→r x xs H Q →
  wpAny (model X.prog X.w) X.A (call (.builtin id) (v :: us)) (EP X pins σ Q) X.xe s
section
variable {X:Cx} {a b:Expr} {ta tb:TE} {pos:Pos}
theorem zG {r:R2} (hr:IxR X r) (ha:PE X a ta) (hb:PE X b tb) (hs:Q2 b):PE X (.Subscript a b pos) (tOp r ta tb):=by
 intro pins s σ H Q I h
 exact Subscript_ (zba ha hb I h fun v u s2 x y H2 I2 rx ry q=>hr a b pins s2 σ H2 x y v u Q I2 rx ry q (hs _ _))
def ye (K:W.Frag):R2:=fun x y H Q=>∃ p xs i v,x=.ref p∧y=.int i∧SqL K H p xs∧atI xs i=some v∧Q v H
def zT (K:W.Frag):R2:=fun x y H Q=>∃ p xs i v,x=.ref p∧y=.int i∧SqT K H p xs∧atI xs i=some v∧Q v H
def XH:R2:=fun x y H Q=>∃ z i c,x=.str z∧y=.int i∧z.length≤sizeLine∧atI z.cps.toList i=some c∧Q (.str ⟨#[c]⟩) H
theorem zU:IxR X (ye X.K):=by
 intro value slice pins s σ H x y v u Q I rx ry h hs
 obtain ⟨p,xs,i,z,rfl,rfl,hq,he,q⟩:=h
 cases rx
 obtain ⟨t,rfl⟩:=ry
 obtain ⟨its,r,pl,hz⟩:=I.list hq
 obtain ⟨j,h1,h2,h3,h4,h5⟩:=XG he
 obtain ⟨w,ew,rw'⟩:=r.get h2
 have hl:=r.length
 have hn:=XD
 have fin:EP X pins σ Q w s:=⟨z,H,I,rw',q⟩
 by_cases h0:0≤i
 ·have hj:i.toNat=j:=by
   rw [seqIndex_of h0 h5] at h1
   exact Option.some.inj h1
  exact item_listR pl.isList h0 (by lia) (by rw [hj];simpa using ew) fin hs
 ·have hj:(i + (its.toArray.size:Int)).toNat=j:=by
   rw [seqIndex_neg (by lia) h4] at h1
   rw [List.size_toArray,← hl]
   exact Option.some.inj h1
  exact subscriptTail_builtinR (x:=w) pl.isList.typeIs slot_list_getitem.lookup
   (wpAny_getItem_list_neg (Q:=fun r s'=>r=w∧EP X pins σ Q r s') pl.isList (by lia) (by rw [List.size_toArray] <;> lia) (by lia) (by rw [hj];simpa using ew) ⟨rfl,fin⟩) hs
theorem zR:IxR X (zT X.K):=by
 intro value slice pins s σ H x y v u Q I rx ry h hs
 obtain ⟨p,xs,i,z,rfl,rfl,hq,he,q⟩:=h
 cases rx
 obtain ⟨t,rfl⟩:=ry
 obtain ⟨its,r,pl,hz⟩:=I.tuple hq
 obtain ⟨j,h1,h2,h3,h4,h5⟩:=XG he
 obtain ⟨w,ew,rw'⟩:=r.get h2
 have hl:=r.length
 have hn:=XD
 have fin:EP X pins σ Q w s:=⟨z,H,I,rw',q⟩
 exact subscriptTail_builtinR (x:=w) pl.typeIs slot_tuple_getitem.lookup
  (getItem_tuple (j:=j) (Q:=fun r s'=>r=w∧EP X pins σ Q r s') pl (by lia) (by lia) (by rw [List.size_toArray,← hl];exact h1) (by simpa using ew) ⟨rfl,fin⟩) hs
theorem Kv:IxR X XH:=by
 intro value slice pins s σ H x y v u Q I rx ry h hs
 obtain ⟨z,i,c,rfl,rfl,hz,he,q⟩:=h
 obtain ⟨t,rfl⟩:=rx
 obtain ⟨t',rfl⟩:=ry
 obtain ⟨j,h1,h2,h3,h4,h5⟩:=XG he
 have hl:z.cps.toList.length=z.length:=by simp [Str.length]
 rw [hl] at h1 h4 h5
 have hn:=XD
 exact tail_any (typeIs_str s z t) slot_str_getitem.lookup (getItem_str (c:=c) (by
  have e1:decide (i < -(2 ^ 63:Int))=false:=decide_eq_false (by lia)
  have e2:decide (i ≥ 2 ^ 63)=false:=decide_eq_false (by lia)
  rw [e1,e2,Bool.or_false]) (by rw [h1];simpa using h2) ⟨.str ⟨#[c]⟩,H,I.tok _,⟨_,rfl⟩,q⟩) hs
theorem XI (lo hi:Option Int) (n:Nat):(sliceBounds lo hi none n).1=((HT.sIx n 0 lo:Nat):Int)∧(sliceBounds lo hi none n).2.1=((HT.sIx n n hi:Nat):Int)∧(sliceBounds lo hi none n).2.2=1:=by
 refine ⟨?_,?_,rfl⟩
 ·cases lo with
  | none=>simp [sliceBounds,HT.sIx]
  | some i =>
   simp only [sliceBounds,HT.sIx,Option.getD_none,show (1:Int) > 0 by decide,if_true]
   by_cases h:i < 0
   ·simp only [h,if_true] <;> lia
   ·simp only [h,if_false] <;> lia
 ·cases hi with
  | none=>simp [sliceBounds,HT.sIx]
  | some i =>
   simp only [sliceBounds,HT.sIx,Option.getD_none,show (1:Int) > 0 by decide,if_true]
   by_cases h:i < 0
   ·simp only [h,if_true] <;> lia
   ·simp only [h,if_false] <;> lia
theorem YR (its:List Value) (lo hi:Option Int):slicePick its.toArray lo hi none=((its.drop (HT.sIx its.length 0 lo)).take (HT.sIx its.length its.length hi - HT.sIx its.length 0 lo)).toArray:=by
 obtain ⟨h1,h2,h3⟩:=XI lo hi its.toArray.size
 unfold slicePick
 rw [h1,h2,h3]
 simp only [sliceRange_one,pick_run,List.size_toArray] <;> rfl
def VF (K:W.Frag):V→Option Int→Option Int→Hp→VK→Prop:=fun x lo hi H Q=>∃ a xs,x=.ref a∧SqL K H a xs∧∀ p,H p=none→Q (.ref p) (upd H p (.lst (XE xs lo hi)))
theorem Jh:SlR X (VF X.K):=by
 intro pins s σ H x v vl vu lo hi sl Q I rx hs pl pu h
 obtain ⟨a,xs,rfl,hx,q⟩:=h
 cases rx
 obtain ⟨its,r,ht,hz⟩:=I.list hx
 have hlen:=r.length
 refine ⟨"list",_,slot_list_getitem.lookup,ht.isList.typeIs,?_⟩
 refine wpAny_getItem_list_slice ht.isList hs pl pu .none (by simp) ?_ (by rw [List.size_toArray] <;> lia)
 rw [YR,← hlen]
 refine ⟨.ref s.heap.objs.size,_,I.laid (t':=s.toks) (o:=.lst (XE xs lo hi)) (fun b ob q=>Heap.get?_push_of_some _ q) (Nat.le_refl _) ?_,rfl,q _ (I.hok.fresh (Nat.le_refl _))⟩
 exact ⟨Nat.le_trans (Wu xs lo hi) hz,_,0,(r.drop (HT.sIx xs.length 0 lo)).take (HT.sIx xs.length xs.length hi - HT.sIx xs.length 0 lo),Heap.get?_push_size _ rfl⟩
def kI:V→Bool
 | .non=>true
 | .bl _=>true
 | .int _=>true
 | .str _=>true
 | _=>false
def eqV:V→V→Bool
 | .non,.non=>true
 | .bl a,.bl b=>a == b
 | .bl a,.int b=>(if a then 1 else 0) == b
 | .int a,.bl b=>a == (if b then 1 else 0)
 | .int a,.int b=>a == b
 | .str a,.str b=>a == b
 | _,_=>false
theorem zbb {A:Around} {s:Shared} {y x:V} {u v:Value} (ry:RelV y u) (rx:RelV x v) (fy:kI y=true) (fx:kI x=true):SeqAt.EqAt A s u v (eqV y x):=by
 cases y with
 | non =>
  cases ry
  cases x with
  | non=>cases rx;exact SeqAt.EqAt.same _
  | bl b=>cases rx;exact SeqAt.EqAt.none_bool b
  | int b=>obtain ⟨t,rfl⟩:=rx;exact SeqAt.EqAt.none_int b t
  | str b=>obtain ⟨t,rfl⟩:=rx;exact SeqAt.EqAt.none_str b t
  | _=>exact absurd (show false=true from fx) Bool.false_ne_true
 | bl a =>
  cases ry
  cases x with
  | non=>cases rx;exact SeqAt.EqAt.bool_none a
  | bl b=>cases rx;exact SeqAt.EqAt.bool_bool a b
  | int b=>obtain ⟨t,rfl⟩:=rx;exact SeqAt.EqAt.bool_int a b t
  | str b=>obtain ⟨t,rfl⟩:=rx;exact SeqAt.EqAt.bool_str a b t
  | _=>exact absurd (show false=true from fx) Bool.false_ne_true
 | int a =>
  obtain ⟨t',rfl⟩:=ry
  cases x with
  | non=>cases rx;exact SeqAt.EqAt.int_none a t'
  | bl b=>cases rx;exact SeqAt.EqAt.int_bool a t' b
  | int b=>obtain ⟨t,rfl⟩:=rx;exact SeqAt.EqAt.int_int a t' b t
  | str b=>obtain ⟨t,rfl⟩:=rx;exact SeqAt.EqAt.int_str a t' b t
  | _=>exact absurd (show false=true from fx) Bool.false_ne_true
 | str a =>
  obtain ⟨t',rfl⟩:=ry
  cases x with
  | non=>cases rx;exact SeqAt.EqAt.str_none a t'
  | bl b=>cases rx;exact SeqAt.EqAt.str_bool a t' b
  | int b=>obtain ⟨t,rfl⟩:=rx;exact SeqAt.EqAt.str_int a t' b t
  | str b=>obtain ⟨t,rfl⟩:=rx;exact SeqAt.EqAt.str_str a t' b t
  | _=>exact absurd (show false=true from fx) Bool.false_ne_true
 | _=>exact absurd (show false=true from fy) Bool.false_ne_true
def eqU (x:V) (u:Value):Bool:=match u with
 | .none=>eqV .non x
 | .bool b=>eqV (.bl b) x
 | .int i _=>eqV (.int i) x
 | .str z _=>eqV (.str z) x
 | _=>false
theorem Kw {x y:V} {u:Value} (r:RelV y u) (f:kI y=true):eqU x u=eqV y x:=by
 cases y with
 | non=>cases r;rfl
 | bl b=>cases r;rfl
 | int i=>obtain ⟨t,rfl⟩:=r;rfl
 | str z=>obtain ⟨t,rfl⟩:=r;rfl
 | _=>exact absurd (show false=true from f) Bool.false_ne_true
theorem XJ {x:V}:∀ {xs:List V} {us:List Value},Vals xs us→xs.all kI=true→us.any (eqU x)=xs.any fun y=>eqV y x
 | _,_,.nil,_=>rfl
 | y :: xs,u :: us,.cons r t,f=>by
  rw [List.all_cons,Bool.and_eq_true] at f
  rw [List.any_cons,List.any_cons,Kw r f.1,XJ t f.2]
theorem Z7 {A:Around} {s:Shared} {x:V} {v:Value} (rx:RelV x v) (fx:kI x=true):∀ {xs:List V} {us:List Value},Vals xs us→xs.all kI=true→∀ u∈us,SeqAt.EqAt A s u v (eqU x u)
 | _,_,.nil,_=>fun u hu=>by cases hu
 | y :: xs,u :: us,.cons r t,f=>fun u' hu=>by
  rw [List.all_cons,Bool.and_eq_true] at f
  rcases List.mem_cons.mp hu with rfl | hu
  ·rw [Kw r f.1];exact zbb r rx f.1 fx
  ·exact Z7 rx fx t f.2 u' hu
def inV (x:V) (xs:List V):Bool:=xs.any fun y=>eqV y x
def rIn (K:W.Frag) (neg:Bool):R2:=fun x y H Q=>∃ p xs,y=.ref p∧(SqL K H p xs∨SqT K H p xs)∧kI x=true∧xs.all kI=true∧Q (.bl (if neg then !inV x xs else inV x xs)) H
theorem w5:OpR X (compareOp .In) (rIn X.K false):=by
 intro pins s σ H x y v u Q I rx ry h
 obtain ⟨p,xs,rfl,hq,fx,fs,q⟩:=h
 cases ry
 rcases hq with hq | hq
 ·obtain ⟨its,r,pl,hz⟩:=I.list hq
  refine SeqAt.in_listAt (eqU x) pl.isList (fun w hw=>Z7 rx fx r fs w (by simpa using hw)) ⟨.bl _,H,I,rfl,?_⟩
  rw [show its.toArray.any (eqU x)=its.any (eqU x) by simp,XJ r fs]
  exact q
 ·obtain ⟨its,r,pl,hz⟩:=I.tuple hq
  refine SeqAt.in_tupleAt (eqU x) pl (fun w hw=>Z7 rx fx r fs w (by simpa using hw)) ⟨.bl _,H,I,rfl,?_⟩
  rw [show its.toArray.any (eqU x)=its.any (eqU x) by simp,XJ r fs]
  exact q
theorem qx:kH X (.type "list") (fun xs H Q=>∃ p ys,xs=[.ref p]∧(SqL X.K H p ys∨SqT X.K H p ys)∧∀ l,H l=none→Q (.ref l) (upd H l (.lst ys))):=by
 intro pins s σ H xs us Q I r h
 obtain ⟨p,ys,rfl,hq,q⟩:=h
 obtain ⟨u,rfl,rx⟩:=Y8 r
 cases rx
 have fin:∀ (its:List Value),Vals ys its→ys.length≤sizeLine→∀ (h':Heap) (c':Nat),(∀ b o',s.heap.get? b=some o'→h'.get? b=some o') →
   h'.get? s.heap.objs.size=some { cls:=.type "list",dict:=none,data:=.seq its.toArray c',slots:=#[] }→EP X pins σ Q (.ref s.heap.objs.size) { s with heap:=h' }:=fun its r' hz h' c' kp e =>
  ⟨.ref s.heap.objs.size,_,I.laid (t':=s.toks) kp (Nat.le_refl _) (show ObjOk X.prog X.w _ h' _ (.lst ys) from ⟨hz,its,c',r',e⟩),rfl,q _ (I.hok.fresh (Nat.le_refl _))⟩
 rcases hq with hq | hq
 ·obtain ⟨its,r',pl,hz⟩:=I.list hq
  have hlen:=r'.length
  obtain ⟨o,ho,hc,n,hd⟩:=pl.isList
  exact call_list_seq p (.inl rfl) ho hc hd (fun h' c' kp e=>fin its r' hz h' c' kp e) (by simp only [List.size_toArray] <;> lia)
 ·obtain ⟨its,r',pl,hz⟩:=I.tuple hq
  have hlen:=r'.length
  obtain ⟨o,ho,hc,n,hd⟩:=pl
  exact call_list_seq p (.inr rfl) ho hc hd (fun h' c' kp e=>fin its r' hz h' c' kp e) (by simp only [List.size_toArray] <;> lia)
theorem kJ:kH X (.type "tuple") (fun xs H Q=>∃ p ys,xs=[.ref p]∧((SqL X.K H p ys∧∀ l,H l=none→Q (.ref l) (upd H l (.tup ys)))∨(SqT X.K H p ys∧Q (.ref p) H))):=by
 intro pins s σ H xs us Q I r h
 obtain ⟨p,ys,rfl,h⟩:=h
 obtain ⟨u,rfl,rx⟩:=Y8 r
 cases rx
 rcases h with ⟨hq,q⟩ | ⟨hq,q⟩
 ·obtain ⟨its,r',pl,hz⟩:=I.list hq
  have hlen:=r'.length
  refine call_tuple_list pl.isList (fun h' kp=>?_) (by simp only [List.size_toArray] <;> lia)
  have I1:Inv X pins σ H { s with heap:=h' }:=I.kept (t':=s.toks) kp
  have I2:Inv X pins σ (upd H h'.objs.size (.tup ys)) { s with heap:=h'.push { cls:=.type "tuple",data:=.seq its.toArray } } :=
   I1.laid (t':=s.toks) (fun b o e=>Heap.get?_push_of_some _ e) (Nat.le_refl _) (show ObjOk X.prog X.w _ _ _ (.tup ys) from ⟨hz,its,r',IsTup.new _ _⟩)
  exact ⟨.ref h'.objs.size,_,I2,rfl,q _ (I1.hok.fresh (Nat.le_refl _))⟩
 ·obtain ⟨its,r',pl,hz⟩:=I.tuple hq
  exact call_tuple_same pl ⟨.ref p,H,I,rfl,q⟩
def tyV (K:W.Frag) (T:String) (x:V) (H:Hp):Prop:=match x with
 | .str _=>T="str"
 | .int _=>T="int"
 | .ref p=>(T="list"∧∃ xs,SqL K H p xs)∨(T="tuple"∧∃ o,K.lookup p=some o∧o.cls=.type "tuple"∧o.dict=none) ∨
   (T="dict"∧((∃ kvs,H p=some (.dK kvs))∨∃ kvs,H p=some (.dT kvs)))∨(T="set"∧∃ S n,H p=some (.set S n))
 | _=>False
theorem Kx {pins:List (Addr × Obj)} {σ:St} {H:Hp} {s:Shared} {T:String} {x:V} {v:Value} (I:Inv X pins σ H s) (r:RelV x v) (ty:tyV X.K T x H) :
  s.TypeIs v T∧∀ a,v=.ref a→∃ ob,s.heap.get? a=some ob∧ob.dict=none:=by
 cases x with
 | str z =>
  obtain ⟨t,rfl⟩:=r
  cases (show T="str" from ty)
  exact ⟨typeIs_str s z t,fun _ e=>nomatch e⟩
 | int i =>
  obtain ⟨t,rfl⟩:=r
  cases (show T="int" from ty)
  exact ⟨typeIs_int s i t,fun _ e=>nomatch e⟩
 | ref p =>
  cases r
  rcases ty with ⟨rfl,xs,hq⟩ | ⟨rfl,o,hk,hc,hd⟩ | ⟨rfl,hk⟩ | ⟨rfl,S,n,hk⟩
  ·obtain ⟨its,_,pl,_⟩:=I.list hq
   refine ⟨pl.isList.typeIs,fun a e=>?_⟩
   cases e
   obtain ⟨o,n,e,c,hd,_⟩:=pl
   exact ⟨o,e,hd⟩
  ·refine ⟨⟨o,I.kIn p o hk,hc⟩,fun a e=>?_⟩
   cases e
   exact ⟨o,I.kIn _ o hk,hd⟩
  ·have z:∃ o,s.heap.get? p=some o∧o.ExactDict:=by
    rcases hk with ⟨kvs,hk⟩ | ⟨kvs,hk⟩
    ·obtain ⟨_,_,_,_,o,_,_,e,ex,_⟩:=I.hok p _ hk
     exact ⟨o,e,ex⟩
    ·obtain ⟨_,_,_,_,o,_,_,e,ex,_⟩:=I.hok p _ hk
     exact ⟨o,e,ex⟩
   obtain ⟨o,e,ex⟩:=z
   refine ⟨⟨o,e,ex.1⟩,fun a e2=>?_⟩
   cases e2
   exact ⟨o,e,ex.2.1⟩
  ·obtain ⟨o,_,_,_,e,ex,_⟩:=I.hok p _ hk
   refine ⟨⟨o,e,ex.1⟩,fun a e2=>?_⟩
   cases e2
   exact ⟨o,e,ex.2.1⟩
 | _=>exact False.elim ty
def qy (K:W.Frag) (T:String) (r:V→List V→Hp→VK→Prop) (to:TE):TE:=fun σ H Q=>to σ H fun x H1=>tyV K T x H1∧r x [] H1 Q
def tBM (K:W.Frag) (T:String) (r:V→List V→Hp→VK→Prop) (to:TE) (t:TA):TE:=fun σ H Q=>to σ H fun x H1=>tyV K T x H1∧t σ H1 fun xs H2=>r x xs H2 Q
variable {o e:Expr} {es:List Expr} {to:TE} {t:TA} {name:Str} {apos cpos:Pos} {T id:String} {r:V→List V→Hp→VK→Prop}
theorem qV (pa:PlainAttrs T) (slot:Slot T name id) (hty:typeOf (.builtin id)=pure (.type "method_descriptor")) (hm:MtR X id r) (ho:PE X o to)
  (hbase:attributeBase o name X.env (eval o X.env)=eval o X.env:=by rfl) (hline:(apos.endLine == cpos.line)=true:=by rfl):PE X (.Call (.Attribute o name apos) [] [] cpos) (qy X.K T r to):=by
 intro pins s σ H Q I h
 refine wpAny_Call_method0_late hbase hline (thn (ho pins s σ H _ I h) fun v s1 ⟨x,H1,I1,r1,ty,q1⟩=>?_)
 obtain ⟨h1,h2⟩:=Kx I1 r1 ty
 exact ⟨T,id,pa,slot,hty,h1,h2,Calls.callWith_builtin rfl (PySem.evalArgs_none (hm pins s1 σ H1 x [] v [] Q I1 r1 .nil q1))⟩
theorem vI (pa:PlainAttrs T) (slot:Slot T name id) (hty:typeOf (.builtin id)=pure (.type "method_descriptor")) (hm:MtR X id r) (ho:PE X o to) (ha:PA X (e :: es) t)
  (hbase:attributeBase o name X.env (eval o X.env)=eval o X.env:=by rfl)
  (hfew:((backTo cpos (starEach (e :: es) X.env)).all (fun x=>!x.1) && (backToKw cpos (keywordEach [] X.env)).all (fun x=>x.1.isSome)
   && decide ((e :: es).length + ([]:List Keyword).length + (if ([]:List Keyword).isEmpty then 0 else 1) < 30))=true:=by rfl)
  (hline:(apos.endLine == cpos.line)=true:=by rfl) (hs:starEach (e :: es) X.env=(false,eval e X.env) :: starEach es X.env:=by rfl) (hplain:(backTo cpos (starEach es X.env)).any (·.1)=false:=by rfl) :
  PE X (.Call (.Attribute o name apos) (e :: es) [] cpos) (tBM X.K T r to t):=by
 intro pins s σ H Q I h
 refine wpAny_Call_method_late hbase hfew hline rfl (thn (ho pins s σ H _ I h) fun v s1 ⟨x,H1,I1,r1,ty,q1⟩=>?_)
 obtain ⟨h1,h2⟩:=Kx I1 r1 ty
 refine ⟨T,id,pa,slot,hty,h1,h2,?_⟩
 have hA:=ha cpos pins s1 σ H1 _ I1 q1
 rw [hs] at hA ⊢
 refine Calls.callWith_builtin (by show (false || (backTo cpos (starEach es X.env)).any (·.1))=false;rw [hplain] <;> rfl) (Calls.evalArgs_plain ?_)
 exact thn hA fun us s2 ⟨vs,H2,I2,r2,q2⟩=>hm pins s2 σ H2 x vs v us Q I2 r1 r2 q2
end
end L2
namespace L2
open PySem PySem.Spec PyProof.Rows
def MtM (X:Cx) (id:String) (r:V→List V→Hp→VK→Prop):Prop :=
 ∀ (pins:List (Addr × Obj)) (s:Shared) (σ:St) (H:Hp) (x:V) (xs:List V) (v:Value) (us:List Value) (Q:VK),Inv X pins σ H s→RelV x v→Vals xs us→r x xs H Q →
  wpAny (model X.prog X.w) X.A (call (.builtin id) (v :: us)) (EP X pins σ Q) X.xe s
theorem Vals.one:∀ {x:V} {us:List Value},Vals [x] us→∃ u,us=[u]∧RelV x u
 | _,_,.cons r .nil=>⟨_,rfl,r⟩
theorem Vals.zero:∀ {us:List Value},Vals [] us→us=[]
 | _,.nil=>rfl
theorem Vals.dropLast {xs:List V} {us:List Value} (h:Vals xs us):Vals xs.dropLast us.dropLast:=by
 induction h with
 | nil=>exact .nil
 | cons r t ih =>
  cases t with
  | nil=>exact .nil
  | cons q t'=>exact .cons r ih
theorem VG {α:Type} (l:List α):l.eraseIdx (l.length - 1)=l.dropLast:=by
 induction l with
 | nil=>rfl
 | cons a r ih =>
  cases r with
  | nil=>rfl
  | cons b r =>
   have e:(a :: b :: r).length - 1=((b :: r).length - 1) + 1:=by
    have h1:(a :: b :: r).length=r.length + 2:=rfl
    have h2:(b :: r).length=r.length + 1:=rfl
    lia
   rw [e,List.eraseIdx_cons_succ,ih]
   all_goals rfl
section
variable {X:Cx} {pins:List (Addr × Obj)} {σ:St} {H:Hp} {s:Shared} {l b:Addr} {xs ys zs:List V}
theorem Inv.lset {its its':List Value} {n:Nat} {f:Array Value→Array Value} {t':Nat} (I:Inv X pins σ H s) (hH:H l=some (.lst xs))
  (e:s.heap.get? l=some { cls:=.type "list",data:=.seq its.toArray n }) (hf:f its.toArray=its'.toArray) (hv:Vals ys its') (hz:ys.length≤sizeLine) :
  Inv X pins σ (upd H l (.lst ys)) { s with heap:=s.heap.update l (Obj.mapSeq f),toks:=t' }:=by
 have q:=PySem.IsL.update e f
 rw [hf] at q
 refine I.write (x:=l) (e:=l) (by rw [hH];exact trivial) (.inl rfl) (fun b' u hb hu=>(Heap.get?_update_other s.heap (Obj.mapSeq f) (Ne.symm hb)).trans hu) ⟨_,q⟩ ?_
 exact ⟨hz,its',_,hv,q⟩
theorem Inv.lnew {its:List Value} {t':Nat} (I:Inv X pins σ H s) (hv:Vals ys its) (hz:ys.length≤sizeLine) :
  Inv X pins σ (upd H s.heap.objs.size (.lst ys)) { s with heap:=s.heap.push { cls:=.type "list",data:=.seq its.toArray },toks:=t' } :=
 I.laid (fun _ _ q=>Heap.get?_push_of_some _ q) (Nat.le_refl _) ⟨hz,its,0,hv,Heap.get?_push_size _ rfl⟩
theorem Inv.fresh (I:Inv X pins σ H s):H s.heap.objs.size=none:=I.hok.fresh (Nat.le_refl _)
theorem Inv.lstM (I:Inv X pins σ H s) (hH:H l=some (.lst xs)):xs.length≤sizeLine∧∃ (its:List Value) (n:Nat),Vals xs its∧xs.length=its.length∧s.heap.get? l=some { cls:=.type "list",data:=.seq its.toArray n }:=by
 obtain ⟨z,its,n,r,e⟩:=I.hok l _ hH
 exact ⟨z,its,n,r,r.length,e⟩
theorem Ky {n:Nat} (h:n≤sizeLine):Builtin.List.listTooLong n=false:=by
 unfold Builtin.List.listTooLong
 exact decide_eq_false (by lia)
end
section
variable {X:Cx}
def yf:V→List V→Hp→VK→Prop:=fun x vs H Q=>∃ l xs y,x=.ref l∧vs=[y]∧H l=some (.lst xs)∧xs.length < sizeLine∧Q .non (upd H l (.lst (xs ++ [y])))
theorem yr:MtM X "list.append" yf:=by
 intro pins s σ H x vs v us Q I rx rv h
 obtain ⟨l,xs,y,rfl,rfl,hH,hz,q⟩:=h
 cases rx
 obtain ⟨u,rfl,ru⟩:=rv.one
 obtain ⟨z,its,n,r,hl,e⟩:=I.lstM hH
 refine call_meets F.slot_list_append ⟨_,e,rfl⟩ F.entry_list_append (F.args_list_append_2 _ _) (PySem.list_append l its.toArray n u (by rw [List.size_toArray];lia)) ⟨e,?_⟩
 refine ⟨.non,_,I.lset (its':=its ++ [u]) hH e (by simp) (r.append (.cons ru .nil)) ?_,rfl,q⟩
 rw [List.length_append,List.length_singleton]
 lia
def ZP:V→List V→Hp→VK→Prop:=fun x vs H Q=>∃ l b xs zs,x=.ref l∧vs=[.ref b]∧H l=some (.lst xs)∧H b=some (.lst zs)∧xs.length + zs.length≤sizeLine∧Q .non (upd H l (.lst (xs ++ zs)))
theorem JU:MtM X "list.extend" ZP:=by
 intro pins s σ H x vs v us Q I rx rv h
 obtain ⟨l,b,xs,zs,rfl,rfl,hH,hB,hz,q⟩:=h
 cases rx
 obtain ⟨u,rfl,ru⟩:=rv.one
 cases ru
 obtain ⟨z,its,n,r,hl,e⟩:=I.lstM hH
 obtain ⟨z2,its2,n2,r2,hl2,e2⟩:=I.lstM hB
 have hsz:its.toArray.size + its2.toArray.size≤sizeLine:=by rw [List.size_toArray,List.size_toArray];lia
 have hlong:¬ (!its.toArray.isEmpty && Builtin.List.listTooLong (its.toArray.size + its2.toArray.size))=true:=by
  rw [Ky hsz,Bool.and_false]
  exact Bool.false_ne_true
 refine call_meets F.slot_list_extend ⟨_,e,rfl⟩ F.entry_list_extend (F.args_list_extend_2 _ _)
  (AutoSeq1.list_extend_list_list_0 l its.toArray n b its2.toArray n2 hlong (by rw [List.size_toArray];lia) (by lia)) ⟨e,e2,?_⟩
 refine ⟨.non,_,I.lset (its':=its ++ its2) hH e (by simp) (r.append r2) ?_,rfl,q⟩
 rw [List.length_append]
 lia
def XL:V→List V→Hp→VK→Prop:=fun x vs H Q=>∃ l xs y,x=.ref l∧vs=[]∧H l=some (.lst xs)∧xs[xs.length - 1]?=some y∧Q y (upd H l (.lst xs.dropLast))
theorem qW:MtM X "list.pop" XL:=by
 intro pins s σ H x vs v us Q I rx rv h
 obtain ⟨l,xs,y,rfl,rfl,hH,hy,q⟩:=h
 cases rx
 have hus:=rv.zero
 subst hus
 obtain ⟨z,its,n,r,hl,e⟩:=I.lstM hH
 obtain ⟨u,hu,ru⟩:=r.get hy
 have hy':its.toArray[its.toArray.size - 1]?=some u:=by
  show its.toArray[its.length - 1]?=some u
  rw [← Array.getElem?_toList,← hl]
  exact hu
 refine call_meets F.slot_list_pop ⟨_,e,rfl⟩ F.entry_list_pop (F.args_list_pop_1 _) (MeetsSeq.list_pop_last l its.toArray n u hy' (by rw [List.size_toArray];lia)) ⟨e,?_⟩
 refine ⟨y,_,I.lset (its':=its.dropLast) hH e ?_ r.dropLast ?_,ru,q⟩
 ·show its.toArray.eraseIdxIfInBounds (its.toArray.size - 1)=its.dropLast.toArray
  rw [List.size_toArray,List.eraseIdxIfInBounds_toArray,VG]
 ·rw [List.length_dropLast]
  lia
def zbc:V→List V→Hp→VK→Prop:=fun x vs H Q=>∃ l xs,x=.ref l∧vs=[]∧H l=some (.lst xs)∧Q .non (upd H l (.lst []))
def VH:R2:=fun x y H Q=>∃ l b xs zs,x=.ref l∧y=.ref b∧H l=some (.lst xs)∧H b=some (.lst zs)∧xs.length + zs.length≤sizeLine∧∀ p,H p=none→Q (.ref p) (upd H p (.lst (xs ++ zs)))
theorem XM:OpR X (binaryOp .Add) VH:=by
 intro pins s σ H x y v u Q I rx ry h
 obtain ⟨l,b,xs,zs,rfl,rfl,hH,hB,hz,q⟩:=h
 cases rx
 cases ry
 obtain ⟨z,its,n,r,hl,e⟩:=I.lstM hH
 obtain ⟨z2,its2,n2,r2,hl2,e2⟩:=I.lstM hB
 refine PySem.P.add_list e e2 ?_ (by rw [List.size_toArray,List.size_toArray];lia)
 have ea:its.toArray ++ its2.toArray=(its ++ its2).toArray:=by simp
 rw [ea]
 exact ⟨.ref _,_,I.lnew (t':=s.toks) (r.append r2) (by rw [List.length_append];lia),rfl,q _ I.fresh⟩
def zcX:R2:=fun x y H Q=>∃ l k xs,x=.ref l∧y=.int k∧H l=some (.lst xs)∧-(2 ^ 63)≤k∧k < 2 ^ 63∧xs.length * k.toNat≤sizeLine ∧
 ∀ p,H p=none→Q (.ref p) (upd H p (.lst (List.replicate k.toNat xs).flatten))
end
section
variable {prog:Program} {w:World} {A:Around} {E:Value→Shared→Prop} {s:Shared}
set_option maxRecDepth 100000 in
end
section
variable {X:Cx}
end
end L2
namespace L2
open PySem PySem.Spec PyProof.Rows
section
variable {κ:Type} [DecidableEq κ]
def yo (kvs:List (κ × V)) (k:κ):Option V:=(kvs.find? fun kv=>decide (kv.1=k)).map (·.2)
def yJ (kvs:List (κ × V)) (k:κ) (v:V):List (κ × V) :=
 if (kvs.any fun kv=>decide (kv.1=k))=true then kvs.map (fun kv=>if kv.1=k then (kv.1,v) else kv) else kvs ++ [(k,v)]
def Xd (kvs:List (κ × V)) (k:κ):List (κ × V):=kvs.filter fun kv=>decide (kv.1≠k)
theorem Kz {k:κ}:yo ([]:List (κ × V)) k=none:=rfl
theorem y6 {p:κ × V} {r:List (κ × V)} {k:κ} (e:p.1=k):yo (p :: r) k=some p.2:=by simp [yo,List.find?_cons,e]
theorem y7 {p:κ × V} {r:List (κ × V)} {k:κ} (e:¬ p.1=k):yo (p :: r) k=yo r k:=by simp [yo,List.find?_cons,e]
theorem wE (k:κ):∀ kvs:List (κ × V),(kvs.any fun kv=>decide (kv.1=k))=(yo kvs k).isSome
 | []=>rfl
 | p :: r=>by
  rw [List.any_cons]
  by_cases e:p.1=k
  ·simp only [y6 e,decide_eq_true e,Bool.true_or,Option.isSome_some]
  ·rw [y7 e,decide_eq_false e,Bool.false_or];exact wE k r
theorem Wv (k j:κ) (y:V):∀ kvs:List (κ × V),yo (kvs.map fun kv=>if kv.1=k then (kv.1,y) else kv) j=(yo kvs j).map fun x=>if j=k then y else x
 | []=>rfl
 | p :: r=>by
  have ih:=Wv k j y r
  rw [List.map_cons]
  by_cases h:p.1=k
  ·rw [if_pos h]
   by_cases e:p.1=j
   ·rw [y6 (p:=(p.1,y)) e,y6 e,Option.map_some,if_pos (e.symm.trans h)]
   ·rw [y7 (p:=(p.1,y)) e,y7 e,ih]
  ·rw [if_neg h]
   by_cases e:p.1=j
   ·rw [y6 (p:=p) e,y6 e,Option.map_some,if_neg (fun z=>h (e.trans z))]
   ·rw [y7 (p:=p) e,y7 e,ih]
theorem Xe (k j:κ) (y:V):∀ kvs:List (κ × V),yo kvs k=none→yo (kvs ++ [(k,y)]) j=if j=k then some y else yo kvs j
 | [],_=>by
  by_cases e:k=j
  ·rw [if_pos e.symm];exact y6 (p:=(k,y)) e
  ·rw [if_neg (fun z=>e z.symm)];exact y7 (p:=(k,y)) e
 | p :: r,hn=>by
  rw [List.cons_append]
  have hk:¬ p.1=k:=fun z=>by rw [y6 z] at hn;cases hn
  rw [y7 hk] at hn
  have ih:=Xe k j y r hn
  by_cases e:p.1=j
  ·rw [y6 e,y6 e,if_neg (fun z=>hk (e.trans z))]
  ·rw [y7 e,y7 e,ih]
theorem qz (kvs:List (κ × V)) (k j:κ) (y:V):yo (yJ kvs k y) j=if j=k then some y else yo kvs j:=by
 unfold yJ
 by_cases a:(kvs.any fun kv=>decide (kv.1=k))=true
 ·rw [if_pos a,Wv]
  rw [wE] at a
  by_cases e:j=k
  ·obtain ⟨x,hx⟩:=Option.isSome_iff_exists.mp a
   rw [if_pos e,e,hx,Option.map_some,if_pos rfl]
  ·rw [if_neg e]
   cases yo kvs j with
   | none=>rfl
   | some x=>rw [Option.map_some,if_neg e]
 ·rw [if_neg a]
  refine Xe k j y kvs ?_
  rw [wE] at a
  cases q:yo kvs k with
  | none=>rfl
  | some x=>rw [q] at a;exact (a rfl).elim
theorem wF (kvs:List (κ × V)) (k:κ) (v:V):(yJ kvs k v).length≤kvs.length + 1:=by
 unfold yJ
 split
 ·rw [List.length_map];lia
 ·rw [List.length_append,List.length_cons,List.length_nil];lia
theorem Z8 {kvs:List (κ × V)} {k:κ} (v:V) (h:yo kvs k=none):yJ kvs k v=kvs ++ [(k,v)]:=by
 unfold yJ
 rw [wE,h]
 exact if_neg (by decide)
theorem RelO.isSome_eq {o:Option V} {u:Option Value} (r:RelO o u):o.isSome=u.isSome:=by
 cases o with
 | none=>cases u with
  | none=>rfl
  | some _=>exact (show False from r).elim
 | some _=>cases u with
  | none=>exact (show False from r).elim
  | some _=>rfl
theorem RelO.getD {o:Option V} {u:Option Value} {d:V} {d':Value} (r:RelO o u) (rd:RelV d d'):RelV (o.getD d) (u.getD d'):=by
 cases o with
 | none=>cases u with
  | none=>exact rd
  | some _=>exact (show False from r).elim
 | some _=>cases u with
  | none=>exact (show False from r).elim
  | some _=>exact r
theorem KV.val {kvs:List (κ × V)} {vs:List (κ × Value)} (r:KV kvs vs) (k:κ):RelO (yo kvs k) (valueAt vs k):=by
 unfold KV at r
 induction r with
 | nil=>exact True.intro
 | @cons p q ps qs h t ih =>
  obtain ⟨h1,h2⟩:=h
  by_cases e:p.1=k
  ·have e':q.1=k:=h1.symm.trans e
   have b:valueAt (q :: qs) k=some q.2:=by simp [valueAt,List.find?_cons,e']
   rw [y6 e,b];exact h2
  ·have e':¬ q.1=k:=fun z=>e (h1.trans z)
   have b:valueAt (q :: qs) k=valueAt qs k:=by simp [valueAt,List.find?_cons,e']
   rw [y7 e,b];exact ih
theorem KV.any {kvs:List (κ × V)} {vs:List (κ × Value)} (r:KV kvs vs) (k:κ):(kvs.any fun kv=>decide (kv.1=k))=vs.any fun kv=>decide (kv.1=k):=by
 unfold KV at r
 induction r with
 | nil=>rfl
 | cons h t ih=>rw [List.any_cons,List.any_cons,ih,h.1]
theorem KV.repl {kvs:List (κ × V)} {vs:List (κ × Value)} (r:KV kvs vs) (k:κ) {y:V} {u:Value} (ry:RelV y u) :
  KV (kvs.map fun kv=>if kv.1=k then (kv.1,y) else kv) (vs.map fun kv=>if kv.1=k then (kv.1,u) else kv):=by
 unfold KV at r ⊢
 induction r with
 | nil=>exact .nil
 | @cons p q ps qs h t ih =>
  rw [List.map_cons,List.map_cons]
  refine .cons ?_ ih
  obtain ⟨h1,h2⟩:=h
  by_cases e:p.1=k
  ·rw [if_pos e,if_pos (h1.symm.trans e)];exact ⟨h1,ry⟩
  ·rw [if_neg e,if_neg (fun z=>e (h1.trans z))];exact ⟨h1,h2⟩
theorem KV.put {kvs:List (κ × V)} {vs:List (κ × Value)} (r:KV kvs vs) (k:κ) {y:V} {u:Value} (ry:RelV y u):KV (yJ kvs k y) (stored vs k u):=by
 unfold yJ stored
 rw [r.any k]
 by_cases e:(vs.any fun kv=>decide (kv.1=k))=true
 ·rw [if_pos e,if_pos e];exact r.repl k ry
 ·rw [if_neg e,if_neg e];exact Paired.snoc r ⟨rfl,ry⟩
theorem KV.length {kvs:List (κ × V)} {vs:List (κ × Value)} (r:KV kvs vs):kvs.length=vs.length:=Paired.length r
end
theorem Z9 {P:Program} {w:World} {k:Key} {u:Value} (r:RelV (kV k) u):(yw P w).is k u=true:=by
 cases k with
 | inl i=>obtain ⟨t,e⟩:=(show ∃ t,u=Value.int i t from r);subst e;exact Wq P w i t
 | inr x=>obtain ⟨t,e⟩:=(show ∃ t,u=Value.str x t from r);subst e;exact Wr P w x t
theorem qX {P:Program} {w:World}:∀ {ks:List Key} {us:List Value},Vals (ks.map kV) us→ItemsAre (yw P w) ks us
 | [],_,r=>by rw [List.map_nil] at r;cases r;exact .nil
 | k :: ks,_,r=>by
  rw [List.map_cons] at r
  cases r with
  | cons h t=>exact .cons (Z9 h) (qX t)
abbrev KT (H:Hp):List (List Key × V)→List (List Key × Addr × Value)→Prop:=Paired fun p q=>p.1=q.1∧H q.2.1=some (.tup (p.1.map kV))∧RelV p.2 q.2.2
theorem KT.val {H:Hp} {kvs:List (List Key × V)} {xs:List (List Key × Addr × Value)} (r:KT H kvs xs) (k:List Key):RelO (yo kvs k) ((atKey xs k).map (·.2)):=by
 induction r with
 | nil=>exact True.intro
 | @cons p q ps qs h t ih =>
  obtain ⟨h1,_,h2⟩:=h
  by_cases e:p.1=k
  ·have e':q.1=k:=h1.symm.trans e
   have b:atKey (q :: qs) k=some q.2:=by simp [atKey,List.find?_cons,e']
   rw [y6 e,b];exact h2
  ·have e':¬ q.1=k:=fun z=>e (h1.trans z)
   have b:atKey (q :: qs) k=atKey qs k:=by simp [atKey,List.find?_cons,e']
   rw [y7 e,b];exact ih
theorem KT.repl {H:Hp} {kvs:List (List Key × V)} {xs:List (List Key × Addr × Value)} (r:KT H kvs xs) (k:List Key) {y:V} {u:Value} (ry:RelV y u) :
  KT H (kvs.map fun kv=>if kv.1=k then (kv.1,y) else kv) (xs.map (putAt k u)):=by
 induction r with
 | nil=>exact .nil
 | @cons p q ps qs h t ih =>
  rw [List.map_cons,List.map_cons]
  refine .cons ?_ ih
  obtain ⟨h1,h2,h3⟩:=h
  unfold putAt
  by_cases e:p.1=k
  ·rw [if_pos e,if_pos (h1.symm.trans e)];exact ⟨h1,h2,ry⟩
  ·rw [if_neg e,if_neg (fun z=>e (h1.trans z))];exact ⟨h1,h2,h3⟩
theorem KT.put {H:Hp} {kvs:List (List Key × V)} {xs:List (List Key × Addr × Value)} (r:KT H kvs xs) (k:List Key) {b:Addr} {y:V} {u:Value} (hb:H b=some (.tup (k.map kV))) (ry:RelV y u) :
  KT H (yJ kvs k y) (storedH xs k b u):=by
 have e:(kvs.any fun kv=>decide (kv.1=k))=(atKey xs k).isSome:=by
  rw [wE,(r.val k).isSome_eq,Option.isSome_map]
 unfold yJ storedH
 rw [e]
 by_cases q:(atKey xs k).isSome=true
 ·rw [if_pos q,if_pos q];exact r.repl k ry
 ·rw [if_neg q,if_neg q];exact Paired.snoc r ⟨rfl,hb,ry⟩
theorem KT.keeps {H H':Hp} {kvs:List (List Key × V)} {xs:List (List Key × Addr × Value)} (r:KT H kvs xs) (ht:∀ b ys,H b=some (.tup ys)→H' b=some (.tup ys)):KT H' kvs xs :=
 Paired.mapP r fun _ _ z=>⟨z.1,ht _ _ z.2.1,z.2.2⟩
section
variable {P:Program} {w:World} {H:Hp} {h:Heap} {a:Addr}
theorem zaU {u:HO} (ok:HOk P w H h) (e:Rd H a u):ObjOk P w H h a u:=e.ok ok
theorem Ya {kvs:List (Key × V)} (ok:HOk P w H h) (e:Rd H a (.dK kvs)):kvs.length≤sizeLine∧(a == sysModules)=false∧∃ vs,KV kvs vs∧h.DictOf (yw P w) a vs :=
 show ObjOk P w H h a (.dK kvs) from zaU ok e
theorem zaV {kvs:List (Key × V)} (ok:HOk P w H h) (e:H a=some (.dK kvs)):kvs.length≤sizeLine∧(a == sysModules)=false∧∃ vs,KV kvs vs∧h.DictOf (yw P w) a vs:=Ya ok (.inl e)
theorem qY {ks:List Key} (ok:HOk P w H h) (e:H a=some (.tup (ks.map kV))):(tupleKind (yw P w)).is h ks a:=by
 obtain ⟨_,its,r,o,h1,h2,n,h3⟩:=(show ObjOk P w H h a (.tup (ks.map kV)) from ok a _ e)
 exact ⟨o,its.toArray,n,h1,h2,h3,by simpa using qX r⟩
theorem Yb {kvs:List (List Key × V)} (ok:HOk P w H h) (e:Rd H a (.dT kvs)):kvs.length≤sizeLine∧(a == sysModules)=false ∧
  ∃ xs,KT H kvs xs∧h.DictOfH (tupleKind (yw P w)) a xs:=by
 obtain ⟨z,y,xs,r,o,es,ep,h1,h2,h3,h4,h5⟩:=(show ObjOk P w H h a (.dT kvs) from zaU ok e)
 refine ⟨z,y,xs,r,o,es,ep,h1,h2,h3,h4,fun x hx=>?_,h5⟩
 have all:∀ {l:List (List Key × V)} {m:List (List Key × Addr × Value)},KT H l m→∀ x∈m,(tupleKind (yw P w)).is h x.1 x.2.1:=by
  intro l m q
  induction q with
  | nil=>intro x hx;exact nomatch hx
  | @cons p q ps qs hq t ih =>
   intro x hx
   rcases List.mem_cons.mp hx with e | hx
   ·subst e
    exact qY ok (by rw [← hq.1];exact hq.2.1)
   ·exact ih x hx
 exact all r x hx
theorem zbJ {kvs:List (List Key × V)} (ok:HOk P w H h) (e:H a=some (.dT kvs)):kvs.length≤sizeLine∧(a == sysModules)=false ∧
  ∃ xs,KT H kvs xs∧h.DictOfH (tupleKind (yw P w)) a xs:=Yb ok (.inl e)
end
def DGet (H:Hp) (a:Addr) (y:V) (r:Option V):Prop :=
 (∃ kvs k,Rd H a (.dK kvs)∧y=kV k∧r=yo kvs k)∨∃ kvs k b,Rd H a (.dT kvs)∧y=.ref b∧H b=some (.tup (k.map kV))∧r=yo kvs k
def DPut (H:Hp) (a:Addr) (y v:V) (H':Hp):Prop :=
 (∃ kvs k,H a=some (.dK kvs)∧y=kV k∧kvs.length < sizeLine∧H'=upd H a (.dK (yJ kvs k v))) ∨
 ∃ kvs k b,H a=some (.dT kvs)∧y=.ref b∧H b=some (.tup (k.map kV))∧kvs.length < sizeLine∧H'=upd H a (.dT (yJ kvs k v))
theorem DGet.k {H:Hp} {a:Addr} {kvs:List (Key × V)} {k:Key} (e:H a=some (.dK kvs)):DGet H a (kV k) (yo kvs k):=.inl ⟨kvs,k,.inl e,rfl,rfl⟩
theorem DPut.k {H:Hp} {a:Addr} {kvs:List (Key × V)} {k:Key} {v:V} (e:H a=some (.dK kvs)) (hl:kvs.length < sizeLine):DPut H a (kV k) v (upd H a (.dK (yJ kvs k v))):=.inl ⟨kvs,k,e,rfl,hl,rfl⟩
theorem DPut.t {H:Hp} {a b:Addr} {kvs:List (List Key × V)} {k:List Key} {v:V} (e:H a=some (.dT kvs)) (eb:H b=some (.tup (k.map kV))) (hl:kvs.length < sizeLine) :
  DPut H a (.ref b) v (upd H a (.dT (yJ kvs k v))):=.inr ⟨kvs,k,b,e,rfl,eb,hl,rfl⟩
section
variable {X:Cx} {pins:List (Addr × Obj)} {σ:St} {H:Hp} {s:Shared} {a:Addr} {y v:V} {u r:Value} {o:Option V} {A:Around} {E:Value→Shared→Prop}
theorem Inv.big (I:Inv X pins σ H s):sysModules < s.heap.objs.size:=by
 have h:mainGlobals < s.heap.objs.size:=(I.mod.glob.keeps I.bk).lt
 exact Nat.lt_trans (by decide) h
theorem JV {Q:Value→Shared→Prop} (hu:A.units + 1 < cLine) (I:Inv X pins σ H s) (g:DGet H a y (some v)) (ry:RelV y u) (h:∀ w' s',Inv X pins σ H s'→RelV v w'→Q w' s') :
  wpAny (model X.prog X.w) A (getItem (.ref a) u) Q E s:=by
 rcases g with ⟨kvs,k,e,ey,l⟩ | ⟨kvs,k,b,e,ey,eb,l⟩
 ·subst ey
  obtain ⟨z,hd,vs,rel,dd⟩:=Ya I.hok e
  obtain ⟨w',hw,rw'⟩:=RelO.some_of (v:=v) (o:=valueAt vs k) (by rw [l];exact rel.val k)
  exact wpAny_getItem_of (Z9 ry) dd.mapOf hw (h w' _ (I.tok _) rw')
 ·subst ey
  cases (show u=Value.ref b from ry)
  obtain ⟨z,hd,xs,rel,dd⟩:=Yb I.hok e
  obtain ⟨w',hw,rw'⟩:=RelO.some_of (v:=v) (o:=(atKey xs k).map (·.2)) (by rw [l];exact rel.val k)
  obtain ⟨p,hp,hp2⟩:=Option.map_eq_some_iff.mp hw
  refine wpAny_getItem_heap (tupleKind_room_in1 hu) (qY I.hok eb) dd hp ?_
  rw [hp2]
  exact h w' _ (I.tok _) rw'
theorem zca {Q:Value→Shared→Prop} (hu:A.units + 1 < cLine) (I:Inv X pins σ H s) (g:DGet H a y o) (ry:RelV y u) (h:∀ s',Inv X pins σ H s'→Q (.bool o.isSome) s') :
  wpAny (model X.prog X.w) A (compareOp .In u (.ref a)) Q E s:=by
 rcases g with ⟨kvs,k,e,ey,l⟩ | ⟨kvs,k,b,e,ey,eb,l⟩
 ·subst ey
  obtain ⟨z,hd,vs,rel,dd⟩:=Ya I.hok e
  refine wpAny_in_of (Z9 ry) hd dd.mapOf ?_
  rw [← (rel.val k).isSome_eq,← l]
  exact h _ (I.tok _)
 ·subst ey
  cases (show u=Value.ref b from ry)
  obtain ⟨z,hd,xs,rel,dd⟩:=Yb I.hok e
  refine wpAny_in_heap (tupleKind_room_in1 hu) (qY I.hok eb) hd dd ?_
  have q:=(rel.val k).isSome_eq
  rw [Option.isSome_map] at q
  rw [← q,← l]
  exact h _ (I.tok _)
theorem Q3 {Q:Value→Shared→Prop} (hu:A.units + 1 < cLine) (I:Inv X pins σ H s) (g:DGet H a y o) (ry:RelV y u) (h:∀ s',Inv X pins σ H s'→Q (.bool (!o.isSome)) s') :
  wpAny (model X.prog X.w) A (compareOp .NotIn u (.ref a)) Q E s:=by
 rcases g with ⟨kvs,k,e,ey,l⟩ | ⟨kvs,k,b,e,ey,eb,l⟩
 ·subst ey
  obtain ⟨z,hd,vs,rel,dd⟩:=Ya I.hok e
  refine wpAny_notIn_of (Z9 ry) hd dd.mapOf ?_
  rw [← (rel.val k).isSome_eq,← l]
  exact h _ (I.tok _)
 ·subst ey
  cases (show u=Value.ref b from ry)
  obtain ⟨z,hd,xs,rel,dd⟩:=Yb I.hok e
  refine wpAny_notIn_heap (tupleKind_room_in1 hu) (qY I.hok eb) hd dd ?_
  have q:=(rel.val k).isSome_eq
  rw [Option.isSome_map] at q
  rw [← q,← l]
  exact h _ (I.tok _)
theorem XN {h':Heap} {t':Nat} {ob:HO} (I:Inv X pins σ H s) (mu:Mut (H a)) (hs:Heap.SameBut a s.heap h') (he:∃ q,h'.get? a=some q) (new:ObjOk X.prog X.w (upd H a ob) h' a ob) :
  Inv X pins σ (upd H a ob) { s with heap:=h',toks:=t' } :=
 I.write (x:=a) (e:=a) mu (.inl rfl) (fun b q hb z=>(hs.2 b hb).trans z) he new
theorem KA {P:Program} {w:World} {H':Hp} {h':Heap} {kvs:List (Key × V)} {vs:List (Key × Value)} (z:kvs.length≤sizeLine) (hd:(a == sysModules)=false) (rel:KV kvs vs) (dd:h'.DictOf (yw P w) a vs) :
  ObjOk P w H' h' a (.dK kvs):=⟨z,hd,vs,rel,dd⟩
theorem JW {H':Hp} {Q:Unit→Shared→Prop} (hu:A.units + 1 < cLine) (I:Inv X pins σ H s) (g:DPut H a y v H') (ry:RelV y u) (rv:RelV v r) (h:∀ s',Inv X pins σ H' s'→Q () s') :
  wpAny (model X.prog X.w) A (setItem (.ref a) u r) Q E s:=by
 rcases g with ⟨kvs,k,e,ey,l,eH⟩ | ⟨kvs,k,b,e,ey,eb,l,eH⟩
 ·subst ey eH
  obtain ⟨z,hd,vs,rel,dd⟩:=zaV I.hok e
  have hz:vs.length≤sizeLine:=by rw [← rel.length];exact z
  have hl:(yJ kvs k v).length≤sizeLine:=by have:=wF kvs k v;lia
  refine wpAny_setItem_pairs (hsz:=hz) (Z9 ry) dd fun h' dd' hs=>h _ ?_
  have he:∃ q,h'.get? a=some q:=let ⟨q,_,_,hq,_⟩:=dd';⟨q,hq⟩
  exact XN I (by rw [e];exact True.intro) hs he (KA hl hd (rel.put k rv) dd')
 ·subst ey eH
  cases (show u=Value.ref b from ry)
  obtain ⟨z,hd,xs,rel,dd⟩:=zbJ I.hok e
  have hz:xs.length≤sizeLine:=by rw [← Paired.length rel];exact z
  have hl:(yJ kvs k v).length≤sizeLine:=by have:=wF kvs k v;lia
  refine wpAny_setItem_heap (hsz:=hz) (tupleKind_room_in1 hu) (qY I.hok eb) dd fun h' dd' hs=>h _ ?_
  obtain ⟨q,es,ep,hq,h2,h3,h4,_,h5⟩:=dd'
  refine XN I (by rw [e];exact True.intro) hs ⟨q,hq⟩ ⟨hl,hd,_,(rel.put k eb rv).keeps fun c ys ec=>?_,q,es,ep,hq,h2,h3,h4,h5⟩
  rw [zk (zS ec e (fun z=>nomatch z))]
  exact ec
end
section
variable {X:Cx} {pins:List (Addr × Obj)} {σ:St} {H:Hp} {s:Shared} {a:Addr} {kvs:List (Key × V)} {k:Key} {u:Value} {A:Around} {E:Value→Shared→Prop}
end
def zbK (i:Expr):Prop:=∀ ov iv,subscripted i false ov iv=operate [ov,iv] (getItem ov iv)
theorem Q4 {prog:Program} {w:World} {A:Around} {E:Value→Shared→Prop} {s:Shared} {env:Env} {value slice:Expr} {pos:Pos} {T id:String} {Q:Value→Shared→Prop}
  (hl:typeLookup (.type T) "__getitem__"=pure (some (.builtin id))) (hs:zbK slice)
  (h:wpAny (model prog w) A (eval value env) (fun o s₁=>wpAny (model prog w) A (eval slice env) (fun i s₂=>s₂.TypeIs o T∧wpAny (model prog w) A (getItem o i) Q E s₂) E s₁) E s) :
  wpAny (model prog w) A (eval (.Subscript value slice pos) env) Q E s:=by
 refine Subscript_ (wpAny_mono h (fun o s₁ h₁=>wpAny_mono h₁ (fun i s₂ h₂=>?_) fun _ _ x=>x) fun _ _ x=>x)
 obtain ⟨hT,h₂⟩:=h₂
 unfold subscriptTail
 refine wpAny_bind ?_
 rw [getitemInPython_of_ne hT.not_modules]
 refine wpAny_bind (wpAny_specialOf hT hl ?_)
 have fin:wpAny (model prog w) A (subscripted slice false o i) (fun r s₃=>wpAny (model prog w) A (letTemporaryGo value o r >>= fun _=>pure r) Q E s₃) E s₂:=by
  rw [hs o i]
  exact wpAny_operating (wpAny_mono h₂ (fun r s₃ h₃=>wpAny_bind (wpAny_letTemporaryGo (wpAny_pure h₃))) fun _ _ x=>x)
 first
  | exact wpAny_pure (wpAny_bind fin)
  | exact wpAny_bind (wpAny_pure (wpAny_bind fin))
  | exact wpAny_bind fin
theorem Ww {X:Cx} {pins:List (Addr × Obj)} {σ:St} {H:Hp} {s:Shared} {a:Addr} {y:V} {o:Option V} (I:Inv X pins σ H s) (g:DGet H a y o):s.TypeIs (.ref a) "dict":=by
 rcases g with ⟨kvs,k,e,_,_⟩ | ⟨kvs,k,b,e,_,_,_⟩
 ·obtain ⟨_,_,vs,_,dd⟩:=Ya I.hok e
  exact dd.typeIs
 ·obtain ⟨_,_,xs,_,dd⟩:=Yb I.hok e
  exact dd.typeIs
def yh (td ty:TE):TE:=fun σ H Q=>td σ H fun x H1=>ty σ H1 fun y H2=>∃ a v,x=.ref a∧DGet H2 a y (some v)∧Q v H2
def yK (td ty tv:TE):TS:=fun D σ H=>tv σ H fun v H1=>td σ H1 fun x H2=>ty σ H2 fun y H3=>∃ a H4,x=.ref a∧DPut H3 a y v H4∧D.nx σ H4
section
variable {X:Cx} {o i e value:Expr} {pos pos' tpos:Pos} {td ty tv:TE}
theorem ya (hu:X.A.units + 1 < cLine) (ho:PE X o td) (hi:PE X i ty) (hs:zbK i):PE X (.Subscript o i pos) (yh td ty):=by
 intro pins s σ H Q I h
 refine Q4 PySem.F.slot_dict_getitem.lookup hs (thn (ho pins s σ H _ I h) fun u s1 ⟨x,H1,I1,rx,q1⟩=>thn (hi pins s1 σ H1 _ I1 q1) fun iv s2 ⟨y,H2,I2,ry,a,v,ex,g,q2⟩=>?_)
 subst ex
 obtain rfl:u=Value.ref a:=rx
 exact ⟨Ww I2 g,JV hu I2 g ry fun w' s3 I3 rw'=>⟨v,H2,I3,rw',q2⟩⟩
theorem xB (hu:X.A.units + 1 < cLine) (ho:PE X o td) (hi:PE X i ty) (hv:PE X value tv) (hs:swapsWith value (some (.Subscript o i pos')) pos.line X.env=pure false) :
  PS X (.Assign [.Subscript o i pos'] value pos) (yK td ty tv):=by
 intro pins s σ H D I h
 refine wpAny_Assign_Subscript (thn (hv pins s σ H _ I h) fun r s1 ⟨v,H1,I1,rv,q1⟩=>thn (ho pins s1 σ H1 _ I1 q1) fun u s2 ⟨x,H2,I2,rx,q2⟩=>thn (hi pins s2 σ H2 _ I2 q2) fun iv s3 ⟨y,H3,I3,ry,a,H4,ex,g,q3⟩=>?_) hs
 subst ex
 obtain rfl:u=Value.ref a:=rx
 exact JW hu I3 g ry rv fun s4 I4=>⟨σ,H4,I4,q3⟩
end
theorem Wx {P:Program} {w:World} {H:Hp} (h:Heap) (hb:sysModules < h.objs.size):ObjOk P w H (h.push { cls:=.type "dict",data:=.dict #[] }) h.objs.size (.dK []) :=
 ⟨Nat.zero_le _,beq_eq_false_iff_ne.mpr (Ne.symm (Nat.ne_of_lt hb)),[],.nil,Heap.DictOf.new h⟩
theorem KB {P:Program} {w:World} {H:Hp} (h:Heap) (hb:sysModules < h.objs.size):ObjOk P w H (h.push { cls:=.type "dict",data:=.dict #[] }) h.objs.size (.dT []) :=
 ⟨Nat.zero_le _,beq_eq_false_iff_ne.mpr (Ne.symm (Nat.ne_of_lt hb)),[],.nil,_,#[],0,Heap.get?_push_size _ rfl,⟨rfl,rfl,rfl⟩,rfl,rfl,List.nodup_nil⟩
def Yc:TE:=fun _ H Q=>∀ p,H p=none→Q (.ref p) (upd H p (.dK []))
def kW:TE:=fun _ H Q=>∀ p,H p=none→Q (.ref p) (upd H p (.dT []))
section
variable {X:Cx} {pos:Pos}
theorem Wy:PE X (.Dict [] [] pos) Yc:=fun pins s σ H Q I h =>
 wpAny_Dict_empty ⟨.ref s.heap.objs.size,_,I.laid (a:=s.heap.objs.size) (o:=.dK []) (t':=s.toks) (fun _ _ q=>Heap.get?_push_of_some _ q) (Nat.le_refl _) (Wx s.heap I.big),rfl,h _ (I.hok.fresh (Nat.le_refl _))⟩
theorem qA:PE X (.Dict [] [] pos) kW:=fun pins s σ H Q I h =>
 wpAny_Dict_empty ⟨.ref s.heap.objs.size,_,I.laid (a:=s.heap.objs.size) (o:=.dT []) (t':=s.toks) (fun _ _ q=>Heap.get?_push_of_some _ q) (Nat.le_refl _) (KB s.heap I.big),rfl,h _ (I.hok.fresh (Nat.le_refl _))⟩
end
def XO:List (TE × TE)→St→Hp→(List (V × V)→Hp→Prop)→Prop
 | [],_,H,Q=>Q [] H
 | (tk,tv) :: r,σ,H,Q=>tk σ H fun x H1=>tv σ H1 fun y H2=>XO r σ H2 fun ps H3=>Q ((x,y) :: ps) H3
abbrev VV:List (V × V)→List (Value × Value)→Prop:=Paired fun p q=>RelV p.1 q.1∧RelV p.2 q.2
def PPs (X:Cx) (pos:Pos) (keys:List (Option Expr)) (values:List Expr) (trs:List (TE × TE)):Prop :=
 ∀ (pins:List (Addr × Obj)) (s:Shared) (σ:St) (H:Hp) (Q:List (V × V)→Hp→Prop),Inv X pins σ H s→XO trs σ H Q →
  wpAny (model X.prog X.w) X.A (evalPairs (pairTrees keys values X.env pos)) (fun vs s'=>∃ ps H',Inv X pins σ H' s'∧VV ps vs∧Q ps H') X.xe s
theorem Q5 {X:Cx} {pos:Pos}:PPs X pos [] [] []:=fun pins s σ H Q I h=>pairTrees_nil_walk ⟨[],H,I,.nil,h⟩
theorem vf {X:Cx} {pos:Pos} {k v:Expr} {ks:List (Option Expr)} {vs:List Expr} {tk tv:TE} {trs:List (TE × TE)} (hk:PE X k tk) (hv:PE X v tv) (hr:PPs X pos ks vs trs) :
  PPs X pos (some k :: ks) (v :: vs) ((tk,tv) :: trs):=fun pins s σ H Q I h =>
 pairTrees_cons_walk (thn (hk pins s σ H _ I h) fun u s1 ⟨x,H1,I1,rx,q1⟩=>thn (hv pins s1 σ H1 _ I1 q1) fun w2 s2 ⟨y,H2,I2,ry,q2⟩ =>
  thn (hr pins s2 σ H2 _ I2 q2) fun ws s3 ⟨ps,H3,I3,rel,q3⟩=>⟨(x,y) :: ps,H3,I3,.cons ⟨rx,ry⟩ rel,q3⟩)
def kX (kvs more:List (Key × V)):List (Key × V):=more.foldl (fun acc kv=>yJ acc kv.1 kv.2) kvs
theorem KV.merge:∀ {more:List (Key × V)} {rs:List (Key × Value)} {kvs:List (Key × V)} {vs:List (Key × Value)},KV more rs→KV kvs vs→KV (kX kvs more) (merged vs rs):=by
 intro more rs kvs vs r
 unfold KV at r
 induction r generalizing kvs vs with
 | nil=>intro q;exact q
 | @cons p q ps qs h t ih =>
  intro r0
  have e:KV (yJ kvs p.1 p.2) (stored vs q.1 q.2):=by
   have:=r0.put p.1 h.2
   rw [← h.1];exact this
  exact ih e
theorem kK:∀ (more kvs:List (Key × V)),(kX kvs more).length≤kvs.length + more.length
 | [],kvs=>by show kvs.length≤kvs.length + 0;lia
 | p :: r,kvs=>by
  have h1:=kK r (yJ kvs p.1 p.2)
  have h2:=wF kvs p.1 p.2
  show (kX (yJ kvs p.1 p.2) r).length≤_
  rw [List.length_cons];lia
theorem Yd {P:Program} {w:World}:∀ {kvs:List (Key × V)} {ws:List (Value × Value)},VV (kvs.map fun kv=>(kV kv.1,kv.2)) ws→∃ rs,Carries (yw P w) ws rs∧KV kvs rs
 | [],_,r=>by rw [List.map_nil] at r;cases r;exact ⟨[],True.intro,.nil⟩
 | p :: kvs,_,r=>by
  rw [List.map_cons] at r
  cases r with
  | @cons a b as bs h t =>
   obtain ⟨rs,c,q⟩:=Yd (P:=P) (w:=w) t
   obtain ⟨b1,b2⟩:=b
   exact ⟨(p.1,b2) :: rs,⟨Z9 h.1,rfl,c⟩,.cons ⟨rfl,h.2⟩ q⟩
def KC (trs:List (TE × TE)):TE:=fun σ H Q=>∀ p,H p=none→XO trs σ (upd H p (.dK [])) fun ps H2=>H2 p=some (.dK [])∧∃ kvs:List (Key × V),ps=kvs.map (fun kv=>(kV kv.1,kv.2))∧kvs.length≤15∧Q (.ref p) (upd H2 p (.dK (kX [] kvs)))
theorem Q6 {X:Cx} {pos:Pos} {keys:List (Option Expr)} {values:List Expr} {trs:List (TE × TE)} (h:PPs X pos keys values trs) (hall:keys.all (·.isSome)=true) (hl:keys.length=values.length) (h0:keys≠[])
  (h15:keys.length≤15):PE X (.Dict keys values pos) (KC trs):=by
 intro pins s σ H Q I q
 have hn:=I.hok.fresh (Nat.le_refl s.heap.objs.size)
 have I1:=I.laid (a:=s.heap.objs.size) (o:=.dK []) (h':=s.heap.push { cls:=.type "dict",data:=.dict #[] }) (t':=s.toks) (fun _ _ q=>Heap.get?_push_of_some _ q) (Nat.le_refl _) (Wx s.heap I.big)
 refine wpAny_Dict_walk (knd:=yw X.prog X.w) hall hl h0 h15 (thn (h pins _ σ _ _ I1 (q _ hn)) fun ws s2 ⟨ps,H2,I2,rel,e,kvs,ep,lk,q2⟩=>?_)
 subst ep
 obtain ⟨rs,c,rk⟩:=Yd (P:=X.prog) (w:=X.w) rel
 obtain ⟨z,hd,vs0,r0,dd⟩:=zaV I2.hok e
 cases r0
 refine ⟨rs,c,dd,fun h' dd' hs=>⟨.ref s.heap.objs.size,_,?_,rfl,q2⟩⟩
 have hz:(kX [] kvs).length≤sizeLine:=by
  have h1:=kK kvs []
  rw [List.length_nil] at h1
  rw [sizeLine_eq];lia
 have he:∃ q,h'.get? s.heap.objs.size=some q:=let ⟨q,_,_,hq,_⟩:=dd';⟨q,hq⟩
 exact XN I2 (by rw [e];exact True.intro) hs he (KA hz hd (rk.merge .nil) dd')
structure M2 (X:Cx) (o:Expr) (m:Str) (apos:Pos) (e f:Expr) (cpos:Pos):Prop where
 base:attributeBase o m X.env (eval o X.env)=eval o X.env
 few:((backTo cpos (starEach [e,f] X.env)).all (fun x=>!x.1) && (backToKw cpos (keywordEach [] X.env)).all (fun x=>x.1.isSome)
  && decide (([e,f]:List Expr).length + ([]:List Keyword).length + (if ([]:List Keyword).isEmpty then 0 else 1) < 30))=true
 line:(apos.endLine == cpos.line)=true
 trees:backTo cpos (starEach [e,f] X.env)=[(false,eval e X.env),(false,eval f X.env)]
def IsD (H:Hp) (a:Addr):Prop:=(∃ kvs,Rd H a (.dK kvs))∨∃ kvs,Rd H a (.dT kvs)
theorem KD {X:Cx} {pins:List (Addr × Obj)} {σ:St} {H:Hp} {s:Shared} {a:Addr} (I:Inv X pins σ H s) (d:IsD H a) :
  s.TypeIs (.ref a) "dict"∧(∀ b,Value.ref a=.ref b→∃ ob,s.heap.get? b=some ob∧ob.dict=none)∧(a == sysModules)=false:=by
 rcases d with ⟨kvs,e⟩ | ⟨kvs,e⟩
 ·obtain ⟨_,hd,vs,_,dd⟩:=Ya I.hok e
  refine ⟨dd.typeIs,fun b q=>?_,hd⟩
  cases q
  obtain ⟨ob,_,_,h1,h2,_⟩:=dd
  exact ⟨ob,h1,h2.2.1⟩
 ·obtain ⟨_,hd,xs,_,dd⟩:=Yb I.hok e
  refine ⟨dd.typeIs,fun b q=>?_,hd⟩
  cases q
  obtain ⟨ob,_,_,h1,h2,_⟩:=dd
  exact ⟨ob,h1,h2.2.1⟩
section
variable {X:Cx} {pins:List (Addr × Obj)} {σ:St} {H:Hp} {s:Shared} {a:Addr} {y d:V} {u r:Value} {o:Option V} {A:Around} {E:Value→Shared→Prop}
theorem zbd {Q:Value→Shared→Prop} (hu:A.units + 1 < cLine) (I:Inv X pins σ H s) (g:DGet H a y o) (ry:RelV y u) (rd:RelV d r) (h:∀ w' s',Inv X pins σ H s'→RelV (o.getD d) w'→Q w' s') :
  wpAny (model X.prog X.w) A (call (.builtin "dict.get") [.ref a,u,r]) Q E s:=by
 rcases g with ⟨kvs,k,e,ey,l⟩ | ⟨kvs,k,b,e,ey,eb,l⟩
 ·subst ey
  obtain ⟨z,hd,vs,rel,dd⟩:=Ya I.hok e
  refine call_meetsIn PySem.F.slot_dict_get dd.typeIs PySem.F.entry_dict_get (PySem.F.args_dict_get_3 _ _ _) (meets_dict_get_default (yw X.prog X.w) a (Z9 ry) hd r) ⟨_,dd.mapOf,h _ _ (I.tok _) ?_⟩
  rw [l]
  exact (rel.val k).getD rd
 ·subst ey
  cases (show u=Value.ref b from ry)
  obtain ⟨z,hd,xs,rel,dd⟩:=Yb I.hok e
  refine call_meetsIn PySem.F.slot_dict_get dd.typeIs PySem.F.entry_dict_get (PySem.F.args_dict_get_3 _ _ _) (meetsH_dict_get_default (tupleKind (yw X.prog X.w)) a b hd r) ⟨tupleKind_room_in1 hu,k,xs,qY I.hok eb,dd,h _ _ (I.tok _) ?_⟩
  rw [l]
  exact (rel.val k).getD rd
end
def xE (td ty tx:TE):TE:=fun σ H Q=>td σ H fun x H1=>∃ a,x=.ref a∧IsD H1 a∧ty σ H1 fun y H2=>tx σ H2 fun z H3=>∃ o,DGet H3 a y o∧Q (o.getD z) H3
def zcb (td ty tx:TE):TE:=fun σ H Q=>td σ H fun x H1=>∃ a,x=.ref a∧IsD H1 a∧ty σ H1 fun y H2=>tx σ H2 fun z H3=>∃ kvs k,H3 a=some (.dK kvs)∧y=kV k ∧
 (∀ v,yo kvs k=some v→Q v (upd H3 a (.dK (Xd kvs k))))∧(yo kvs k=none→Q z H3)
section
variable {X:Cx} {o e f:Expr} {apos cpos:Pos} {td ty tx:TE}
theorem Wz (hu:X.A.units + 1 < cLine) (ho:PE X o td) (he:PE X e ty) (hf:PE X f tx) (m:M2 X o "get" apos e f cpos):PE X (.Call (.Attribute o "get" apos) [e,f] [] cpos) (xE td ty tx):=by
 intro pins s σ H Q I h
 refine wpAny_Call_method m.base m.few m.line PySem.F.plainAttrs_dict PySem.F.slot_dict_get PySem.F.type_dict_get (thn (ho pins s σ H _ I h) fun u s1 ⟨x,H1,I1,rx,a,ex,d,q1⟩=>?_)
 subst ex
 obtain rfl:u=Value.ref a:=rx
 obtain ⟨t1,t2,_⟩:=KD I1 d
 refine ⟨t1,t2,?_⟩
 rw [m.trees]
 refine Calls.callWith_builtin rfl (Calls.evalArgs_plain (Calls.spliced_cons (thn (he pins s1 σ H1 _ I1 q1) fun iv s2 ⟨y,H2,I2,ry,q2⟩ =>
  Calls.spliced_cons (thn (hf pins s2 σ H2 _ I2 q2) fun fv s3 ⟨z,H3,I3,rz,ov,g,q3⟩=>Calls.spliced_nil ?_))))
 exact zbd hu I3 g ry rz fun w' s4 I4 rw'=>⟨_,H3,I4,rw',q3⟩
end
section
variable {X:Cx} {pins:List (Addr × Obj)} {σ:St} {H:Hp} {s:Shared} {a:Addr} {kvs:List (Key × V)} {A:Around} {E:Value→Shared→Prop}
end
section
variable {X:Cx} {pins:List (Addr × Obj)} {σ:St} {H:Hp} {s:Shared} {a:Addr} {y:V} {u:Value} {A:Around} {E:Value→Shared→Prop}
end
end L2
namespace Att
open PySem PySem.W PySem.Calls PyProof.Rows
theorem Zz {P:Params} {h:Heap}:∀ (ns:List Int) (vs:List Value),WellAll P h vs (ns.map WData.int)→IntsAre vs ns:=by
 intro ns
 induction ns with
 | nil =>
  intro vs w
  rw [List.map_nil] at w
  cases w
  exact .nil
 | cons n ns ih =>
  intro vs w
  rw [List.map_cons] at w
  cases w with
  | cons a b =>
   cases a
   exact .cons _ _ (ih _ b)
theorem Xf {l:OpenLaw} {n:Nat} (hn:l.most=some n) {P:Params} {h:Heap} {args:List WData} {vals:List Value}
  (hpre:l.row.toRowW.claim.pre args=true) (hwl:WellAll P h vals args) :
  ∃ a vs ns,vals=[Value.ref a]∧args=[WData.list (ns.map WData.int)]∧h.get? a=some { cls:=.type "list",data:=.seq vs.toArray }∧IntsAre vs ns∧ns.length≤n:=by
 have hsh:WShape.hasAll [] args [.list .int]=true:=(pre_splitW hpre).1
 have hc:l.pre.holds [] { args:=args }=true:=(pre_splitW hpre).2
 obtain ⟨d,r,rfl,h1,h2⟩:=hasAllW_cons hsh
 obtain rfl:=hasAllW_nil h2
 obtain ⟨xs,rfl,h3⟩:=hasW_list h1
 obtain ⟨ns,rfl⟩:=items_int h3
 have hlen:ns.length≤n:=by
  unfold OpenLaw.pre at hc
  have h4:(WTm.not (.lt (.lit (.int (n:Int))) (.len (.arg 0)))).holds [] { args:=[.list (ns.map .int)] }=true:=by
   have h4:=(holds_andW hc).1
   rw [hn] at h4
   exact h4
  have h5:=condW_of h4 (w_not (w_lt w_lit (w_len_list (w_arg rfl))))
  rw [List.length_map] at h5
  refine Nat.le_of_not_lt fun q=>?_
  have q':(n:Int) < ((ns.length:Nat):Int):=by lia
  first
   | (rw [decide_eq_true q'] at h5;exact absurd h5 (by decide))
   | (simp at h5;lia)
 cases hwl with
 | cons w1 w2 =>
  cases w2
  cases w1 with
  | list ho hall=>exact ⟨_,_,ns,rfl,rfl,ho,Zz ns _ hall,hlen⟩
theorem Xg (l:OpenLaw) (args:List WData):l.row.toRowW.claim.post args (.bool true) args=true :=
 postW_of (r:=l.row.toRowW) (X:=(true == true))
  (show WShape.has [] (.bool true) .bool=true by first | rfl | decide | simp [WShape.has,WShape.arms,WShape.armsAll])
  (show (WTm.eq .res (.lit (.bool true))).value [] { args:=args,res:=some (.bool true),after:=args }=some (.bool (true == true)) from w_eq_bool (w_res rfl) w_lit) rfl
theorem attach_call {l:OpenLaw} {n:Nat} {q:Program} {loose:List Str} {XP:(Str→Option Value)→Heap→Prop} {YP:World→Heap→Prop} {d:DefRec}
  (hn:l.most=some n) (hdf:d.params.defaults=[])
  (call:∀ (w:World) (s₀ s₁:Shared) (mg mb:Str→Option Value) (fa:Addr) (o:Obj) (pm cd doc:Value) (a:Addr) (vs:List Value) (ns:List Int),
   Ground q loose [] XP w s₀ mg mb s₁.heap→YP w s₁.heap →
   s₁.heap.get? fa=some o→o.data=.func (docDef d.name d.params d.body d.scope pm cd doc)→s₁.heap.CodeRec cd d.name→mg d.name=some (.ref fa) →
   s₁.heap.get? a=some { cls:=.type "list",data:=.seq vs.toArray }→IntsAre vs ns→ns.length≤n→s₁.gens=#[] →
   codeAny (model l.prog w) callerA (.call (.ref fa) ⟨[.ref a],[]⟩) (fun r s'=>r=.ok (.ret (.bool true))∧OldK s₁.heap s'.heap∧s'.os=s₁.os∧AllBare s'.gens) s₁) :
  WalkO q loose XP YP l.row.toRowW d [] (fun f vs=>PySem.call f vs):=by
 intro w s₀ s₁ mg mb G Y fa o pm cd doc dV kV ho hd hcd hD hmg hg args vals as hpre hlay hrd hwl hlo
 obtain rfl:dV=.none:=Dflts.none hD hdf
 obtain rfl:kV=.none:=Dflts.noKw hD
 obtain ⟨a,vs,ns,rfl,rfl,hobj,hints,hlen⟩:=Xf hn hpre hwl
 refine enter_call (codeAny_mono (call w s₀ s₁ mg mb fa o pm cd doc a vs ns G Y ho (fd_plain hd) hcd hmg hobj hints hlen hg) fun r s' hq=>?_)
 obtain ⟨rfl,h2,h3,h4⟩:=hq
 exact ⟨.inl ⟨.bool true,.bool true,[],rfl,fun _=>rfl,.bool true,Xg l _,fun _=>⟨List.Pairwise.nil,fun _ hm=>(nomatch hm)⟩⟩,h2,h3,h4⟩
section
variable {prog:Program} {w:World} {A:Around} {E:Value→Shared→Prop} {s:Shared} {K:Frag}
def zcc (h:Heap) (L d:Addr):List (Addr × Obj):=(List.range h.objs.size).filterMap fun a=>if a=L∨a=d then none else (h.get? a).map fun o=>(a,o)
end
end Att
namespace L2
open PySem PySem.Spec PyProof.Rows
theorem Xh:∀ {vs:List Value} {ns:List Int},IntsAre vs ns→Vals (ns.map V.int) vs
 | _,_,.nil=>.nil
 | _,_,.cons n t h=>.cons ⟨t,rfl⟩ (Xh h)
def VI (H:Hp):Prop:=∀ b,H b=none∨∃ o xs,H b=some (.frz o (.lst xs))
theorem WA {P:Program} {w:World} {K:W.Frag} {mg mb:Str→Option Value} {CX:CXT} {k:Nat} {fa a:Addr} {fd:FuncData} {x:Str} {sp:Sp} {s₁:Shared} {vs:List Value} {ns:List Int}
  (KX:K.In s₁.heap) (hns:s₁.heap.Ns mainGlobals mg) (hb:s₁.heap.Ns builtinsNs mb) (hbb:∀ x:Str,x≠"__name__"→mb x=bootBuiltins x) (hlim:s₁.heap.NoLimit) (hg:s₁.gens=#[])
  (ha:s₁.heap.get? a=some { cls:=.type "list",data:=.seq vs.toArray }) (hi:IntsAre vs ns) (hl:ns.length≤sizeLine) (hr:Room k callerA)
  (F:∀ base:Heap,K.In base→base.Ns mainGlobals mg→FnOk P w K mg base CX k fa fd [x] sp) (hbind:∀ (s:Shared) (u:Value),BindsTo s fd ⟨[u],[]⟩ [(x,u)])
  (hsp:∀ H:Hp,VI H→SqL K H a (ns.map V.int)→sp [.ref a] H (fun v _=>v=.bl true) fun _ _ _=>False)
  (hCX:∀ H e s',CX [] H s₁ (fun _ _ _=>False) e s'→False) :
  codeAny (model P w) callerA (.call (.ref fa) ⟨[.ref a],[]⟩) (fun r s'=>r=.ok (.ret (.bool true))∧OldK s₁.heap s'.heap∧s'.os=s₁.os∧AllBare s'.gens) s₁:=by
 have rv:=Xh hi
 have lenV:=hi.length
 -- from an abstract heap in which nothing but the script may be tracked
 have core:∀ H:Hp,VI H→SqL K H a (ns.map V.int)→HOk P w H s₁.heap→(∀ b,H b≠none→b=a)→(H a≠none→K.lookup a=none) →
   codeAny (model P w) callerA (.call (.ref fa) ⟨[.ref a],[]⟩) (fun r s'=>r=.ok (.ret (.bool true))∧OldK s₁.heap s'.heap∧s'.os=s₁.os∧AllBare s'.gens) s₁:=by
  intro H hO hS hok hA hK
  have base_of:∀ {b:Addr} {o:Obj},s₁.heap.get? b=some o→H b=none→(XA s₁.heap H).get? b=some o:=fun e n=>Kg e n
  have noA:∀ {b:Addr} {o:Obj} {es:Array DictEntry} {ep:Nat},s₁.heap.get? b=some o→o.data=.dict es ep→H b=none:=fun {b o es ep} e d=>by
   cases q:H b with
   | none=>rfl
   | some u =>
    have e':b=a:=hA b (by rw [q];simp)
    subst e'
    rw [ha] at e;cases e
    have d':Data.seq vs.toArray _=Data.dict es ep:=d
    cases d'
  have nsK:∀ {b:Addr} {m:Str→Option Value},s₁.heap.Ns b m→(XA s₁.heap H).Ns b m:=fun {b m} ⟨o,es,ep,e,d,r⟩=>⟨o,es,ep,base_of e (noA e d),d,r⟩
  have hKb:K.In (XA s₁.heap H):=fun b o e=>base_of (KX b o e) (by
   cases q:H b with
   | none=>rfl
   | some u =>
    have e':b=a:=hA b (by rw [q];simp)
    subst e'
    rw [hK (by rw [q];simp)] at e;cases e)
  have hM:Mod K mg (XA s₁.heap H):=⟨hKb,nsK hns,⟨mb,nsK hb,hbb⟩,let ⟨mc,h1,h2⟩:=hlim;⟨mc,nsK h1,h2⟩⟩
  have e0:Env0 P w K mg (XA s₁.heap H) callerA [] s₁ H:=⟨rfl,hM,fun b o e=>QR e,Nat.le_of_eq (JN _ _),trivial,fun b hb=>absurd (show b∈([]:List Addr) from hb) (by simp),hok,.of_eq hg⟩
  refine codeAny_mono ((F _ hKb (nsK hns)).run callerA [] s₁ H ⟨[.ref a],[]⟩ [.ref a] [.ref a] _ _ hr e0 (hbind s₁ (.ref a)) (.cons rfl .nil) (hsp H hO hS)) fun r s' h=>?_
  cases r with
  | error e=>exact (hCX H e s' h).elim
  | ok fl =>
   cases fl with
   | next=>exact False.elim h
   | brk=>exact False.elim h
   | cont=>exact False.elim h
   | ret u =>
    obtain ⟨v,H',os,bare,un,hok',r',q⟩:=h
    have q':v=.bl true:=q
    subst q'
    obtain rfl:u=Value.bool true:=r'
    refine ⟨rfl,OldK.of_keep fun b o e=>?_,os,bare⟩
    cases q:H b with
    | none=>exact un.keep b o e q (by intro z;exact absurd (show b∈([]:List Addr) from z) (by simp)) (by simp)
    | some u =>
     rcases hO b with z | ⟨ob,xs,z⟩
     ·rw [q] at z;cases z
     ·have z2:=un.frzs b ob _ z
      obtain ⟨e1,_⟩:=hok b _ z
      obtain ⟨e2,_⟩:=hok' b _ z2
      rw [e] at e1;cases e1
      exact e2
 cases hk:K.lookup a with
 | some o =>
  -- the script is one of the module's own objects
  have e:=KX a o hk
  rw [ha] at e
  cases e
  refine core (fun _=>none) (fun _=>.inl rfl) (.inr ⟨_,vs.toArray,_,hk,rfl,rfl,rfl,by rw [List.size_toArray,lenV];exact hl,by simpa using rv⟩) (fun b u z=>by have z':(none:Option HO)=some u:=z;cases z') (fun b z=>absurd rfl z) fun z=>absurd rfl z
 | none =>
  refine core (fun b=>if b=a then some (.frz { cls:=.type "list",data:=.seq vs.toArray } (.lst (ns.map V.int))) else none) (fun b=>?_) (.inl (.inr ⟨{ cls:=.type "list",data:=.seq vs.toArray },if_pos rfl⟩)) (fun b u z=>?_) (fun b z=>?_) fun _=>hk
  ·by_cases hb:b=a
   ·exact .inr ⟨_,_,if_pos hb⟩
   ·exact .inl (if_neg hb)
  ·by_cases hb:b=a
   ·have z':=(if_pos hb).symm.trans z
    cases z'
    subst hb
    exact ⟨ha,by rw [List.length_map];exact hl,vs,_,rv,ha⟩
   ·have z':=(if_neg hb).symm.trans z
    cases z'
  ·by_cases hb:b=a
   ·exact hb
   ·exact absurd (if_neg hb) z
end L2
namespace L2
open PySem PySem.Spec PyProof.Rows
abbrev KOf {K:W.Frag} {h:Heap} (_:K.In h):W.Frag:=K
theorem Ji {l:W.OpenLaw} {n k:Nat} {q:Program} {loose:List Str} {XP:(Str→Option Value)→Heap→Prop} {YP:World→Heap→Prop} {d:DefRec} {K:Params→W.Frag} {CX:World→CXT} {sp:World→Sp} {x:Str}
  (hn:l.most=some n) (hn2:n≤sizeLine) (hdf:d.params.defaults=[]) (hr:Room k callerA)
  (hY:∀ (w:World) (h:Heap),YP w h→(K w.params).In h)
  (F:∀ (w:World) (mg:Str→Option Value) (fa:Addr) (h:Heap),(K w.params).In h→h.Ns mainGlobals mg→mg d.name=some (.ref fa) →
   ∃ fd:FuncData,(∀ (s:Shared) (u:Value),BindsTo s fd ⟨[u],[]⟩ [(x,u)]) ∧
    ∀ base:Heap,(K w.params).In base→base.Ns mainGlobals mg→FnOk l.prog w (K w.params) mg base (CX w) k fa fd [x] (sp w))
  (hsp:∀ (w:World) (H:Hp) (a:Addr) (ns:List Int),ns.length≤n→VI H→SqL (K w.params) H a (ns.map V.int)→sp w [.ref a] H (fun v _=>v=.bl true) fun _ _ _=>False)
  (hCX:∀ (w:World) (H:Hp) (s:Shared) (e:Value) (s':Shared),CX w [] H s (fun _ _ _=>False) e s'→False) :
  W.WalkO q loose XP YP l.row.toRowW d [] (fun f vs=>PySem.call f vs):=by
 refine Att.attach_call hn hdf fun w s₀ s₁ mg mb fa o pm cd doc a vs ns G Y ho hd hcd hmg hobj hints hlen hg=>?_
 have KX:=hY w _ Y
 obtain ⟨fd,hb,hF⟩:=F w mg fa _ KX G.T.g hmg
 exact WA KX G.T.g G.T.b G.T.builtins G.T.nolimit hg hobj hints (Nat.le_trans hlen hn2) hr hF hb (fun H hO hS=>hsp w H a ns hlen hO hS) fun H e s'=>hCX w H s₁ e s'
theorem zbL {l:W.OpenLaw} {n k:Nat} {q:Program} {loose:List Str} {XP:(Str→Option Value)→Heap→Prop} {YP:World→Heap→Prop} {d:DefRec} {K:Params→W.Frag} {CX:CXT} {sp:W.Frag→Sp} {x:Str}
  (hn:l.most=some n) (hn2:n≤sizeLine) (hdf:d.params.defaults=[]) (hr:Room k callerA)
  (hY:∀ (w:World) (h:Heap),YP w h→(K w.params).In h)
  (F:∀ (w:World) (mg:Str→Option Value) (fa:Addr) (h:Heap),(K w.params).In h→h.Ns mainGlobals mg→mg d.name=some (.ref fa) →
   ∃ fd:FuncData,(∀ (s:Shared) (u:Value),BindsTo s fd ⟨[u],[]⟩ [(x,u)]) ∧
    ∀ base:Heap,(K w.params).In base→base.Ns mainGlobals mg→FnOk l.prog w (K w.params) mg base CX k fa fd [x] (sp (K w.params)))
  (hsp:∀ (K:W.Frag) (H:Hp) (a:Addr) (ns:List Int),ns.length≤n→VI H→SqL K H a (ns.map V.int)→sp K [.ref a] H (fun v _=>v=.bl true) fun _ _ _=>False)
  (hCX:∀ (H:Hp) (s:Shared) (e:Value) (s':Shared),CX [] H s (fun _ _ _=>False) e s'→False) :
  W.WalkO q loose XP YP l.row.toRowW d [] (fun f vs=>PySem.call f vs) :=
 Ji (K:=K) (CX:=fun _=>CX) (sp:=fun w=>sp (K w.params)) hn hn2 hdf hr hY F (fun w H a ns h1 h2 h3=>hsp (K w.params) H a ns h1 h2 h3) fun _ H s e s'=>hCX H s e s'
end L2
namespace L2
open PySem PySem.Spec PyProof.Rows
def wC (s:Stmt) (j:Nat):Stmt:=match s with
 | .ClassDef _ _ _ body _ _ _ _ _ _ _=>body.getD j (.Pass ⟨0,0,0,0⟩)
 | _=>.Pass ⟨0,0,0,0⟩
def zK (s:Stmt):Arguments:=match s with
 | .FunctionDef _ a _ _ _ _ _ _ _ _=>a
 | _=>{ posonlyargs:=[],args:=[],vararg:=none,kwonlyargs:=[],kw_defaults:=[],kwarg:=none,defaults:=[] }
def zH (s:Stmt):List Stmt:=match s with
 | .FunctionDef _ _ b _ _ _ _ _ _ _=>b
 | _=>[]
def zj (s:Stmt):Scope:=match s with
 | .FunctionDef _ _ _ _ _ _ sc _ _ _=>sc
 | _=>{ kind:=.function,names:=[],isGenerator:=false,isCoroutine:=false }
abbrev E0:XK:=fun _ _ _=>False
structure Fun (K:W.Frag) (x qual:Str) (st:Stmt) (f:Addr) (fd:FuncData):Prop where
 ex:∃ (oc:Value) (od:Option Addr) (kV doc pm:Value) (an:Option Addr) (cdv ct:Value) (osl:Array (Option Value)),
  fd=W.fnOf x qual (zK st) (zH st) (zj st) .none kV doc pm an cdv ct∧K.lookup f=some ⟨oc,od,.func fd,osl⟩∧W.codeIn K cdv qual=true
 kp:W.keepIn K (.ref f)=true
section
variable {P:Program} {w:World} {K:W.Frag} {mg:Str→Option Value} {base:Heap}
theorem Fun.binds {x qual:Str} {st:Stmt} {f:Addr} {fd:FuncData} {ps:List Str} (F:Fun K x qual st f fd)
  (h:∀ (kV doc pm:Value) (an:Option Addr) (cdv ct:Value) (us:List Value),us.length=ps.length→bindArgs (W.fnOf x qual (zK st) (zH st) (zj st) .none kV doc pm an cdv ct) ⟨us,[]⟩=pure (ps.zip us)):Binds K fd ps []:=by
 obtain ⟨oc,od,kV,doc,pm,an,cdv,ct,osl,rfl,lk,hcd⟩:=F.ex
 exact .all (h kV doc pm an cdv ct)
theorem z7 {x qual:Str} {st:Stmt} {f:Addr} {oc:Value} {od an:Option Addr} {osl:Array (Option Value)} {kV doc pm cdv ct:Value} (l:K.lookup f=some ⟨oc,od,.func (W.fnOf x qual (zK st) (zH st) (zj st) .none kV doc pm an cdv ct),osl⟩)
  (c:W.codeIn K cdv qual=true) (k:W.keepIn K (.ref f)=true):Fun K x qual st f (W.fnOf x qual (zK st) (zH st) (zj st) .none kV doc pm an cdv ct):=⟨⟨oc,od,kV,doc,pm,an,cdv,ct,osl,rfl,l,c⟩,k⟩
end
theorem z8 {A:Around} {k:Nat} (hr:Room k A):A.units + 1 < cLine:=Nat.lt_of_le_of_lt (Nat.add_le_add_left (by decide:1≤64) _) hr.units
section
variable {X:Cx}
theorem pv (i:Nat) {x:Str} {pos:Pos} (hN:X.N[i]?=some x:=by rfl) (hv:Vis X.env.scope x:=by first | exact Or.inl rfl | exact Or.inr (Or.inl rfl) | exact Or.inr (Or.inr rfl)) (hd:(x == ("__debug__":Str))=false:=by decide)
  (hcd:(x == ("__classdict__":Str))=false:=by decide):PE X (.Name x pos) (zc i):=za7 hN hv hd hcd
end
theorem yQ {c A B:Prop} [Decidable c] (h1:c→A) (h2:¬ c→B):if c then A else B:=by
 by_cases h:c
 ·rw [if_pos h]
  exact h1 h
 ·rw [if_neg h]
  exact h2 h
def Same (H H':Hp):Prop:=∀ b o,H b=some o→H' b=some o
theorem Same.refl (H:Hp):Same H H:=fun _ _ h=>h
theorem Same.trans {H H1 H2:Hp} (a:Same H H1) (b:Same H1 H2):Same H H2:=fun c o h=>b c o (a c o h)
end L2
namespace L2
open PySem PySem.Spec PyProof.Rows
section
variable {X:Cx}
end
section
variable {κ:Type} [DecidableEq κ]
theorem KG {kvs:List (κ × V)} {k:κ} (h:yo kvs k=none):¬ k∈kvs.map (·.1):=by
 intro m
 obtain ⟨p,hp,e⟩:=List.mem_map.mp m
 have q:(kvs.any fun kv=>decide (kv.1=k))=true:=List.any_eq_true.mpr ⟨p,hp,decide_eq_true e⟩
 rw [wE,h] at q
 exact absurd q (by simp)
theorem Jj {kvs:List (κ × V)} {k:κ} {v:V} (h:yo kvs k=some v):k∈kvs.map (·.1):=by
 have q:(kvs.any fun kv=>decide (kv.1=k))=true:=by
  rw [wE,h]
  all_goals rfl
 obtain ⟨p,hp,e⟩:=List.any_eq_true.mp q
 exact List.mem_map.mpr ⟨p,hp,of_decide_eq_true e⟩
theorem Jk:∀ {l:List κ} {k:κ},l.Nodup→¬ k∈l→(l ++ [k]).Nodup
 | [],k,_,_=>by simp
 | a :: r,k,h,hk=>by
  obtain ⟨h1,h2⟩:=List.nodup_cons.mp h
  show (a :: (r ++ [k])).Nodup
  refine List.nodup_cons.mpr ⟨fun m=>?_,Jk h2 fun m=>hk (List.mem_cons.mpr (Or.inr m))⟩
  rcases List.mem_append.mp m with q | q
  ·exact h1 q
  ·exact hk (List.mem_cons.mpr (Or.inl (List.mem_singleton.mp q).symm))
theorem Q7 {kvs:List (κ × V)} {k:κ} (v:V) (hn:(kvs.map (·.1)).Nodup) (h:yo kvs k=none):((yJ kvs k v).map (·.1)).Nodup:=by
 rw [Z8 v h,List.map_append]
 exact Jk hn (KG h)
theorem JX {p:κ × V} {r:List (κ × V)} {k:κ} (e:¬ p.1=k):Xd (p :: r) k=p :: Xd r k:=by
 unfold Xd
 rw [List.filter_cons,if_pos (by simp [e])]
theorem KH:∀ {kvs:List (κ × V)} {k:κ},¬ k∈kvs.map (·.1)→Xd kvs k=kvs
 | [],_,_=>rfl
 | p :: r,k,h=>by
  have h':¬ k∈r.map (·.1):=fun m=>by
   obtain ⟨q,hq,e⟩:=List.mem_map.mp m
   exact h (List.mem_map.mpr ⟨q,List.mem_cons.mpr (Or.inr hq),e⟩)
  rw [JX fun e=>h (List.mem_map.mpr ⟨p,List.mem_cons.mpr (Or.inl rfl),e⟩),KH h']
end
end L2
set_option Elab.async false
set_option linter.all false
set_option maxRecDepth 100000
set_option maxHeartbeats 4000000
namespace L2
open PySem PySem.Spec PyProof.Rows
def Cx.comp (X:Cx) (scope:Scope) (cl:List (Str × Addr)) (C:Addr) (N:List Str) (fp:List Addr) (s:Shared) (H:Hp):Cx :=
 { X with env:=compEnvC scope cl C X.env,N:=N,s₀:=s,H₀:=H,outer:=X.stack,ex:=fp,fn:=fun _=>false,pn:=[],xe:=fun _ _=>False }
structure kx (X:Cx) (scope:Scope) (cl:List (Str × Addr)) (ix:List Nat):Prop where
 clos:closureFor scope X.env=pure cl
 nocell:∀ y∈scope.names,y.2≠.cell
 kind:scope.kind=.function
 names:∀ y∈scope.names,y.2=.local→scope.names.lookup y.1=some .local
 sub:∀ y c,cl.lookup y=some c→X.env.cells.lookup y=some c
 has:∀ y,((relabel scope X.env).names.lookup y=some .cell∨(relabel scope X.env).names.lookup y=some .free)→∃ c,cl.lookup y=some c
 cap:∀ i∈ix,∃ y,X.N[i]?=some y∧(X.env.kindOf y=some .cell∨X.env.kindOf y=some .free)∧((relabel scope X.env).names.lookup y=some .cell∨(relabel scope X.env).names.lookup y=some .free)
def Ye (scope:Scope) (env:Env):List (Str × Addr):=scope.names.foldl (fun cs y=>if y.2 == .free then (y.1,(env.cells.lookup y.1).getD 0) :: cs else cs) []
def KI (osc:Scope) (N:List Str) (sc:Scope) (ix:List Nat):Bool :=
 sc.kind == .function && sc.names.all (fun y=>y.2 != .cell && (y.2 != .local || sc.names.lookup y.1 == some .local) && (y.2 != .free || osc.names.lookup y.1 == some .cell || osc.names.lookup y.1 == some .free)) &&
  ix.all fun i=>match N[i]? with
   | some y=>sc.names.lookup y == some .free
   | none=>false
theorem wG {l:List (Str × NameKind)} {y:Str} {k:NameKind} (h:l.lookup y=some k):(y,k)∈l:=PySem.mem_of_lookup h
theorem ji {env:Env}:∀ {names:List (Str × NameKind)} {x:Str} {k:NameKind},(names.map fun (n,k)=>if (k == NameKind.free && env.scope.kind == .function && env.kindOf n == some .cell) then (n,NameKind.cell) else (n,k)).lookup x=some k →
  ∃ k',names.lookup x=some k'∧(k'=.free∨k'=k)
 | [],_,_,h=>by simp at h
 | (n,k') :: r,x,k,h=>by
  have ih:=@ji env r x k
  rw [List.map_cons] at h
  cases hx:x == n with
  | true =>
   by_cases hc:(k' == NameKind.free && env.scope.kind == .function && env.kindOf n == some .cell)=true
   ·have e:k'=.free:=by
     have:=(Bool.and_eq_true _ _ ▸ (Bool.and_eq_true _ _ ▸ hc).1).1
     simpa using this
    exact ⟨k',by simp [List.lookup_cons,hx],.inl e⟩
   ·simp only [if_neg hc,List.lookup_cons,hx] at h
    exact ⟨k',by simp [List.lookup_cons,hx],.inr (Option.some.inj h)⟩
  | false =>
   have h':(r.map fun (n,k)=>if (k == NameKind.free && env.scope.kind == .function && env.kindOf n == some .cell) then (n,NameKind.cell) else (n,k)).lookup x=some k:=by
    by_cases hc:(k' == NameKind.free && env.scope.kind == .function && env.kindOf n == some .cell)=true
    ·simp only [if_pos hc,List.lookup_cons,hx] at h;exact h
    ·simp only [if_neg hc,List.lookup_cons,hx] at h;exact h
   obtain ⟨q,e,r'⟩:=ih h'
   exact ⟨q,by simp only [List.lookup_cons,hx];exact e,r'⟩
theorem qB {env:Env}:∀ {names:List (Str × NameKind)} {x:Str},names.lookup x=some .free →
  ((names.map fun (n,k)=>if (k == NameKind.free && env.scope.kind == .function && env.kindOf n == some .cell) then (n,NameKind.cell) else (n,k)).lookup x=some .cell ∨
   (names.map fun (n,k)=>if (k == NameKind.free && env.scope.kind == .function && env.kindOf n == some .cell) then (n,NameKind.cell) else (n,k)).lookup x=some .free)
 | [],_,h=>by simp at h
 | (n,k') :: r,x,h=>by
  have ih:=@qB env r x
  rw [List.map_cons]
  cases hx:x == n with
  | true =>
   simp only [List.lookup_cons,hx] at h
   cases h
   by_cases hc:(NameKind.free == NameKind.free && env.scope.kind == .function && env.kindOf n == some .cell)=true
   ·left;simp only [if_pos hc,List.lookup_cons,hx]
   ·right;simp only [if_neg hc,List.lookup_cons,hx]
  | false =>
   simp only [List.lookup_cons,hx] at h
   by_cases hc:(k' == NameKind.free && env.scope.kind == .function && env.kindOf n == some .cell)=true
   ·simp only [if_pos hc,List.lookup_cons,hx];exact ih h
   ·simp only [if_neg hc,List.lookup_cons,hx];exact ih h
theorem Xi {env:Env}:∀ (l:List (Str × NameKind)) (cs:List (Str × Addr)),(∀ y∈l,y.2=.free→∃ c,env.cells.lookup y.1=some c) →
  (∀ y c,cs.lookup y=some c→env.cells.lookup y=some c)→∀ y c,(l.foldl (fun cs y=>if y.2 == .free then (y.1,(env.cells.lookup y.1).getD 0) :: cs else cs) cs).lookup y=some c→env.cells.lookup y=some c
 | [],_,_,h,y,c,e=>h y c e
 | z :: r,cs,hl,h,y,c,e=>by
  rw [List.foldl_cons] at e
  refine Xi r _ (fun y hy=>hl y (List.mem_cons_of_mem _ hy)) (fun y' c' e'=>?_) y c e
  by_cases hz:z.2=.free
  ·obtain ⟨c0,h0⟩:=hl z List.mem_cons_self hz
   have hb:(z.2 == NameKind.free)=true:=by simpa using hz
   rw [if_pos hb,h0,List.lookup_cons] at e'
   cases hq:y' == z.1 with
   | true =>
    rw [hq] at e'
    have e2:y'=z.1:=by simpa using hq
    cases e'
    rw [e2];exact h0
   | false=>rw [hq] at e';exact h _ _ e'
  ·have hb:(z.2 == NameKind.free)=false:=by simpa using hz
   rw [hb] at e'
   exact h _ _ e'
theorem WB {env:Env}:∀ (l:List (Str × NameKind)) (cs:List (Str × Addr)) (y:Str),((∃ c,cs.lookup y=some c)∨(y,NameKind.free)∈l) →
  ∃ c,(l.foldl (fun cs y=>if y.2 == .free then (y.1,(env.cells.lookup y.1).getD 0) :: cs else cs) cs).lookup y=some c
 | [],_,_,h=>h.elim id fun z=>nomatch z
 | z :: r,cs,y,h=>by
  rw [List.foldl_cons]
  refine WB r _ y ?_
  rcases h with ⟨c,h⟩ | h
  ·left
   by_cases hz:(z.2 == NameKind.free)=true
   ·rw [if_pos hz,List.lookup_cons]
    cases y == z.1 with
    | true=>exact ⟨_,rfl⟩
    | false=>exact ⟨c,h⟩
   ·rw [if_neg hz];exact ⟨c,h⟩
  ·rcases List.mem_cons.mp h with h | h
   ·left
    subst h
    rw [if_pos (by rfl),List.lookup_cons]
    simp
   ·exact .inr h
theorem XQ {env:Env}:∀ (l:List (Str × NameKind)) (cs:List (Str × Addr)),(∀ y∈l,y.2=.free→∃ c,env.cells.lookup y.1=some c) →
  forIn (m:=Sem) l cs (fun x r=>match x with | (name,kind)=>if (kind == NameKind.free)=true then do let c ← cellOf env name;pure (ForInStep.yield ((name,c) :: r)) else pure (ForInStep.yield r)) =
   pure (l.foldl (fun cs y=>if y.2 == .free then (y.1,(env.cells.lookup y.1).getD 0) :: cs else cs) cs)
 | [],_,_=>rfl
 | (n,k) :: r,cs,h=>by
  rw [List.forIn_cons,List.foldl_cons]
  by_cases hz:(k == NameKind.free)=true
  ·obtain ⟨c,hc⟩:=h (n,k) List.mem_cons_self (by simpa using hz)
   have e:cellOf env n=pure c:=by unfold cellOf;rw [hc]
   simp only [hz,if_true,e,pure_bind]
   rw [XQ r _ fun y hy=>h y (List.mem_cons_of_mem _ hy)]
   simp only [hc,Option.getD_some]
  ·simp only [hz,if_false,pure_bind]
   exact XQ r _ fun y hy=>h y (List.mem_cons_of_mem _ hy)
theorem XR {X:Cx} {osc scope:Scope} {N:List Str} {ix:List Nat} (ok:X.Ok) (h:KI osc N scope ix=true) (hs:X.env.scope=osc) (hN:X.N=N):kx X scope (Ye scope X.env) ix:=by
 subst hs hN
 unfold KI at h
 rw [Bool.and_eq_true,Bool.and_eq_true,List.all_eq_true,List.all_eq_true] at h
 obtain ⟨⟨h1,h2⟩,h3⟩:=h
 have p:∀ y∈scope.names,y.2≠.cell∧(y.2=.local→scope.names.lookup y.1=some .local)∧(y.2=.free→X.env.kindOf y.1=some .cell∨X.env.kindOf y.1=some .free):=fun y hy=>by
  have q:=h2 y hy
  rw [Bool.and_eq_true,Bool.and_eq_true] at q
  obtain ⟨⟨q1,q2⟩,q3⟩:=q
  refine ⟨by simpa using q1,fun e=>?_,fun e=>?_⟩
  ·rw [e] at q2;simpa using q2
  ·rw [e] at q3
   have q3':X.env.scope.names.lookup y.1=some .cell∨X.env.scope.names.lookup y.1=some .free:=by simpa using q3
   exact q3'
 have f:∀ y∈scope.names,y.2=.free→∃ c,X.env.cells.lookup y.1=some c:=fun y hy e=>ok.has y.1 ((p y hy).2.2 e)
 refine ⟨?_,fun y hy=>(p y hy).1,by simpa using h1,fun y hy=>(p y hy).2.1,fun y c e=>Xi scope.names [] f (fun _ _ z=>by simp at z) y c e,fun y hy=>?_,fun i hi=>?_⟩
 ·have e:=XQ scope.names [] f
  unfold closureFor Ye
  refine Eq.trans (congrArg (fun m=>m >>= fun s=>(pure s:Sem (List (Str × Addr)))) e) ?_
  rw [pure_bind]
 ·refine WB scope.names [] y (.inr ?_)
  rcases hy with hy | hy
  ·obtain ⟨k',e,z | z⟩:=ji hy
   ·subst z;exact wG e
   ·subst z;exact absurd rfl (p _ (wG e)).1
  ·obtain ⟨k',e,z | z⟩:=ji hy
   ·subst z;exact wG e
   ·subst z;exact wG e
 ·have q:=h3 i hi
  cases hy:X.N[i]? with
  | none=>rw [hy] at q;cases q
  | some y =>
   rw [hy] at q
   have q':scope.names.lookup y=some .free:=by simpa using q
   exact ⟨y,rfl,(p _ (wG q')).2.2 rfl,qB q'⟩
def Yf (ix:List Nat) (σ:St):St:=ix.map fun i=>(σ[i]?).getD none
def jK (ix:List Nat) (N:List Str):List Str:=ix.map fun i=>(N[i]?).getD ""
section
variable {X:Cx} {pins:List (Addr × Obj)} {σ:St} {H:Hp} {s:Shared} {scope:Scope} {cl:List (Str × Addr)} {ix:List Nat} {fp:List Addr} {C:Addr} {xs:List Str}
theorem Inv.compOk (I:Inv X pins σ H s) (S:kx X scope cl ix) (hC:C=s.heap.objs.size) (hf:∀ b∈fp,qq X pins H b) (hl:∀ b∈fp,b < s.heap.objs.size) (N':List Str) :
  (X.comp scope cl C N' fp s H).Ok where
 mod:=I.ok.mod
 kind:=S.kind
 glob:=I.ok.glob
 blt:=I.ok.blt
 above:=Nat.le_of_eq hC.symm
 inj:=fun x y c h1 h2=>I.ok.inj x y c (S.sub x c h1) (S.sub y c h2)
 has:=fun x hx=>S.has x hx
 cab:=fun x c h1 _=>nomatch h1
 hd:=I.ok.hd
 frames:=I.ok.frames
 stk:=.inl rfl
 exf:=fun b hb=>⟨fun z=>absurd (hl b hb) (by rw [z];show ¬ C < _;rw [hC];exact Nat.lt_irrefl _),fun x c h=>(hf b hb).2.2.2.2.1 x c (S.sub x c h)⟩
 bs:=I.bs
 bsz:=Nat.le_trans I.ok.bsz I.sz
 noex:=fun b o e hb=>by
  rcases (hf b hb).2.2.2.1 with z | z
  ·exact I.ok.noex b o e z
  ·exact absurd (Nat.lt_of_lt_of_le (Heap.lt_size e) (Nat.le_trans I.ok.bsz z)) (Nat.lt_irrefl _)
 exfs:=fun b hb z=>by
  rcases List.mem_cons.mp (I.stkSub b z) with e | e
  ·exact (hf b hb).2.1 e
  ·exact (hf b hb).2.2.1 e
 funs:=I.stack
 frf:=I.stkFree
theorem Inv.comp {h₁:Heap} {m₁:Str→Option Value} {t':Nat} (I:Inv X pins σ H s) (S:kx X scope cl ix) (hC:C=s.heap.objs.size) (hf:∀ b∈fp,qq X pins H b) (hl:∀ b∈fp,b < s.heap.objs.size)
  (hn:h₁.Ns C m₁) (hk:∀ b o,s.heap.get? b=some o→h₁.get? b=some o) :
  Inv (X.comp scope cl C (xs ++ jK ix X.N) fp s H) [] (List.replicate xs.length none ++ Yf ix σ) H { s with heap:=h₁,toks:=t' } where
 ok:=I.compOk S hC hf hl _
 os:=rfl
 bare:=I.bare
 base:=Un.kept hk
 loc:=by
  refine ⟨m₁,hn,fun i y v e1 e2 e3=>?_⟩
  by_cases hi:i < xs.length
  ·rw [List.getElem?_append_left (by simpa using hi),List.getElem?_replicate,if_pos hi] at e2
   cases e2
  ·have e1':(xs ++ jK ix X.N)[i]?=some y:=e1
   rw [List.getElem?_append_right (by lia)] at e1'
   rw [List.getElem?_append_right (by rw [List.length_replicate];lia),List.length_replicate] at e2
   generalize i - xs.length=j at e1' e2
   unfold jK at e1'
   unfold Yf at e2
   rw [List.getElem?_map] at e1' e2
   cases hj:ix[j]? with
   | none=>rw [hj] at e1';cases e1'
   | some k =>
    rw [hj] at e1' e2
    obtain ⟨y',c1,c2,c3⟩:=S.cap k (List.mem_of_getElem? hj)
    have ey:y'=y:=by
     have q:(X.N[k]?).getD ""=y:=Option.some.inj e1'
     rw [c1] at q
     exact q
    subst ey
    have ev:σ[k]?=some (some v):=by
     have q:(σ[k]?).getD none=some v:=Option.some.inj e2
     cases hs:σ[k]? with
     | none=>rw [hs] at q;cases q
     | some o=>rw [hs] at q;exact congrArg some q
    obtain ⟨m,hm,hv⟩:=I.loc
    obtain ⟨u,r,l⟩:=hv k y' v c1 ev (c2.elim (fun z=>.inr (.inl z)) fun z=>.inr (.inr z))
    refine ⟨u,r,.inr ⟨c3,?_⟩⟩
    rcases l with ⟨l1,_⟩ | ⟨_,c,lc,⟨o,ho,hd⟩⟩
    ·rcases c2 with z | z <;> (rw [l1] at z;cases z)
    ·obtain ⟨c',hc'⟩:=S.has y' c3
     have e:=S.sub _ _ hc'
     rw [lc] at e
     cases e
     exact ⟨c,hc',o,hk _ _ ho,hd⟩
 cell:=fun x c e=>by
  obtain ⟨v,o,ho,hd⟩:=I.cell x c (S.sub x c e)
  exact ⟨v,o,hk _ _ ho,hd⟩
 free:=I.hok.fresh (Nat.le_of_eq hC.symm)
 freeC:=fun x c e=>I.freeC x c (S.sub x c e)
 pin:=fun p hp=>absurd (show p∈([]:List (Addr × Obj)) from hp) (by simp)
 hok:=I.hok.kept hk
 len:=by
  show (List.replicate xs.length none ++ Yf ix σ).length=(xs ++ jK ix X.N).length
  rw [List.length_append,List.length_append,List.length_replicate,Yf,jK,List.length_map,List.length_map]
theorem Inv.uncomp {s':Shared} {σ':St} {H':Hp} {N':List Str} {h':Heap} (I:Inv X pins σ H s) (hC:C=s.heap.objs.size) (hf:∀ b∈fp,qq X pins H b)
  (J:Inv (X.comp scope cl C N' fp s H) [] σ' H' s') (hb:Heap.SameBut C s'.heap h'):Inv X pins σ H' { s' with heap:=h' }:=by
 have lt:∀ b o,s.heap.get? b=some o→b≠C:=fun b o e=>by
  rw [hC];exact Nat.ne_of_lt (Heap.lt_size e)
 have B:Un (frs X.stack) fp H H' s.heap s'.heap:=J.base
 refine I.call' (s':={ s' with heap:=h' }) (ch:=fp) J.os ?_ ?_ J.bare ?_
 ·exact ⟨fun b o e n h1 h2=>(hb.2 b (lt b o e)).trans (B.keep b o e n h1 h2),fun b o e n h1 h2=>by
   obtain ⟨sl,q⟩:=B.slot b o e n h1 h2
   exact ⟨sl,(hb.2 b (lt b o e)).trans q⟩,B.free,fun b o e h1=>by
   obtain ⟨o',q⟩:=B.there b o e h1
   exact ⟨o',(hb.2 b (lt b o e)).trans q⟩,B.tups,B.frzs,B.tbls⟩
 ·intro b o e
  refine (J.hok b o e).stay (fun c u hc q=>(hb.2 c ?_).trans q) (fun _ q=>q) fun _ _ q=>q
  have hC0:H' C=none:=J.free
  rintro rfl
  rcases hc with rfl | hc
  ·rw [hC0] at e;cases e
  ·rw [hC0] at hc;cases hc
 ·intro b hb'
  obtain ⟨f0,f1,f2,f3,f4,f5⟩:=hf b hb'
  exact ⟨f3,f1,f4,f5⟩
end
def PTs (X:Cx) (ifs:List Expr) (t:TT):Prop :=
 ∀ (pins:List (Addr × Obj)) (s:Shared) (σ:St) (H:Hp) (Q:Bool→Hp→Prop),Inv X pins σ H s→t σ H Q →
  wpAny (model X.prog X.w) X.A (forIn ifs true fun c r=>if r=true then do let ok ← isTrue c X.env (eval c X.env);pure (ForInStep.yield ok) else pure (ForInStep.yield r)) (TP X pins σ Q) X.xe s
def WC:TT:=fun _ H Q=>Q true H
theorem Q8 {X:Cx}:PTs X [] WC:=fun _ _ _ H _ I h=>wpAny_tests_nil ⟨H,I,h⟩
section
variable {prog:Program} {w:World} {A:Around} {R:Result→Shared→Prop} {s:Shared}
theorem XS {elt target iter:Expr} {ifs:List Expr} {scope:Scope} {pos:Pos} {it acc:Value} {env:Env} (W:Nat→Shared→Prop) {EE:Value→Shared→Prop}
  (hE:∀ e s',EE e s'→notedBy (model prog w) A env (fun e s'=>R (.error e) s') e s')
  (turn:∀ n s,W n s→wpAny (model prog w) A (pyNext it) (fun r s₁=>match r with
   | none=>R (.ok .next) s₁
   | some v=>wpAny (model prog w) A (letOwnedTupleGo target it v) (fun _ t₁=>wpAny (model prog w) A (assign target env v) (fun _ s₂ =>
     wpAny (model prog w) A (forIn ifs true fun c r=>if r=true then do let ok ← isTrue c env (eval c env);pure (ForInStep.yield ok) else pure (ForInStep.yield r)) (fun ok s₃ =>
      if ok=true then wpAny (model prog w) A (eval elt env) (fun x s₄=>wpAny (model prog w) A (call (.builtin "list.append") [acc,x]) (fun _ s₅=>∃ m,m < n∧W m s₅) EE s₄) EE s₃
      else ∃ m,m < n∧W m s₃) EE s₂) EE t₁) EE s₁) EE s)
  (n:Nat) (h:W n s):codeAny (model prog w) A (.compLoop (.ListComp elt [⟨target,iter,ifs,0⟩] scope pos) 0 it acc env) R s:=by
 refine codeAny_loop rfl W (fun n s hW=>?_) n h
 show wpAny _ A ((compTurn (.ListComp elt [⟨target,iter,ifs,0⟩] scope pos) 0 it acc env).onRaise (fun x=>do noteFrame x env;theTreesLotGoes x)) _ _ s
 refine wpAny_noted (wpAny_mono ?_ (fun _ _ q=>q) hE)
 rw [compTurn_list]
 refine wpAny_bind (wpAny_standAt (wpAny_bind (thn (turn n s hW) fun r s₁ h₁=>?_)))
 cases r with
 | none=>exact wpAny_pure h₁
 | some v =>
  refine wpAny_bind (thn h₁ fun _ t₁ k₁=>?_)
  refine wpAny_bind (thn k₁ fun _ s₂ h₂=>wpAny_bind (thn h₂ fun ok s₃ h₃=>?_))
  cases ok with
  | false=>exact wpAny_pure ⟨rfl,h₃⟩
  | true=>exact wpAny_bind (wpAny_bind (thn h₃ fun x s₄ h₄=>wpAny_bind (thn h₄ fun _ s₅ h₅=>wpAny_pure (wpAny_pure ⟨rfl,h₅⟩))))
end
def qC (wi:TI) (g:TG) (tt:TT) (te:TE) (k:Nat) (ix:List Nat):TE:=fun σ H Q=>wi σ H fun J H1=>∀ D,H1 D=none →
 ∃ W:Nat→Nat→List V→St→Hp→Prop,(∃ m,W 0 m [] (List.replicate k none ++ Yf ix σ) (upd H1 D (.lst [])))∧∀ i m ys τ H,W i m ys τ H→H D=some (.lst ys) ∧
  ((J.stop i H∧Q (.ref D) H)∨(J.go i H∧ys.length < sizeLine∧∃ N:V→St→Hp→Prop,
   (∀ v τ' H',N v τ' H'→H' D=some (.lst ys)∧∃ m',m' < m∧W (i + 1) m' (ys ++ [v]) τ' (upd H' D (.lst (ys ++ [v]))))∧∃ Nf:St→Hp→Prop,(∀ τ' H',Nf τ' H'→∃ m',m' < m∧W (i + 1) m' ys τ' H') ∧
   ∀ x H',J.yld i H x H'→g x τ H' fun τ2 H2=>tt τ2 H2 fun b H3=>if b=true then te τ2 H3 fun v H4=>N v τ2 H4 else Nf τ2 H3))
section
variable {X:Cx} {elt iter tg:Expr} {ifs:List Expr} {scope:Scope} {pos:Pos} {cl:List (Str × Addr)} {ix:List Nat} {xs:List Str} {wi:TI} {g:TG} {tt:TT} {te:TE}
theorem VJ (S:kx X scope cl ix) (hc:X.calm=true) (hi:PI X tg iter wi)
  (hg:∀ C fp s H,PG (X.comp scope cl C (xs ++ jK ix X.N) fp s H) tg g) (ht:∀ C fp s H,PTs (X.comp scope cl C (xs ++ jK ix X.N) fp s H) ifs tt)
  (he:∀ C fp s H,PE (X.comp scope cl C (xs ++ jK ix X.N) fp s H) elt te)
  {pins:List (Addr × Obj)} {s:Shared} {σ:St} {H:Hp} {Q:VK} (I:Inv X pins σ H s) (h:qC wi g tt te xs.length ix σ H Q) {RR:Value→Addr→Result→Shared→Prop}
  (hR:∀ v u s' C,RelV v u→(∃ H',Q v H'∧(∃ m,s'.heap.Ns C m)∧(∀ h',Heap.SameBut C s'.heap h'→Inv X pins σ H' { s' with heap:=h' })∧qq X pins H' C)→RR u C (.ok .next) s') :
  wpAny (model X.prog X.w) X.A (eval iter X.env) (fun x s₁=>wpAny (model X.prog X.w) X.A (pyIter x) (fun it s₂=>wpAny (model X.prog X.w) X.A (newList []) (fun acc s₃ =>
   wpAny (model X.prog X.w) X.A (newFunctionEnv scope X.env.globals cl [] X.env.qual none .none (some X.env)) (fun cenv s₄ =>
    codeAny (model X.prog X.w) X.A (.compStart (.ListComp elt [⟨tg,iter,ifs,0⟩] scope pos) 0 it acc { cenv with scope:=relabel scope X.env }) (RR acc cenv.locals) s₄) X.xe s₃) X.xe s₂) X.xe s₁) X.xe s:=by
 refine thn (hi pins s σ H _ I h) fun v s1 h1=>thn h1 fun itv s2 h2=>?_
 obtain ⟨it,fp,tn,J,H2,e,I2,T,st2,f2,hW⟩:=h2
 subst e
 refine wpAny_newObj_type (wpAny_newFunctionEnv S.nocell (fun y hy=>nomatch hy) (fun h₁ hns₁ hsb₁=>?_) S.kind)
 dsimp only at hns₁ hsb₁ ⊢
 obtain ⟨W,⟨m0,w0⟩,turn⟩:=hW s2.heap.objs.size I2.fresh
 have I3:=I2.lnew (t':=s2.toks) (ys:=[]) (its:=[]) .nil (Nat.zero_le _)
 have hl3:∀ b∈fp,b < s2.heap.objs.size:=fun b hb=>by
  obtain ⟨o,e,_⟩:=T.obj _ _ st2 b hb
  exact Heap.lt_size e
 generalize hs3:({ s2 with heap:=s2.heap.push { cls:=.type "list",data:=.seq ([]:List Value).toArray },toks:=s2.toks }:Shared)=s3 at I3
 have hs3h:s3.heap=s2.heap.push { cls:=.type "list",data:=.seq ([]:List Value).toArray }:=by rw [← hs3]
 have hsz:s3.heap.objs.size=s2.heap.objs.size + 1:=by rw [hs3h,Heap.size_push]
 have f3:∀ b∈fp,qq X pins (upd H2 s2.heap.objs.size (.lst [])) b:=fun b hb=>by
  obtain ⟨q0,q⟩:=f2 b hb
  exact ⟨by rw [zk (Nat.ne_of_lt (hl3 b hb))];exact q0,q⟩
 have hl3':∀ b∈fp,b < s3.heap.objs.size:=fun b hb=>by rw [hsz];exact Nat.lt_succ_of_lt (hl3 b hb)
 rw [← hs3h] at hns₁ hsb₁ ⊢
 have hk:∀ b o,s3.heap.get? b=some o→h₁.get? b=some o:=fun b o e=>(hsb₁.2 b (Nat.ne_of_lt (Heap.lt_size e))).trans (Heap.get?_push_of_some _ e)
 have hk2:∀ b o,s2.heap.get? b=some o→s3.heap.get? b=some o:=fun b o e=>by rw [hs3h];exact Heap.get?_push_of_some _ e
 have J0:=I3.comp (xs:=xs) (t':=s2.toks) (C:=s3.heap.objs.size) S rfl f3 hl3' hns₁ hk
 have st3:tn 0 h₁:=T.keep _ _ _ st2 fun b _ o e=>hk b o (hk2 b o e)
 have loop:∀ tk,codeAny (model X.prog X.w) X.A (.compLoop (.ListComp elt [⟨tg,iter,ifs,0⟩] scope pos) 0 (.ref it) (.ref s2.heap.objs.size) (compEnvC scope cl s3.heap.objs.size X.env))
   (RR (.ref s2.heap.objs.size) s3.heap.objs.size) { s3 with heap:=h₁,toks:=tk }:=by
  intro tk
  refine XS (EE:=fun _ _=>False) (fun n s'=>∃ i ys τ H',Inv (X.comp scope cl s3.heap.objs.size (xs ++ jK ix X.N) fp s3 (upd H2 s2.heap.objs.size (.lst []))) [] τ H' s'∧tn i s'.heap∧(∀ b∈fp,H' b=none)∧W i n ys τ H')
   (fun _ _ z=>z.elim) ?_ m0 ⟨0,[],_,_,J0.tok tk,st3,fun b hb=>(f3 b hb).1,w0⟩
  rintro n s' ⟨i,ys,τ,H',I',st',fr',w'⟩
  have stat:∀ {H':Hp},(∀ b∈fp,H' b=none)→∀ b∈fp,qq (X.comp scope cl s3.heap.objs.size (xs ++ jK ix X.N) fp s3 (upd H2 s2.heap.objs.size (.lst []))) [] H' b:=fun hn b hb =>
   ⟨hn b hb,(I'.ok.exf b hb).1,I'.ok.exfs b hb,.inl hb,(I'.ok.exf b hb).2,fun p hp=>absurd (show p∈([]:List (Addr × Obj)) from hp) (by simp)⟩
  obtain ⟨hD,⟨stop,q⟩ | ⟨go,hz,N,hN,Nf,hNf,step⟩⟩:=turn i n ys τ H' w'
  ·refine thn (T.done (X.comp scope cl s3.heap.objs.size (xs ++ jK ix X.N) fp s3 (upd H2 s2.heap.objs.size (.lst []))) rfl rfl rfl hc i [] s' τ H' _ I' (stat fr') st' stop) fun r s4 ⟨hr,I4⟩=>?_
   subst hr
   refine hR (.ref s2.heap.objs.size) _ s4 _ rfl ⟨H',q,?_,fun h' hb=>I3.uncomp rfl f3 I4 hb,I3.fpOk (Nat.le_refl _) I4.free⟩
   obtain ⟨m,hn,_⟩:=I4.loc
   exact ⟨m,hn⟩
  ·refine thn (T.item (X.comp scope cl s3.heap.objs.size (xs ++ jK ix X.N) fp s3 (upd H2 s2.heap.objs.size (.lst []))) rfl rfl rfl hc i [] s' τ H' _ I' (stat fr') st' go) fun r s4 ⟨u,hr,h4⟩=>?_
   subst hr
   refine thn h4 fun _ s5 ⟨x,H5,I5,r5,y5,st5,fr5⟩=>?_
   have I5':=I5.pinned (stat fr5) (T.obj _ _ st5)
   refine thn (hg _ _ _ _ _ s5 τ H5 x u _ I5' r5 (step x H5 y5)) fun _ s6 ⟨τ6,H6,I6,q6⟩=>?_
   refine thn (ht _ _ _ _ _ s6 τ6 H6 _ I6 q6) fun ok s7 ⟨H7,I7,q7⟩=>?_
   have back:∀ {s8:Shared} {H8:Hp} {m:Nat} {zs:List V},Inv (X.comp scope cl s3.heap.objs.size (xs ++ jK ix X.N) fp s3 (upd H2 s2.heap.objs.size (.lst []))) ([] ++ Z5 fp s5.heap) τ6 H8 s8→W (i + 1) m zs τ6 H8 →
     ∃ i ys τ H',Inv (X.comp scope cl s3.heap.objs.size (xs ++ jK ix X.N) fp s3 (upd H2 s2.heap.objs.size (.lst []))) [] τ H' s8∧tn i s8.heap∧(∀ b∈fp,H' b=none)∧W i m ys τ H':=fun {s8 H8 m zs} I8 w8=>by
    refine ⟨i + 1,zs,τ6,H8,I8.unpinned,T.keep _ _ _ st5 fun b hb o e=>(I8.pin (b,o) (List.mem_append_right _ (List.mem_append_right _ (je hb e)))).1,fun b hb=>?_,w8⟩
    obtain ⟨o,e,d⟩:=T.obj _ _ st5 b hb
    exact (I8.pin (b,o) (List.mem_append_right _ (List.mem_append_right _ (je hb e)))).2.1
   cases ok with
   | false =>
    rw [if_neg Bool.false_ne_true] at q7 ⊢
    obtain ⟨m',hm,w7⟩:=hNf _ _ q7
    exact ⟨m',hm,back I7 w7⟩
   | true =>
    rw [if_pos rfl] at q7 ⊢
    refine thn (he _ _ _ _ _ s7 τ6 H7 _ I7 q7) fun y s8 ⟨v8,H8,I8,r8,n8⟩=>?_
    obtain ⟨hD8,m',hm,w8⟩:=hN _ _ _ n8
    refine thn (yr _ s8 τ6 H8 (.ref s2.heap.objs.size) [v8] (.ref s2.heap.objs.size) [y] (fun _ Hn=>∃ m,m < n∧W (i + 1) m (ys ++ [v8]) τ6 Hn) I8 rfl (.cons r8 .nil) ⟨_,ys,v8,rfl,rfl,hD8,hz,m',hm,w8⟩) fun _ s9 ⟨_,H9,I9,_,m9,hm9,w9⟩=>?_
    exact ⟨m9,hm9,back I9 w9⟩
 have e3:∀ tk,({ s3 with heap:=h₁,toks:=tk }:Shared)={ s2 with heap:=h₁,toks:=tk }:=fun tk=>by rw [← hs3]
 have loop':∀ tk,codeAny (model X.prog X.w) X.A (.compLoop (.ListComp elt [⟨tg,iter,ifs,0⟩] scope pos) 0 (.ref it) (.ref s2.heap.objs.size) (compEnvC scope cl s3.heap.objs.size X.env))
   (RR (.ref s2.heap.objs.size) s3.heap.objs.size) { s2 with heap:=h₁,toks:=tk }:=fun tk=>by rw [← e3];exact loop tk
 exact codeAny_compStart_list (loop' _) (T.self _ 0 _ _ _ st3 (loop' _))
theorem Q9 {osc:Scope} {N:List Str} (hc:X.calm=true) (hD:KI osc N scope ix=true) (hi:PI X tg iter wi)
  (hg:∀ C fp s H,PG (X.comp scope (Ye scope X.env) C (xs ++ jK ix X.N) fp s H) tg g) (ht:∀ C fp s H,PTs (X.comp scope (Ye scope X.env) C (xs ++ jK ix X.N) fp s H) ifs tt)
  (he:∀ C fp s H,PE (X.comp scope (Ye scope X.env) C (xs ++ jK ix X.N) fp s H) elt te) (hsc:X.env.scope=osc:=by rfl) (hN:X.N=N:=by rfl) (hs:∀ x,foldedSetIterable iter X.env x=pure x:=by intro _;rfl) :
  PE X (.ListComp elt [⟨tg,iter,ifs,0⟩] scope pos) (qC wi g tt te xs.length ix):=by
 intro pins s σ H Q I h
 have S:=XR I.ok hD hsc hN
 rw [eval_ListComp]
 refine wpAny_comprehension_free (use:=none) rfl hs S.clos S.kind S.names (VJ S hc hi hg ht he I h (RR:=fun acc C=>compPost (model X.prog X.w) X.A X.xe none (EP X pins σ Q) acc C) ?_)
 rintro v u s' C r ⟨H',q,⟨m,hn⟩,hI,_⟩
 exact ⟨m,hn,fun h' hb=>⟨v,H',hI h' hb,r,q⟩⟩
end
end L2
namespace L2
open PySem PySem.Spec PyProof.Rows
abbrev kL:R2:=fun x y H Q=>∃ i j,x=.str i∧y=.str j∧i.length + j.length≤sizeLine∧Q (.str (i ++ j)) H
abbrev zcY:R2:=fun x y H Q=>∃ i j,x=.str i∧y=.str j∧Q (.bl (!(Builtin.Str.occurrences j i 0 j.length 1).isEmpty)) H
abbrev zb5:R2:=fun x y H Q=>∃ i j,x=.str i∧y=.str j∧Q (.bl (!(!(Builtin.Str.occurrences j i 0 j.length 1).isEmpty))) H
abbrev KJ:R2:=fun x y H Q=>∃ a b,x=.bl a∧y=.bl b∧Q (.bl (a == b)) H
abbrev qD:R2:=fun x y H Q=>∃ a b,x=.bl a∧y=.bl b∧Q (.bl (a != b)) H
abbrev qZ:R2:=fun x y H Q=>y=.non∧Q (.bl (decide (x=.non))) H
abbrev jA:R2:=fun x y H Q=>y=.non∧Q (.bl (!decide (x=.non))) H
abbrev RC:=List V→Hp→VK→Prop
abbrev yN (K:W.Frag):RC:=fun xs H Q=>∃ x n,xs=[x]∧xS K x H n∧Q (.int n) H
abbrev wX (K:W.Frag):RC:=fun xs H Q=>∃ x c t b,xs=[x,c]∧qv K H x t∧(∃ T,c=.ty T∧W.kitOne K t (.type T)=some b)∧Q (.bl b) H
abbrev zcZ (K:W.Frag):RC:=fun xs H Q=>∃ (a:Addr) (bs:List Bool),xs=[.ref a]∧SqL K H a (bs.map V.bl)∧Q (.bl (bs.all id)) H
abbrev zc0:RC:=fun xs H Q=>∃ i,xs=[.int i]∧Q (.int (if i < 0 then -i else i)) H
abbrev zc1:RC:=fun xs H Q=>∃ i,xs=[.int i]∧i.natAbs.log2 < 1920∧Q (.str (toString i)) H
abbrev RM:=V→List V→Hp→VK→Prop
abbrev Kf:RM:=fun x xs H Q=>∃ a b,x=.str a∧xs=[.str b]∧Q (.bl (0 + b.length≤a.length && Builtin.Str.subAt a b 0)) H
def spP (pre:List V→Hp→Prop) (post:List V→Hp→V→Hp→Prop):Sp:=fun vs H Q _=>pre vs H∧∀ r H',post vs H r H'→Same H H'→Q r H'
abbrev zc2:RC:=fun xs H Q=>∃ (x:Str) (n:Int),xs=[.str x]∧PySem.intText? x=some n∧x.length≤640∧Q (.int n) H
abbrev zbe:RM:=fun x xs H Q=>∃ a:Str,x=.str a∧xs=[]∧(∀ c∈a.cps.toList,c < 128)∧a.length≤sizeLine∧∀ y:Str,y.length=a.length→Q (.str y) H
theorem isV (p:Addr) {H:Hp} {o:HO} (h:H p=none):Same H (upd H p o):=fun b u e=>by rw [zk (zL e h)];exact e
theorem xF:bootBuiltins "len"=some (.builtin "len"):=by decide +kernel
theorem yd:bootBuiltins "isinstance"=some (.builtin "isinstance"):=by decide +kernel
theorem Xj:bootBuiltins "sorted"=some (.builtin "sorted"):=by decide +kernel
theorem q8:bootBuiltins "str"=some (.type "str"):=by decide +kernel
theorem q9:bootBuiltins "int"=some (.type "int"):=by decide +kernel
theorem Jl:bootBuiltins "bool"=some (.type "bool"):=by decide +kernel
theorem ZQ:bootBuiltins "list"=some (.type "list"):=by decide +kernel
theorem Yg:bootBuiltins "tuple"=some (.type "tuple"):=by decide +kernel
section
variable {X:Cx}
def big:Int:=10 ^ 200
def KK (_ j:Int):Prop:=0 < j∧j < big
def CMulB (i j:Int):Prop:=(-big < i∧i < big)∧(-big < j∧j < big)
theorem Yh {j:Int} (h:j.natAbs < 10 ^ 200):j.natAbs.log2 < 700:=by
 by_cases h0:j.natAbs=0
 ·rw [h0];decide
 ·exact (Nat.log2_lt h0).mpr (Nat.lt_of_lt_of_le h (by decide +kernel))
theorem XT {j:Int} (h:-big < j∧j < big):j.natAbs < 10 ^ 200:=by
 have e:big=((10 ^ 200:Nat):Int):=by decide +kernel
 rw [e] at h
 lia
theorem CMulB.ok {i j:Int} (h:CMulB i j):IntMulOk i j:=by
 have b:∀ k:Int,(-big < k∧k < big)→Builtin.Int.intBits k≤2 ^ 20:=fun k hk=>by
  have q:=Yh (XT hk)
  unfold Builtin.Int.intBits
  split <;> lia
 exact .of_bits (b i h.1) (b j h.2)
theorem xV:OpR X (binaryOp .Mult) (rI CMulB fun i j=>.int (i * j)):=opI fun _ _ _ _ _ _ _ hc q=>mul_int q hc.ok
theorem KL:OpR X (binaryOp .FloorDiv) (rI KK fun i j=>.int (i / j)):=opI fun i j _ _ _ _ _ hc q=>by
 have h1:(0:Int) < j:=hc.1
 refine floordiv_int (by lia) ?_ (.inl (PyProof.noPylong_of_log2 (Nat.lt_trans (Yh (XT ⟨by have:=hc.2;lia,hc.2⟩)) (by decide))))
 rw [Int.fdiv_eq_ediv_of_nonneg i (by lia)]
 exact q
theorem KM:OpR X (compareOp .Is) (fun x y H Q=>∃ a b,x=.bl a∧y=.bl b∧Q (.bl (a == b)) H):=by
 intro pins s σ H x y v u Q I rx ry h
 obtain ⟨a,b,rfl,rfl,q⟩:=h
 cases rx
 cases ry
 exact is_bool ⟨.bl (a == b),H,I,rfl,q⟩
theorem WD:OpR X (compareOp .IsNot) (fun x y H Q=>∃ a b,x=.bl a∧y=.bl b∧Q (.bl (a != b)) H):=by
 intro pins s σ H x y v u Q I rx ry h
 obtain ⟨a,b,rfl,rfl,q⟩:=h
 cases rx
 cases ry
 exact isnot_bool ⟨.bl (a != b),H,I,rfl,q⟩
theorem xW:kH X (.builtin "isinstance") (wX X.K):=by
 intro pins s σ H xs us Q I r h
 obtain ⟨x,c,t,b,rfl,ty,⟨T,rfl,e⟩,q⟩:=h
 obtain ⟨u,w',rfl,r1,r2⟩:=zaS r
 cases r2
 exact JS I r1 ty e fun tk=>⟨.bl b,H,I.tok tk,rfl,q⟩
def Its (x:Str):It:=⟨fun i _=>i < x.cps.size,fun i H v H'=>H'=H∧∃ c,x.cps[i]?=some c∧v=.str ⟨#[c]⟩,fun i _=>x.cps.size≤i⟩
def zc3 (tl:TE):TI:=fun σ H R=>tl σ H fun x H1=>∃ z,x=.str z∧R (Its z) H1
def Yi:V→Option Int→Option Int→Hp→VK→Prop:=fun x lo hi H Q=>∃ z,x=.str z∧z.length≤sizeLine∧Q (.str (Txt.slice z lo hi)) H
theorem XU:SlR X Yi:=by
 intro pins s σ H x v vl vu lo hi sl Q I rx hs pl pu h
 obtain ⟨z,rfl,hz,q⟩:=h
 obtain ⟨t,rfl⟩:=rx
 obtain ⟨o,ho,hc,hd⟩:=hs
 refine ⟨"str",_,F.slot_str_getitem.lookup,typeIs_str _ _ _,?_⟩
 obtain ⟨l,e1,e2⟩:∃ l:Option (Int × Tok),vl=partValue l∧lo=l.map (·.1):=by
  cases pl with
  | none=>exact ⟨none,rfl,rfl⟩
  | int i t=>exact ⟨some (i,t),rfl,rfl⟩
 obtain ⟨u,e3,e4⟩:∃ l:Option (Int × Tok),vu=partValue l∧hi=l.map (·.1):=by
  cases pu with
  | none=>exact ⟨none,rfl,rfl⟩
  | int i t=>exact ⟨some (i,t),rfl,rfl⟩
 subst e1 e2 e3 e4
 exact wpAny_getItem_str_slice (l:=l) (u:=u) (st:=none) ⟨o,ho,hc,hd⟩ rfl
  (post_val_or_str ⟨Nat.le_trans (Txt.slice_le z _ _) hz,fun t' k=>⟨.str (Txt.slice z (l.map (·.1)) (u.map (·.1))),H,I.tok k,⟨t',rfl⟩,q⟩⟩)
end
end L2
namespace L2
open PySem PySem.Spec PyProof.Rows
theorem ObjOk.there {P:Program} {w:World} {H:Hp} {h:Heap} {a:Addr} {o:HO} (x:ObjOk P w H h a o):∃ u,h.get? a=some u:=by
 cases o with
 | lst xs=>obtain ⟨_,_,_,_,e⟩:=x;exact ⟨_,e⟩
 | tup xs=>obtain ⟨_,_,_,o,e,_⟩:=x;exact ⟨_,e⟩
 | dK kvs=>obtain ⟨_,_,_,_,o,_,_,e,_⟩:=x;exact ⟨_,e⟩
 | dT kvs=>obtain ⟨_,_,_,_,o,_,_,e,_⟩:=x;exact ⟨_,e⟩
 | set S n=>obtain ⟨o,_,_,_,e,_⟩:=x;exact ⟨_,e⟩
 | ins C dx fs=>obtain ⟨_,_,_,e,_⟩:=x;exact ⟨_,e⟩
 | own y=>exact x
 | xd fs=>obtain ⟨_,⟨o,_,_,e,_⟩,_⟩:=x;exact ⟨_,e⟩
 | rng lo hi=>obtain ⟨_,_,_,e⟩:=x;exact ⟨_,e⟩
 | frz ob u=>obtain ⟨e,_⟩:=x;exact ⟨_,e⟩
 | tbl ps=>exact ⟨_,(show h.get? a=some _ from x)⟩
 | met f y=>exact ⟨_,(show h.get? a=some _ from x)⟩
 | ext φ=>obtain ⟨_,e,_⟩:=x;exact e
def XF (g h:Heap) (H:Hp) (e:Addr) (cls:Value):Prop :=
 ∃ oe vs a0 T oT ts,h.get? e=some oe∧(oe.cls=cls∧vs[0]?=some a0)∧oe.data=.fields vs∧vs[1]?=some (.ref T)∧T≠e∧h.get? T=some oT∧oT.data=.fields ts∧ts[3]?=some .none ∧
  g.get? e=none∧g.get? T=none∧H e=none∧H T=none
def CX1 (P:Program) (w:World):CXT:=fun outer H s E ev s'=>∃ e cls H',ev=.ref e∧s'.os=s.os∧AllBare s'.gens∧Un (frs outer) [] H H' s.heap s'.heap∧HOk P w H' s'.heap∧XF s.heap s'.heap H' e cls∧E cls none H'
theorem v9 {g h:Heap} (k:∀ b o,g.get? b=some o→∃ o',h.get? b=some o') {b:Addr} (e:h.get? b=none):g.get? b=none:=by
 cases q:g.get? b with
 | none=>rfl
 | some o =>
  obtain ⟨o',z⟩:=k b o q
  rw [e] at z;cases z
theorem XF.older {g g' h:Heap} {H:Hp} {e:Addr} {cls:Value} (x:XF g h H e cls) (k:∀ b o,g'.get? b=some o→∃ o',g.get? b=some o'):XF g' h H e cls:=by
 obtain ⟨oe,vs,a0,T,oT,ts,h1,h2,h3,h4,h5,h6,h7,h8,h9,h10,h11,h12⟩:=x
 exact ⟨oe,vs,a0,T,oT,ts,h1,h2,h3,h4,h5,h6,h7,h8,v9 k h9,v9 k h10,h11,h12⟩
section
variable {X:Cx} {pins:List (Addr × Obj)} {σ:St} {H:Hp} {s:Shared}
theorem Inv.stackFields (J:Inv X pins σ H s) {b:Addr} (hb:b∈frs X.stack):∃ o,s.heap.get? b=some o∧∀ vs,o.data≠.fields vs:=(J.stack.mem hb).2
theorem Inv.there0 (hex:X.ex=[]) (J:Inv X pins σ H s):∀ b o,X.s₀.heap.get? b=some o→∃ o',s.heap.get? b=some o':=fun b o e=>J.base.there b o e (by rw [hex];simp)
theorem Inv.behind {h2:Heap} {cs:List Addr} (hex:X.ex=[]) (J:Inv X pins σ H s) (hcs:∀ b∈cs,H b=none∧X.s₀.heap.get? b=none)
  (hB:∀ b o,s.heap.get? b=some o→b ∉ frs X.stack→b ∉ cs→h2.get? b=some o) (hF:∀ b o,s.heap.get? b=some o→b∈frs X.stack→∃ sl,h2.get? b=some { o with slots:=sl }) :
  Un X.fs [] X.H₀ H X.s₀.heap h2∧HOk X.prog X.w H h2:=by
 have B:Un X.fs [] X.H₀ H X.s₀.heap s.heap:=by have:=J.base;rw [hex] at this;exact this
 have nL:∀ b o,X.s₀.heap.get? b=some o→b≠X.env.locals:=fun b o e=>Nat.ne_of_lt (Nat.lt_of_lt_of_le (Heap.lt_size e) J.ok.above)
 have nC:∀ b o,X.s₀.heap.get? b=some o→b ∉ cs:=fun b o e z=>by rw [(hcs b z).2] at e;cases e
 have any:∀ b o,s.heap.get? b=some o→b ∉ cs→∃ sl,h2.get? b=some { o with slots:=sl }:=fun b o e n=>by
  by_cases hb:b∈frs X.stack
  ·exact hF b o e hb
  ·exact ⟨o.slots,hB b o e hb n⟩
 refine ⟨⟨fun b o e n h1 _=>?_,fun b o e n h1 _=>?_,B.free,fun b o e h1=>?_,B.tups,B.frzs,B.tbls⟩,fun b u e=>?_⟩
 ·refine hB b o (B.keep b o e n h1 (by simp)) (fun z=>?_) (nC b o e)
  rcases List.mem_cons.mp (J.stkSub b z) with q | q
  ·exact nL b o e q
  ·exact h1 q
 ·obtain ⟨sl,q⟩:=B.slot b o e n h1 (by simp)
  obtain ⟨sl',q'⟩:=any b _ q (nC b o e)
  exact ⟨sl',q'⟩
 ·obtain ⟨o',q⟩:=B.there b o e (by simp)
  obtain ⟨sl,q'⟩:=any b o' q (nC b o e)
  exact ⟨_,q'⟩
 ·refine (J.hok b u e).stay (fun c v hc q=>?_) (fun _ q=>q) fun _ _ q=>q
  have hn:H c≠none:=by
   rcases hc with rfl | hc
   ·rw [e];simp
   ·rw [hc];simp
  exact hB c v q (fun z=>hn (J.stkFree c z)) fun z=>hn (hcs c z).1
theorem Inv.flown {B h2:Heap} {cs:List Addr} {e:Addr} {cls a0:Value} (hex:X.ex=[]) (J:Inv X pins σ H s) (hcs:∀ b∈cs,H b=none∧X.s₀.heap.get? b=none)
  (hB:∀ b o,s.heap.get? b=some o→b ∉ frs X.stack→b ∉ cs→B.get? b=some o) (hF:∀ b o,s.heap.get? b=some o→b∈frs X.stack→∃ sl,h2.get? b=some { o with slots:=sl })
  (he:H e=none) (he0:X.s₀.heap.get? e=none) (kb:B.StaysIn h2) (tr:h2.TracedW B e cls a0) :
  Un X.fs [] X.H₀ H X.s₀.heap h2∧HOk X.prog X.w H h2∧XF X.s₀.heap h2 H e cls:=by
 have hk:=J.behind (h2:=h2) hex hcs (fun b o q n1 n2=>kb b o (hB b o q n1 n2)) hF
 refine ⟨hk.1,hk.2,?_⟩
 obtain ⟨oe,vs,T,oT,ts,h1,h2',h3,h4,h5,h6,h7,h8,h9⟩:=tr
 have noT:∀ o,s.heap.get? T=some o→T∈cs:=fun o q=>by
  by_cases hb:T∈frs X.stack
  ·obtain ⟨o',q',nf⟩:=J.stackFields hb
   obtain ⟨sl,z⟩:=hF T o' q' hb
   rw [h7] at z
   have z':oT={ o' with slots:=sl }:=Option.some.inj z
   exact absurd (by rw [← h8,z']) (nf ts)
  ·by_cases hc:T∈cs
   ·exact hc
   ·rw [hB T o q hb hc] at h5;cases h5
 refine ⟨oe,vs,a0,T,oT,ts,h1,h2',h3,h4,h6,h7,h8,h9,he0,?_,he,?_⟩
 ·cases q:X.s₀.heap.get? T with
  | none=>rfl
  | some o =>
   obtain ⟨o',q'⟩:=J.there0 hex T o q
   rw [(hcs T (noT o' q')).2] at q;cases q
 ·cases q:H T with
  | none=>rfl
  | some u =>
   obtain ⟨o,z⟩:=(J.hok T u q).there
   rw [(hcs T (noT o z)).1] at q;cases q
theorem JY {h':Heap} {e:Addr} {cls:Value} {vs:List Value} {E:XK} {EE:Value→Shared→Prop} (hst:X.stack=X.env :: X.outer∧X.env.frame=some X.env.locals) (hex:X.ex=[]) (J:Inv X pins σ H s) (hx:Heap.MadeExcOf s.heap h' e cls vs) (hE:E cls none H) :
  wpAny (model X.prog X.w) X.A (leaving X.env (.ref e)) (fun _ s2=>CX1 X.prog X.w X.outer X.H₀ X.s₀ E (.ref e) s2) EE { s with heap:=h' }:=by
 have fr:s.heap.FunFrames (W.hideAll s.heap (frs X.stack)) (X.env :: X.outer):=by
  have q:=W.funFrames_hide (as:=frs X.stack) J.stack fun env he a ha=>List.mem_filterMap.mpr ⟨env,he,ha⟩
  rw [hst.1] at q ⊢
  exact q
 refine wpAny_leaves_madeW (s:={ s with heap:=h' }) (base:=W.hideAll s.heap (frs X.stack)) (h:=s.heap) (by rw [J.ok.frames,hst.1]) hst.2 (fun b o q=>W.of_hideAll _ q) fr hx fun h2 t hfl _ _ hup=>?_
 obtain ⟨f1,f2,f3,f4⟩:=hfl
 have hF:∀ b o,s.heap.get? b=some o→b∈frs X.stack→∃ sl,h2.get? b=some { o with slots:=sl }:=fun b o q hb=>by
  obtain ⟨o',q',nf⟩:=J.stackFields hb
  rw [q] at q';cases q'
  exact hup b o (hx.keeps b o q) nf
 obtain ⟨r1,r2,r3⟩:=J.flown (cs:=[]) hex (fun b z=>nomatch z) (fun b o q n _=>W.hideAll_get _ q n) hF
  (by
   cases q:H e with
   | none=>rfl
   | some u =>
    obtain ⟨o,z⟩:=(J.hok e u q).there
    rw [hx.new] at z;cases z)
  (v9 (J.there0 hex) hx.new) f1 f4
 exact ⟨e,cls,H,rfl,J.os,J.bare,r1,r2,r3,hE⟩
theorem KN {e:Addr} {cls:Value} {E:XK} {EE:Value→Shared→Prop} (hst:X.stack=X.env :: X.outer∧X.env.frame=some X.env.locals) (hex:X.ex=[]) (J:Inv X pins σ H s) (xf:XF X.s₀.heap s.heap H e cls) (hE:E cls none H) :
  wpAny (model X.prog X.w) X.A (leaving X.env (.ref e)) (fun _ s2=>CX1 X.prog X.w X.outer X.H₀ X.s₀ E (.ref e) s2) EE s:=by
 obtain ⟨oe,vs,a0,T,oT,ts,h1,h2,h3,h4,h5,h6,h7,h8,h9,h10,h11,h12⟩:=id xf
 have fr:s.heap.FunFrames (W.hideAll s.heap (frs X.stack ++ [e,T])) (X.env :: X.outer):=by
  have q:=W.funFrames_hide (as:=frs X.stack ++ [e,T]) J.stack fun env he a ha=>List.mem_append_left _ (List.mem_filterMap.mpr ⟨env,he,ha⟩)
  rw [hst.1] at q ⊢
  exact q
 refine wpAny_leaves_onW (base:=W.hideAll s.heap (frs X.stack ++ [e,T])) (a0:=a0) (by rw [J.ok.frames,hst.1]) hst.2
  ⟨fun b o q=>W.of_hideAll _ q,W.hideAll_none _ (List.mem_append_right _ (by simp)),fr,oe,vs,T,oT,ts,h1,h2,h3,h4,W.hideAll_none _ (List.mem_append_right _ (by simp)),h5,h6,h7,h8⟩ fun h2' hfl hup=>?_
 obtain ⟨f1,f2,f3,f4⟩:=hfl
 have hF:∀ b o,s.heap.get? b=some o→b∈frs X.stack→∃ sl,h2'.get? b=some { o with slots:=sl }:=fun b o q hb=>by
  obtain ⟨o',q',nf⟩:=J.stackFields hb
  rw [q] at q';cases q'
  exact hup b o q nf
 obtain ⟨r1,r2,r3⟩:=J.flown (cs:=[e,T]) hex (fun b z=>by
   have z':b=e∨b=T:=by simpa using z
   rcases z' with rfl | rfl
   ·exact ⟨h11,h9⟩
   ·exact ⟨h12,h10⟩) (fun b o q n n2=>W.hideAll_get _ q fun z=>(List.mem_append.mp z).elim n n2) hF h11 h9 f1 f4
 exact ⟨e,cls,H,rfl,J.os,J.bare,r1,r2,r3,hE⟩
end
def KO (X:Cx) (E:XK):Prop:=∀ (pins:List (Addr × Obj)) (σ:St) (H:Hp) (s:Shared) (h':Heap) (e:Addr) (cls:Value) (vs:List Value),Inv X pins σ H s→Heap.MadeExcOf s.heap h' e cls vs→E cls none H→X.xe (.ref e) { s with heap:=h' }
section
variable {P:Program} {w:World} {K:W.Frag} {mg:Str→Option Value} {base:Heap} {N:List Str} {qual:Str} {scope:Scope} {f:Addr} {cd:Value} {A:Around} {outer:List Env} {s₀:Shared} {H₀:Hp} {E:XK}
theorem vg:jJ (CX1 P w) (kB (CX1 P w) P w K mg base N qual scope f cd A outer s₀ H₀ E) E:=by
 intro pins σ H s ev s' I hcx
 obtain ⟨e,cls,H',rfl,os,bare,un,hok,xf,hE⟩:=hcx
 have J:=I.call' (ch:=[]) os un hok bare (fun b z=>nomatch z)
 exact KN (X:=kB (CX1 P w) P w K mg base N qual scope f cd A outer s₀ H₀ E) ⟨rfl,rfl⟩ rfl J (xf.older (I.there0 rfl)) hE
theorem Jm:KO (kB (CX1 P w) P w K mg base N qual scope f cd A outer s₀ H₀ E) E:=by
 intro pins σ H s h' e cls vs I hx hE
 exact JY (X:=kB (CX1 P w) P w K mg base N qual scope f cd A outer s₀ H₀ E) ⟨rfl,rfl⟩ rfl I hx hE
theorem zcd:PassesOwn (model P w) (kB (CX1 P w) P w K mg base N qual scope f cd A outer s₀ H₀ E).A (kB (CX1 P w) P w K mg base N qual scope f cd A outer s₀ H₀ E).env (kB (CX1 P w) P w K mg base N qual scope f cd A outer s₀ H₀ E).xe:=PassesOwn.leaving
end
abbrev WE:List Value:=[.type "ValueError",.type "Exception",.type "BaseException",.type "object"]
abbrev Za:String:="ValueError.__new__"
def Yj (C:Addr) (ta:TA) (E:XK):TS:=fun _ σ H=>ta σ H fun vs H1=>vs.length≤sizeLine∧E (.ref C) none H1
theorem zaa {K:W.Frag} {h:Heap} {C:Addr} {bmB:List Value} {newId:String} (X:K.In h) (q:W.excIn K C bmB newId=true) :
  ∃ bm N nm qn bs hdct sn sub ab col dd k0 k1 k2 k3 k5 mN,h.get? C=some (excClassObj nm qn C N bs bm hdct sn sub ab col dd k0 k1 k2 k3 k5 newId)∧h.Ns N mN∧mN "__init__"=none∧OwnTail h bmB bm:=by
 unfold W.excIn at q
 split at q
 case h_2=>cases q
 rename_i dd cd sl ho
 split at q
 case h_2=>cases q
 rename_i C' bm k0 k1 k2 k3 n k5 hm hs
 rw [Bool.and_eq_true,Bool.and_eq_true,Bool.and_eq_true,Bool.and_eq_true,Bool.and_eq_true] at q
 obtain ⟨⟨⟨⟨⟨q1,q2⟩,q3⟩,q4⟩,q5⟩,q6⟩:=q
 obtain rfl:C'=C:=by simpa using q1
 obtain rfl:n=newId:=by simpa using q2
 obtain ⟨nm,bs,mro,ns,qn,hd,sn,sub,ab,col,del⟩:=cd
 have hdel:del=false:=by simpa using q3
 have hm':mro=.ref C' :: bm:=hm
 subst hdel hm'
 have hsl:sl=#[k0,k1,k2,k3,some (.builtin n),k5]:=by
  apply Array.ext'
  exact hs
 subst hsl
 exact ⟨bm,ns,nm,qn,bs,hd,sn,sub,ab,col,dd,k0,k1,k2,k3,k5,_,X _ _ ho,.of_isNs (W.isNs_of_in X q5),W.nsMap_none_of_in X q5 (by simpa using q6),W.tail_of_in X q4⟩
section
variable {X:Cx} {x:Str} {C:Addr} {np cpos pos:Pos} {e₀:Expr} {rest:List Expr} {ta:TA} {E:XK}
theorem WF (hc:X.calm=true) (q:W.excIn X.K C WE Za=true) (hr:KO X E) (hg:Gl X x) (hm:X.mg x=some (.ref C)) (ha:PA X (e₀ :: rest) ta)
  (he:starEach (e₀ :: rest) X.env=(false,eval e₀ X.env) :: starEach rest X.env:=by rfl) (hp:(backTo cpos (starEach rest X.env)).any (·.1)=false:=by rfl) (hd:(x == ("__debug__":Str))=false:=by decide) :
  PS X (.Raise (some (.Call (.Name x np) (e₀ :: rest) [] cpos)) none pos) (Yj C ta E):=by
 intro pins s σ H D I h
 obtain ⟨tl,N,nm,qn,bs,hdct,sn,sub,ab,col,dd,k0,k1,k2,k3,k5,mN,hC,hN,hni,T⟩:=zaa I.ok.mod.kin q
 refine wpAny_Raise_call_subT (C:=C) (nm:=nm) (q:=qn) (N:=N) (bs:=bs) (bm:=tl) (hdct:=hdct) (sn:=sn) (sub:=sub) (ab:=ab) (col:=col) (dd:=dd) (k0:=k0) (k1:=k1) (k2:=k2) (k3:=k3) (k5:=k5) (newId:=Za)
  PySem.F.excBase_ValueError (mN:=mN) (T.hasType PySem.F.excBase_ValueError.hasBase) (I.ok.hd hc) (by rw [he];exact hp) hni (vF I hg hm ⟨rfl,?_⟩ hd)
 have hA:=ha cpos pins s σ H _ I h
 rw [he] at hA ⊢
 refine Calls.evalArgs_plain (thn hA fun us s2 ⟨vs,H2,I2,r2,z2,q2⟩=>?_)
 exact ⟨rfl,by rw [← r2.length];exact z2,I2.bk _ _ hC,hN.keeps I2.bk,T.keeps I2.bk,fun h' e hm=>hr pins σ H2 s2 h' e _ _ I2 hm q2⟩
end
def Asc (x:Str):Prop:=∀ c∈x.cps.toList,c < 128
section
variable {X:Cx} {e:Expr} {te:TE} {a:Str} {j:Nat} {p1 p2 p3:Pos}
def zcz (te:TE):TE:=fun σ H Q=>te σ H fun v H1=>∃ x:Str,v=.str x∧x.length≤100000∧Asc x∧∀ y:Str,Q (.str y) H1
def WG (te:TE):TE:=fun σ H Q=>te σ H fun v H1=>∃ x:Str,v=.str x∧x.length≤100000∧∀ y:Str,Q (.str y) H1
theorem Jn (he:PE X e te) (hl:a.length≤1000:=by decide +kernel):PE X (.JoinedStr [.FormattedValue e (-1) none p2,.Constant (.str a) j p1] p3) (WG te):=by
 intro pins s σ H Q I h
 refine wpAny_JoinedStr ?_
 show wpAny _ _ (eval (.FormattedValue e (-1) none p2) X.env) _ _ s
 refine wpAny_FormattedValue_plain (thn (he pins _ σ H _ I h) fun v s1 ⟨x,H1,I1,r1,z,ex,hz,q⟩=>?_)
 subst ex
 obtain ⟨t,rfl⟩:=r1
 have hs:sizeLine=16777216:=sizeLine_eq
 have e0:(Str.empty ++ z).length=z.length:=by rw [Str.length_append];simp [Str.empty,Str.length]
 have fin:∀ (t':Tok) (tk:Nat),∃ y u,Value.str z t'=Value.str y u∧(Str.empty ++ y).length≤sizeLine∧Joins (model X.prog X.w) X.A X.xe (evalEach [.Constant (.str a) j p1] X.env) (Str.empty ++ y) (fun out s₁=>out.length≤sizeLine∧EP X pins σ Q (.str out s₁.toks) { s₁ with toks:=s₁.toks + 1 }) { s1 with toks:=tk }:=fun t' tk=>by
  refine ⟨_,_,rfl,by rw [e0];lia,?_⟩
  show wpAny _ _ (eval (.Constant (.str a) j p1) X.env) _ _ _
  have hz2:(Str.empty ++ z ++ a).length≤sizeLine:=by rw [Str.length_append,e0];lia
  refine Calls.Constant_str ⟨a,_,rfl,hz2,hz2,.str _,H1,I1.tok _,⟨_,rfl⟩,q _⟩
 exact wpAny_formatField_str (fin _ _) (fin _ _) (by lia)
end
end L2
namespace L2
open PySem PySem.Spec PyProof.Rows
structure ExC (K:W.Frag) (C:Addr):Prop where
 ga:W.findIn K (.ref C) "__getattribute__"=some (some (.builtin "BaseException.__getattribute__"))
 gx:W.findIn K (.ref C) "__getattr__"=some none
 cl:W.findIn K (.ref C) "__class__"=some (some (.builtin "object.__class__"))
 ob:W.mroIn K C (.type "object")=some true
 be:W.mroIn K C (.type "BaseException")=some true
 ge:W.specialIn K (.builtin "object.__class__") "__get__"=some (some (.builtin "getset_descriptor.__get__"))
 tk:W.takesIn K (.builtin "object.__class__")=some true
section
variable {prog:Program} {w:World} {A:Around} {E:Value→Shared→Prop} {K:W.Frag} {e C:Addr} {s:Shared}
open PySem.Builtin PySem.Builtin.Getset_descriptor in
end
end L2
namespace L2
open PySem PySem.Spec PyProof.Rows
section
variable {X:Cx} {pins:List (Addr × Obj)} {σ:St} {H:Hp} {s:Shared}
theorem Inv.land {h2:Heap} {cs:List Addr} (hex:X.ex=[]) (I:Inv X pins σ H s) (hcs:∀ b∈cs,H b=none∧X.s₀.heap.get? b=none) (hcp:∀ b∈cs,∀ p∈X.pn ++ pins,p.1≠b)
  (hB:∀ b o,s.heap.get? b=some o→b ∉ frs X.stack→b ∉ cs→h2.get? b=some o) (sm:s.heap.UpToSlots h2):Inv X pins σ H { s with heap:=h2 }:=by
 have hF:∀ b o,s.heap.get? b=some o→b∈frs X.stack→∃ sl,h2.get? b=some { o with slots:=sl }:=fun b o q hb=>by
  obtain ⟨o',q',nf⟩:=I.stackFields hb
  rw [q] at q';cases q'
  exact sm b o q nf
 obtain ⟨r1,r2⟩:=I.behind hex hcs hB hF
 have ce:∀ c v,s.heap.IsCell c v→h2.IsCell c v:=fun c v ⟨o,ho,hd⟩=>by
  obtain ⟨sl,q⟩:=sm c o ho fun vs z=>by rw [hd] at z;cases z
  exact ⟨_,q,hd⟩
 refine ⟨I.ok,I.os,I.bare,by rw [hex];exact r1,?_,fun x c e=>?_,I.free,I.freeC,fun p hp=>?_,r2,I.len⟩
 ·obtain ⟨m,hn,hl⟩:=I.loc
  refine ⟨m,sm.ns hn,fun i x v e1 e2 e3=>?_⟩
  obtain ⟨u,r,l⟩:=hl i x v e1 e2 e3
  refine ⟨u,r,?_⟩
  rcases l with l | ⟨k,c,e,z⟩
  ·exact .inl l
  ·exact .inr ⟨k,c,e,ce c _ z⟩
 ·obtain ⟨v,z⟩:=I.cell x c e
  exact ⟨v,ce c v z⟩
 ·obtain ⟨e,n,ne,nf,d⟩:=I.pin p hp
  exact ⟨hB _ _ e (fun z=>(List.mem_cons.mp (I.stkSub _ z)).elim ne nf) fun z=>hcp _ z p hp rfl,n,ne,nf,d⟩
end
def exO (e C:Addr):HO:=.ext fun h=>∃ o,h.get? e=some o∧o.cls=.ref C
abbrev Cx.sub (X:Cx) (e:Addr):Cx:={ X with A:=X.A.mark (some (.ref e)),calm:=false,xe:=fun _ _=>False }
section
variable {X:Cx} {pins:List (Addr × Obj)} {σ:St} {H:Hp} {s:Shared} {e:Addr}
theorem Inv.toSub (I:Inv X pins σ H s):Inv (X.sub e) pins σ H s :=
 ⟨⟨I.ok.mod,I.ok.kind,I.ok.glob,I.ok.blt,I.ok.above,I.ok.inj,I.ok.has,I.ok.cab,(fun z=>nomatch z),I.ok.frames,I.ok.stk,I.ok.exf,I.ok.bs,I.ok.bsz,I.ok.noex,I.ok.exfs,I.ok.funs,I.ok.frf⟩,I.os,I.bare,I.base,I.loc,I.cell,I.free,I.freeC,I.pin,I.hok,I.len⟩
theorem Inv.ofSub {J:Inv X pins σ H s} {σ':St} {H':Hp} {s':Shared} (I:Inv (X.sub e) pins σ' H' s'):Inv X pins σ' H' s' :=
 ⟨J.ok,I.os,I.bare,I.base,I.loc,I.cell,I.free,I.freeC,I.pin,I.hok,I.len⟩
end
abbrev EXK:=Value→St→Hp→Prop
def PX (X:Cx) (pins:List (Addr × Obj)) (EX:EXK):Value→Shared→Prop:=fun ev s'=>∃ e cls σ s1 H1 H',ev=.ref e∧Inv X pins σ H1 s1∧Inv X pins σ H' s'∧XF s1.heap s'.heap H' e cls∧EX cls σ H'
def PEX (X:Cx) (ex:Expr) (t:EXK→TE):Prop :=
 ∀ (pins:List (Addr × Obj)) (s:Shared) (σ:St) (H:Hp) (Q:VK) (EX:EXK),Inv X pins σ H s→t EX σ H Q→wpAny (model X.prog X.w) X.A (eval ex X.env) (EP X pins σ Q) (PX X pins EX) s
def PSX (X:Cx) (st:Stmt) (t:EXK→TS):Prop :=
 ∀ (pins:List (Addr × Obj)) (s:Shared) (σ:St) (H:Hp) (D:Zx) (EX:EXK),Inv X pins σ H s→t EX D σ H→wpAny (model X.prog X.w) X.A (exec st X.env) (SP X pins D) (PX X pins EX) s
section
variable {X:Cx} {k:Nat} {f:Addr} {fd:FuncData} {ps:List Str} {sp:Sp} {x:Str} {p pos:Pos} {e:Expr} {es:List Expr} {t:TA}
def zce (sp:Sp) (ta:TA) (EX:EXK):TE:=fun σ H Q=>ta σ H fun vs H1=>sp (vs ++ []) H1 Q fun cls _ H2=>EX cls σ H2
end
section
variable {X:Cx} {ex:Expr} {tx:EXK→TE} {pos p1:Pos} {i:Nat} {y:Str}
def zcf (tx:EXK→TE) (EX:EXK):TS:=fun D σ H=>tx EX σ H fun _ H1=>D.nx σ H1
def zcA (tx:EXK→TE) (EX:EXK):TS:=fun D σ H=>tx EX σ H D.rt
def Jo (tx:EXK→TE) (i:Nat) (EX:EXK):TS:=fun D σ H=>tx EX σ H fun v H1=>D.nx (σ.set i (some v)) H1
theorem zab {pos':Pos} (hN:X.N.Nodup) (hi:X.N[i]?=some y) (hx:Loc X.env.scope y) (he:PEX X ex tx) (hs:swapsWith ex (some (.Name y pos')) pos.line X.env=pure false:=by rfl) (hf:X.fn y=true∨X.env.scope.names.lookup y=some .local:=by first | exact .inl rfl | exact .inr rfl | assumption) :
  PSX X (.Assign [.Name y pos'] ex pos) (Jo tx i):=by
 intro pins s σ H D EX I h
 refine wpAny_Assign_Name (thn (he pins s σ H _ EX I h) fun v s1 ⟨x,H1,I1,r1,q1⟩=>?_) hs
 exact ZY I1 hN hi hx r1 (fun s2 I2=>⟨_,H1,I2,q1⟩) hf
end
structure ExK (K:W.Frag) (C:Addr):Prop extends ExC K C where
 has:(W.clsIn K C).isSome=true
def zcg (i:Nat) (D:Zx):Zx:={ nx:=fun σ H=>D.nx (σ.set i none) H,rt:=D.rt,bk:=fun σ H=>D.bk (σ.set i none) H,ct:=fun σ H=>D.ct (σ.set i none) H }
def zc4 (K:W.Frag) (tb:EXK→TS) (C0:Addr) (i:Nat) (th:TS):TS:=fun D σ H=>tb (fun cls σ1 H1=>∃ C,cls=.ref C∧ExK K C∧W.exmOne K (.ref C) (.ref C0)=some true ∧
 ∀ e,H1 e=none→th (zcg i D) (σ1.set i (some (.ref e))) (upd H1 e (exO e C))) D σ H
section
variable {X:Cx} {st b₀:Stmt} {suite:List Stmt} {tb:EXK→TS} {th:TS} {c n:Str} {C0:Addr} {i:Nat} {np hpos pos:Pos}
end
end L2
namespace L2
open PySem PySem.Spec PyProof.Rows
def zch:V→Option Value
 | .ty T=>some (.type T)
 | .ref D=>some (.ref D)
 | _=>none
abbrev zc5 (K:W.Frag):RC:=fun xs H Q=>∃ a C c cv b,xs=[.ref a,c]∧H a=some (exO a C)∧ExK K C∧zch c=some cv∧W.kitOne K (.ref C) cv=some b∧Q (.bl b) H
abbrev zcB (K:W.Frag):RC:=fun xs H Q=>∃ a C p,∃ cs:List Addr,∃ b,xs=[.ref a,.ref p]∧H a=some (exO a C)∧ExK K C∧H p=some (.tup (cs.map V.ref))∧W.kitAny K (.ref C) (cs.map Value.ref)=some b∧Q (.bl b) H
section
variable {X:Cx}
end
theorem zC {P:Program} {w:World} {X:Cx}:jJ (CX1 P w) X E0:=fun _ _ _ _ _ _ _ h=>by
 obtain ⟨_,_,_,_,_,_,_,_,_,z⟩:=h
 exact z.elim
section
variable {P:Program} {w:World} {K:W.Frag} {mg:Str→Option Value} {base:Heap}
theorem Fun.ok1 {x qual:Str} {st:Stmt} {f:Addr} {fd:FuncData} {N ps:List Str} {k:Nat} {sp:Sp} (F:Fun K x qual st f fd) (S:zO N ps (zj st)) (len:∀ vs H Q E,sp vs H Q E→vs.length=ps.length)
  (hbody:∀ (cdv:Value) (A:Around) (outer:List Env) (s:Shared) (H:Hp) (vs:List V) (Q:VK) (E:XK),Room k (A.deeper (envOfC qual (zj st) s.heap.objs.size f cdv))→sp vs H Q E →
   ∃ t,PSs (kB (CX1 P w) P w K mg base N qual (zj st) f cdv A outer s H E) (zH st) t∧t { nx:=fun _ H'=>Q .non H',rt:=Q } (start N vs) H):FnOk P w K mg base (CX1 P w) (k + 1) f fd ps sp:=by
 obtain ⟨oc,od,kV,doc,pm,an,cdv,ct,osl,rfl,lk,hcd⟩:=F.ex
 exact zaT lk hcd S len fun A outer s H vs Q E hr hsp=>hbody cdv A outer s H vs Q E hr hsp
theorem Fun.ok0 {x qual:Str} {st:Stmt} {f:Addr} {fd:FuncData} {N ps:List Str} {k:Nat} {sp:Sp} (F:Fun K x qual st f fd) (S:zO N ps (zj st)) (len:∀ vs H Q E,sp vs H Q E→vs.length=ps.length)
  (hbody:∀ (cdv:Value) (A:Around) (outer:List Env) (s:Shared) (H:Hp) (vs:List V) (Q:VK) (E:XK),Room k (A.deeper (envOfC qual (zj st) s.heap.objs.size f cdv))→sp vs H Q E →
   ∃ t,PSs (kB (CX1 P w) P w K mg base N qual (zj st) f cdv A outer s H E).nox (zH st) t∧t { nx:=fun _ H'=>Q .non H',rt:=Q } (start N vs) H):FnOk P w K mg base (CX1 P w) (k + 1) f fd ps sp :=
 F.ok1 S len fun cdv A outer s H vs Q E hr h=>let ⟨t,a,b⟩:=hbody cdv A outer s H vs Q E hr h;⟨t,a.nox,b⟩
end
theorem walk_ofX {l:W.OpenLaw} {n k:Nat} {q:Program} {loose:List Str} {XP:(Str→Option Value)→Heap→Prop} {YP:World→Heap→Prop} {d:DefRec} {K:Params→W.Frag} {sp:W.Frag→Sp} {x:Str}
  (hn:l.most=some n) (hn2:n≤sizeLine) (hdf:d.params.defaults=[]) (hr:Room k callerA)
  (hY:∀ (w:World) (h:Heap),YP w h→(K w.params).In h)
  (F:∀ (w:World) (mg:Str→Option Value) (fa:Addr) (h:Heap),(K w.params).In h→h.Ns mainGlobals mg→mg d.name=some (.ref fa) →
   ∃ fd:FuncData,(∀ (s:Shared) (u:Value),BindsTo s fd ⟨[u],[]⟩ [(x,u)]) ∧
    ∀ base:Heap,(K w.params).In base→base.Ns mainGlobals mg→FnOk l.prog w (K w.params) mg base (CX1 l.prog w) k fa fd [x] (sp (K w.params)))
  (hsp:∀ (K:W.Frag) (H:Hp) (a:Addr) (ns:List Int),ns.length≤n→VI H→SqL K H a (ns.map V.int)→sp K [.ref a] H (fun v _=>v=.bl true) fun _ _ _=>False) :
  W.WalkO q loose XP YP l.row.toRowW d [] (fun f vs=>PySem.call f vs) :=
 Ji (K:=K) (CX:=fun w=>CX1 l.prog w) (sp:=fun w=>sp (K w.params)) hn hn2 hdf hr hY F (fun w H a ns h1 h2 h3=>hsp (K w.params) H a ns h1 h2 h3) fun _ _ _ _ _ z=>by
  obtain ⟨_,_,_,_,_,_,_,_,_,y⟩:=z
  exact y
end L2
namespace L2
open PySem
section
variable {σ:St} {H:Hp} {nx:St→Hp→Prop} {B:V→St→Hp→(St→Hp→Prop)→Prop}
theorem Yk {lo:Int} {n:Nat} (Pv:Nat→St→Hp→Prop) (h0:Pv 0 σ H) (hs:∀ i σ H,i < n→Pv i σ H→B (.int (lo + i)) σ H (Pv (i + 1))) (hd:∀ σ H,Pv n σ H→nx σ H) :
  ∃ W:Nat→Nat→St→Hp→Prop,(∃ m,W 0 m σ H)∧∀ i m σ H,W i m σ H→((Itr lo n).stop i H∧nx σ H)∨((Itr lo n).go i H∧∃ N:St→Hp→Prop,(∀ σ' H',N σ' H'→∃ m',m' < m∧W (i + 1) m' σ' H')∧∀ x H',(Itr lo n).yld i H x H'→B x σ H' N):=by
 refine ⟨fun i m σ H=>m=n - i∧i≤n∧Pv i σ H,⟨n,by simp,Nat.zero_le _,h0⟩,?_⟩
 rintro i m σ H ⟨rfl,hi,p⟩
 by_cases hlt:i < n
 ·refine .inr ⟨hlt,Pv (i + 1),fun σ' H' p'=>⟨n - (i + 1),by lia,rfl,hlt,p'⟩,?_⟩
  rintro x H' ⟨rfl,rfl⟩
  exact hs i σ _ hlt p
 ·obtain rfl:i=n:=by lia
  exact .inl ⟨Nat.le_refl _,hd σ H p⟩
theorem Zb {K:W.Frag} {a:Addr} (xs:List V) (Pv:Nat→St→Hp→Prop) (h0:Pv 0 σ H) (hl:∀ i σ H,Pv i σ H→SqL K H a xs) (hs:∀ i x σ H,xs[i]?=some x→Pv i σ H→B x σ H (Pv (i + 1))) (hd:∀ σ H,Pv xs.length σ H→nx σ H) :
  ∃ W:Nat→Nat→St→Hp→Prop,(∃ m,W 0 m σ H)∧∀ i m σ H,W i m σ H→((Itl K a).stop i H∧nx σ H)∨((Itl K a).go i H∧∃ N:St→Hp→Prop,(∀ σ' H',N σ' H'→∃ m',m' < m∧W (i + 1) m' σ' H')∧∀ x H',(Itl K a).yld i H x H'→B x σ H' N):=by
 refine ⟨fun i m σ H=>m=xs.length - i∧i≤xs.length∧Pv i σ H,⟨xs.length,by simp,Nat.zero_le _,h0⟩,?_⟩
 rintro i m σ H ⟨rfl,hi,p⟩
 have q:=hl i σ H p
 by_cases hlt:i < xs.length
 ·refine .inr ⟨⟨xs,xs[i],q,by simp [hlt]⟩,Pv (i + 1),fun σ' H' p'=>⟨xs.length - (i + 1),by lia,rfl,hlt,p'⟩,?_⟩
  rintro x H' ⟨rfl,y⟩
  exact hs i x σ _ (y xs q) p
 ·obtain rfl:i=xs.length:=by lia
  exact .inl ⟨⟨xs,q,Nat.le_refl _⟩,hd σ H p⟩
theorem Yl {K:W.Frag} {a:Addr} (xs:List V) (Pv:Nat→St→Hp→Prop) (h0:Pv 0 σ H) (hl:∀ i σ H,Pv i σ H→SqT K H a xs) (hs:∀ i x σ H,xs[i]?=some x→Pv i σ H→B x σ H (Pv (i + 1))) (hd:∀ σ H,Pv xs.length σ H→nx σ H) :
  ∃ W:Nat→Nat→St→Hp→Prop,(∃ m,W 0 m σ H)∧∀ i m σ H,W i m σ H→((Itt K a).stop i H∧nx σ H)∨((Itt K a).go i H∧∃ N:St→Hp→Prop,(∀ σ' H',N σ' H'→∃ m',m' < m∧W (i + 1) m' σ' H')∧∀ x H',(Itt K a).yld i H x H'→B x σ H' N):=by
 refine ⟨fun i m σ H=>m=xs.length - i∧i≤xs.length∧Pv i σ H,⟨xs.length,by simp,Nat.zero_le _,h0⟩,?_⟩
 rintro i m σ H ⟨rfl,hi,p⟩
 have q:=hl i σ H p
 by_cases hlt:i < xs.length
 ·refine .inr ⟨⟨xs,xs[i],q,by simp [hlt]⟩,Pv (i + 1),fun σ' H' p'=>⟨xs.length - (i + 1),by lia,rfl,hlt,p'⟩,?_⟩
  rintro x H' ⟨rfl,y⟩
  exact hs i x σ _ (y xs q) p
 ·obtain rfl:i=xs.length:=by lia
  exact .inl ⟨⟨xs,q,Nat.le_refl _⟩,hd σ H p⟩
end
theorem KP {J:It} {D:Addr} {τ₀:St} {H1:Hp} {Q:Hp→Prop} {B:V→St→Hp→(V→St→Hp→Prop)→(St→Hp→Prop)→Prop} (n:Nat) (hn:n≤1000000) (C:St→Prop) (R:Nat→V→Prop) (hC:C τ₀)
  (go:∀ i H,Same H1 H→i < n→J.go i H) (stop:∀ H,Same H1 H→J.stop n H) (hD:H1 D=none)
  (hs:∀ i x τ H H',C τ→Same H1 H→i < n→J.yld i H x H'→B x τ H' (fun v τ' H4=>C τ'∧R i v∧Same H H4) (fun _ _=>False))
  (hd:∀ ys H,ys.length=n→(∀ i v,ys[i]?=some v→R i v)→Same H1 H→H D=some (.lst ys)→Q H) :
  ∃ W:Nat→Nat→List V→St→Hp→Prop,(∃ m,W 0 m [] τ₀ (upd H1 D (.lst [])))∧∀ i m ys τ H,W i m ys τ H→H D=some (.lst ys) ∧
  ((J.stop i H∧Q H)∨(J.go i H∧ys.length < sizeLine∧∃ N:V→St→Hp→Prop,
   (∀ v τ' H',N v τ' H'→H' D=some (.lst ys)∧∃ m',m' < m∧W (i + 1) m' (ys ++ [v]) τ' (upd H' D (.lst (ys ++ [v]))))∧∃ Nf:St→Hp→Prop,(∀ τ' H',Nf τ' H'→∃ m',m' < m∧W (i + 1) m' ys τ' H') ∧
   ∀ x H',J.yld i H x H'→B x τ H' N Nf)):=by
 have ext:∀ {H:Hp} {o:HO},Same H1 H→Same H1 (upd H D o):=fun {H o} h b u e=>by
  rw [zk (zL e hD)];exact h b u e
 refine ⟨fun i m ys τ H=>m=n - i∧i≤n∧ys.length=i∧(∀ j v,ys[j]?=some v→R j v)∧Same H1 H∧H D=some (.lst ys)∧C τ,⟨n,by simp,Nat.zero_le _,rfl,by simp,ext (Same.refl _),ze,hC⟩,?_⟩
 rintro i m ys τ H ⟨rfl,hi,hl,hR,hS,hy,hc⟩
 refine ⟨hy,?_⟩
 by_cases hlt:i < n
 ·refine .inr ⟨go i H hS hlt,Nat.lt_of_le_of_lt (by lia:ys.length≤1000000) (by decide),(fun v τ' H4=>C τ'∧R i v∧Same H H4),?_,(fun _ _=>False),fun _ _ z=>z.elim,fun x H' y=>hs i x τ H H' hc hS hlt y⟩
  rintro v τ' H4 ⟨c4,r4,s4⟩
  refine ⟨s4 _ _ hy,n - (i + 1),by lia,rfl,hlt,by simp [hl],fun j u hj=>?_,ext (hS.trans s4),ze,c4⟩
  rcases Nat.lt_trichotomy j ys.length with h | h | h
  ·exact hR j u (by rwa [List.getElem?_append_left h] at hj)
  ·subst h
   simp at hj
   subst hj
   rw [hl];exact r4
  ·rw [List.getElem?_eq_none (by simp;lia)] at hj;cases hj
 ·obtain rfl:i=n:=by lia
  exact .inl ⟨stop H hS,hd ys H hl hR hS hy⟩
theorem XV (n d:Nat) (v:Int):max (0:Int) (min (if v < 0 then v + n else v) n)=((HT.sIx n d (some v):Nat):Int):=by
 show _=(((if v < 0 then (v + (n:Int)).toNat else min v.toNat n):Nat):Int)
 by_cases hv:v < 0
 ·simp only [if_pos hv];lia
 ·simp only [if_neg hv];lia
theorem zac (a b:Nat):sliceRange (a:Int) (b:Int) 1=(List.range (b - a)).map fun k=>a + k:=by
 simp only [sliceRange,show ((1:Int) > 0)=True from by simp,if_true]
 by_cases hlt:(a:Int) < b
 ·have e3:(((b:Int) - a + 1 - 1) / 1).toNat=b - a:=by rw [Int.ediv_one];lia
  simp only [hlt,if_true,e3]
  refine List.map_congr_left fun k _=>?_
  lia
 ·have:b - a=0:=by lia
  simp [hlt,this]
theorem KQ (lo hi:Option Int) (n:Nat):Builtin.Str.strSliceIndices lo hi 1 n=(List.range (HT.sIx n n hi - HT.sIx n 0 lo)).map fun k=>HT.sIx n 0 lo + k:=by
 rw [← zac]
 unfold Builtin.Str.strSliceIndices
 simp only [show ((1:Int) > 0)=True from by simp,if_true]
 cases lo with
 | none =>
  cases hi with
  | none=>rfl
  | some v=>simp only [XV n n v];rfl
 | some u =>
  cases hi with
  | none=>simp only [XV n 0 u];rfl
  | some v=>simp only [XV n n v,XV n 0 u]
theorem Xk (x:Str) (lo hi:Option Int):(Txt.slice x lo hi).cps.toList=(x.cps.toList.drop (HT.sIx x.length 0 lo)).take (HT.sIx x.length x.length hi - HT.sIx x.length 0 lo):=by
 have hb:=HT.sIx_le x.length x.length (Nat.le_refl _) hi
 have hn:x.cps.toList.length=x.length:=by simp [Str.length]
 unfold Txt.slice
 rw [KQ]
 split
 ·rename_i h
  have h':HT.sIx x.length x.length hi - HT.sIx x.length 0 lo=x.length:=by simpa using h
  have e0:HT.sIx x.length 0 lo=0∨x.length=0:=by lia
  rcases e0 with e0 | e0
  ·rw [e0,List.drop_zero,List.take_of_length_le]
   lia
  ·rw [List.eq_nil_of_length_eq_zero (by lia:x.cps.toList.length=0)];simp
 ·by_cases hab:HT.sIx x.length 0 lo≤HT.sIx x.length x.length hi
  ·have h:=StrLaws.picks x.cps.toList (HT.sIx x.length x.length hi - HT.sIx x.length 0 lo) (HT.sIx x.length 0 lo) (by lia)
   simpa using h
  ·have:HT.sIx x.length x.length hi - HT.sIx x.length 0 lo=0:=by lia
   rw [this];simp
theorem Ym (x:Str) (k:Nat):(Txt.slice x (some (k:Int)) none).cps.toList=x.cps.toList.drop k:=by
 rw [Xk,HT.sIx_none,HT.sIx_nat]
 have hn:x.cps.toList.length=x.length:=by simp [Str.length]
 by_cases h:k≤x.length
 ·rw [Nat.min_eq_left h,List.take_of_length_le (by rw [List.length_drop];lia)]
 ·rw [List.drop_eq_nil_of_le (by lia:x.cps.toList.length≤k),Nat.min_eq_right (by lia),List.drop_eq_nil_of_le (by lia)];simp
theorem WH (x:Str) (k:Nat):(Txt.slice x none (some (k:Int))).cps.toList=x.cps.toList.take k:=by
 rw [Xk,HT.sIx_none,HT.sIx_nat,List.drop_zero,Nat.sub_zero]
 have hn:x.cps.toList.length=x.length:=by simp [Str.length]
 by_cases h:k≤x.length
 ·rw [Nat.min_eq_left h]
 ·rw [Nat.min_eq_right (by lia),List.take_of_length_le (by lia),List.take_of_length_le (by lia)]
theorem zad {x y:Str} (h:x.cps.toList=y.cps.toList):x=y:=by
 obtain ⟨a⟩:=x
 obtain ⟨b⟩:=y
 have:a=b:=Array.toList_inj.mp h
 rw [this]
theorem zae (x y:Str):(x ++ y).cps.toList=x.cps.toList ++ y.cps.toList:=by
 show (x.cps ++ y.cps).toList=_
 simp
open PySem.NumText in
section
def zci (w:Int):Str:=Str.ofString (toString w)
theorem ZR (x:Str):x.length=x.cps.toList.length:=by simp [Str.length]
def inF (c:Nat):Bool:=!(Builtin.Str.occurrences "0123456789" ⟨#[c]⟩ 0 (Str.length "0123456789") 1).isEmpty
def zbM (x:Str):Bool:=!decide (x="") && x.cps.toList.all inF
def inW (i:Int):Bool:=decide (-1000000000000000000000000000000≤i∧i≤1000000000000000000000000000000)
def zaW (x:Str):Str:=if (x.cps.toList.take 1 == [45])=true then Txt.slice x (some 1) none else x
def KR (x:Str):Int:=(intText? x).getD 0
def zbN (x:Str):Bool:=!(decide (31 < (zaW x).length) || !zbM (zaW x)) && (inW (KR x) && decide (zci (KR x)=x))
end
end L2
namespace L2
open PySem PySem.Spec PyProof.Rows
def zbO (x y:Str):Int:=match Builtin.Str.occurrences x y 0 x.length 1 with | i :: _=>(i:Int) | []=>-1
abbrev zbD:RM:=fun x xs H Q=>∃ a b,x=.str a∧xs=[.str b]∧Q (.int (zbO a b)) H
def zbP (sep:Str):List Str→Str
 | [p]=>p
 | l=>Builtin.Str.glued sep l
def zcj (sep:Str) (ls:List Str):Nat:=ls.foldl (fun n p=>n + p.length + sep.length) 0
abbrev zbE (K:W.Frag):RM:=fun x xs H Q=>∃ sep a ls,x=.str sep∧xs=[.ref a]∧SqL K H a (ls.map V.str)∧zcj sep ls≤sizeLine∧Q (.str (zbP sep ls)) H
def zck (x:Str) (n:Int):Str:=if n < 1 then Str.empty else if (n == 1 || x.length == 0)=true then x else ⟨(List.replicate n.toNat x.cps).foldl (· ++ ·) #[]⟩
abbrev zcC:R2:=fun x y H Q=>∃ a n,x=.str a∧y=.int n∧(n < 1000000∧-1000000 < n∧a.length * n.toNat≤1000000)∧Q (.str (zck a n)) H
section
variable {X:Cx}
end
theorem ky (x y:Str):(x ++ y).length=x.length + y.length:=Str.length_append x y
end L2
namespace L2
open PySem PySem.Spec PyProof.Rows
section
open PySem.NumText
end
end L2
namespace L2
open PySem PySem.Spec PyProof.Rows
def Jp (_ j:Int):Prop:=j≠0∧-big < j∧j < big
section
variable {X:Cx}
theorem Yn:OpR X (binaryOp .FloorDiv) (rI Jp fun i j=>.int (i.fdiv j)):=opI fun i j _ _ _ _ _ hc q =>
 floordiv_int hc.1 q (.inl (PyProof.noPylong_of_log2 (Nat.lt_trans (Yh (XT hc.2)) (by decide))))
abbrev Yo:RC:=fun xs H Q=>∃ b:Bool,xs=[.bl b]∧Q (.int (if b then 1 else 0)) H
theorem jL:kH X (.type "int") Yo:=by
 intro pins s σ H xs us Q I r h
 obtain ⟨b,rfl,q⟩:=h
 obtain ⟨u,rfl,r1⟩:=Y8 r
 cases r1
 exact call_int_bool ⟨.int _,H,I.tok _,⟨_,rfl⟩,q⟩
end
theorem zaf {k:Nat} {A:Around} (r:Room k A):A.units + 64 < cLine:=by have:=r.un;lia
def jE:V→PyData
 | .non=>.none
 | .bl b=>.bool b
 | .int i=>.int i
 | .str x=>.str x
 | _=>.none
def yC:V→Bool
 | .non=>true
 | .bl _=>true
 | .int _=>true
 | .str x=>PyData.strOk x
 | _=>false
theorem Asc.flat {x:Str} (h:Asc x):yC (.str x)=true:=by
 unfold yC PyData.strOk
 rw [Array.all_eq_true]
 intro i hi
 have:=h x.cps[i] (by simp)
 exact decide_eq_true (by lia)
def zbf:V→V→Bool
 | .bl _,.int _=>false
 | .int _,.bl _=>false
 | _,_=>true
def XW:List V→List V→Bool
 | x :: xs,y :: ys=>zbf x y && XW xs ys
 | _,_=>true
theorem kY:∀ {xs:List V} {us:List Value},xs.all yC=true→Vals xs us→CarriedAll us (xs.map jE)
 | [],_,_,.nil=>.nil
 | x :: r,_,h,.cons rx t=>by
  rw [List.all_cons,Bool.and_eq_true] at h
  refine .cons ?_ (kY h.2 t)
  cases x with
  | non=>cases rx;exact .none
  | bl b=>cases rx;exact .bool b
  | int i=>obtain ⟨t,rfl⟩:=rx;exact .int i t
  | str x=>obtain ⟨t,rfl⟩:=rx;exact .str x t
  | byt b=>exact absurd h.1 (by simp [yC])
  | flt b=>exact absurd h.1 (by simp [yC])
  | ref a=>exact absurd h.1 (by simp [yC])
  | ty n=>exact absurd h.1 (by simp [yC])
theorem KS {x y:V} (hx:yC x=true) (hy:yC y=true):Spec.same (jE x) (jE y)=decide (x=y):=by
 cases x <;> cases y <;> simp_all [yC,jE,Spec.same] <;> (rename_i a b;by_cases e:a=b <;> simp [e])
theorem Zr:∀ {xs ys:List V},xs.all yC=true→ys.all yC=true→Spec.sameAll (xs.map jE) (ys.map jE)=decide (xs=ys)
 | [],[],_,_=>by simp [Spec.sameAll]
 | [],_ :: _,_,_=>by simp [Spec.sameAll]
 | _ :: _,[],_,_=>by simp [Spec.sameAll]
 | x :: r,y :: t,hx,hy=>by
  rw [List.all_cons,Bool.and_eq_true] at hx hy
  rw [List.map_cons,List.map_cons,Spec.sameAll,KS hx.1 hy.1,Zr hx.2 hy.2]
  by_cases a:x=y <;> by_cases b:r=t <;> simp [a,b]
theorem JZ {x y:V} (hx:yC x=true) (hy:yC y=true) (h:zbf x y=true):SeqAt.noMix (jE x) (jE y)=true:=by
 cases x <;> cases y <;> simp_all [yC,jE,SeqAt.noMix,zbf]
theorem qE:∀ {xs ys:List V},xs.all yC=true→ys.all yC=true→XW xs ys=true→SeqAt.noMixAll (xs.map jE) (ys.map jE)=true
 | [],[],_,_,_=>by simp [SeqAt.noMixAll]
 | [],_ :: _,_,_,_=>by simp [SeqAt.noMixAll]
 | _ :: _,[],_,_,_=>by simp [SeqAt.noMixAll]
 | x :: r,y :: t,hx,hy,h=>by
  rw [List.all_cons,Bool.and_eq_true] at hx hy
  rw [XW,Bool.and_eq_true] at h
  rw [List.map_cons,List.map_cons,SeqAt.noMixAll,JZ hx.1 hy.1 h.1,qE hx.2 hy.2 h.2]
  rfl
theorem Yp {xs:List V} (h:xs.all yC=true):SeqAt.shaped (.list (xs.map jE))=true∧SeqAt.shaped (.tuple (xs.map jE))=true:=by
 have a:∀ x,yC x=true→(jE x).canLay0=true∧(jE x).depth=0:=fun x=>by cases x <;> simp [jE,PyData.canLay0,PyData.depth,yC]
 have l:∀ ys:List V,ys.all yC=true→PyData.canLayAll0 (ys.map jE)=true∧PyData.depthAll (ys.map jE)=0:=by
  intro ys
  induction ys with
  | nil=>exact fun _=>⟨rfl,rfl⟩
  | cons y r ih =>
   intro h
   rw [List.all_cons,Bool.and_eq_true] at h
   exact ⟨by rw [List.map_cons,PyData.canLayAll0,(a y h.1).1,(ih h.2).1];rfl,by rw [List.map_cons,PyData.depthAll,(a y h.1).2,(ih h.2).2];rfl⟩
 exact ⟨by simp [SeqAt.shaped,PyData.canLay0,PyData.depth,(l xs h).1,(l xs h).2],by simp [SeqAt.shaped,PyData.canLay0,PyData.depth,(l xs h).1,(l xs h).2]⟩
abbrev zcl (K:W.Frag) (neg:Bool):R2:=fun x y H Q=>∃ a b xs ys,x=.ref a∧y=.ref b∧SqL K H a xs∧SqL K H b ys∧(xs.all yC=true∧ys.all yC=true∧XW xs ys=true)∧Q (.bl (if neg then !decide (xs=ys) else decide (xs=ys))) H
section
variable {X:Cx}
theorem zbg (hu:X.A.units + 64 < cLine):OpR X (compareOp .Eq) (zcl X.K false):=by
 intro pins s σ H x y v u Q I rx ry h
 obtain ⟨a,b,xs,ys,rfl,rfl,ha,hb,⟨f1,f2,f3⟩,q⟩:=h
 cases rx
 cases ry
 obtain ⟨us,r1,p1,_⟩:=I.list ha
 obtain ⟨ws,r2,p2,_⟩:=I.list hb
 refine eq_dataH_same (reads_newData p1.isList (kY f1 r1)) (reads_newData p2.isList (kY f2 r2)) (Yp f1).1 (Yp f2).1 hu (by rw [SeqAt.noMix];exact qE f1 f2 f3) ?_
 rw [Spec.same,Zr f1 f2]
 exact ⟨.bl _,H,I,rfl,q⟩
abbrev VL (K:W.Frag):R2:=fun x y H Q=>∃ a b xs,x=.ref a∧y=.ref b∧SqL K H a xs∧SqL K H b []∧Q (.bl (decide (xs=[]))) H
theorem KU (hu:X.A.units + 64 < cLine):OpR X (compareOp .Eq) (VL X.K):=by
 intro pins s σ H x y v u Q I rx ry h
 obtain ⟨a,b,xs,rfl,rfl,ha,hb,q⟩:=h
 by_cases e:xs=[]
 ·subst e
  exact zbg hu pins s σ H _ _ v u Q I rx ry ⟨a,b,[],[],rfl,rfl,ha,hb,⟨rfl,rfl,rfl⟩,q⟩
 ·cases rx
  cases ry
  obtain ⟨us,r1,p1,_⟩:=I.list ha
  obtain ⟨ws,r2,p2,_⟩:=I.list hb
  cases r2
  have e1:=r1.length
  have e2:xs.length≠0:=fun z=>e (List.eq_nil_of_length_eq_zero z)
  refine PySem.SeqAt.eq_list_lengthsAt p1.isList p2.isList (by simp;intro z;rw [z] at e1;exact e2 e1) (by lia) ?_
  rw [decide_eq_false e] at q
  exact ⟨.bl false,H,I,rfl,q⟩
end
end L2
namespace L2
open PySem PySem.Spec PyProof.Rows
abbrev zu:RM:=yf
abbrev yR:RM:=XL
def jw:List V:=[.str "plus",.str "minus",.str "times",.str "over",.str "rest",.str "under",.str "same"]
def isJ (v:V):Bool:=inV v jw
inductive Er where
 | nought | great | stuck
 deriving DecidableEq
def yE (w:Str) (a b:Int):Int :=
 if w="plus" then a + b else if w="minus" then a - b else if w="times" then a * b else if w="under" then (if a < b then 1 else 0) else if w="same" then (if a=b then 1 else 0) else if w="over" then a.fdiv b else a.fmod b
def kM (w:Str):Prop:=¬ w="plus"∧¬ w="minus"∧¬ w="times"∧¬ w="under"∧¬ w="same"
instance (w:Str):Decidable (kM w):=by unfold kM;infer_instance
def yM (w:Str) (a b:Int):Except Er Int:=if kM w∧b=0 then .error .nought else if inW (yE w a b)=true then .ok (yE w a b) else .error .great
def Yq (kvs:List (Key × V)):V→Int
 | .int i=>i
 | .str x=>(match yo kvs (.inr x) with | some (.int i)=>i | _=>0)
 | _=>0
def xI (kvs:List (Key × V)) (st:List Int) (v:V):Except Er (List Int) :=
 if isJ v=true then (match v,st.reverse with | .str w,b :: a :: r=>(match yM w a b with | .ok c=>.ok (r.reverse ++ [c]) | .error e=>.error e) | _,_=>.error .stuck) else .ok (st ++ [Yq kvs v])
def x9 (kvs:List (Key × V)):List V→List Int→Except Er (List Int)
 | [],st=>.ok st
 | v :: r,st=>match xI kvs st v with | .ok st'=>x9 kvs r st' | .error e=>.error e
section
variable {kvs:List (Key × V)}
theorem jM:∀ (p q:List V) (st:List Int),x9 kvs (p ++ q) st=match x9 kvs p st with | .ok st'=>x9 kvs q st' | .error e=>.error e
 | [],q,st=>rfl
 | v :: r,q,st=>by
  show (match xI kvs st v with | .ok st'=>x9 kvs (r ++ q) st' | .error e=>.error e)=match (match xI kvs st v with | .ok st'=>x9 kvs r st' | .error e=>.error e) with | .ok st'=>x9 kvs q st' | .error e=>.error e
  cases xI kvs st v with
  | error e=>rfl
  | ok st'=>exact jM r q st'
def Good (kvs:List (Key × V)) (ps:List V) (r:Except Er Int):Prop:=(∀ st,x9 kvs ps st=match r with | .ok i=>.ok (st ++ [i]) | .error e=>.error e)∧r≠.error .stuck
theorem J1 {v:V} (h:isJ v=false):Good kvs [v] (.ok (Yq kvs v)):=by
 refine ⟨fun st=>?_,fun z=>nomatch z⟩
 unfold x9 xI
 rw [h,if_neg (by decide)]
 rfl
def zaX (w:Str) (r1 r2:Except Er Int):Except Er Int:=match r1 with | .error e=>.error e | .ok a=>match r2 with | .error e=>.error e | .ok b=>yM w a b
theorem KW (w:Str) (a b:Int):yM w a b≠.error .stuck:=by
 unfold yM
 split
 ·exact fun z=>nomatch z
 ·split <;> exact fun z=>nomatch z
theorem J2 {w:Str} {p1 p2:List V} {r1 r2:Except Er Int} (hw:isJ (.str w)=true) (g1:Good kvs p1 r1) (g2:Good kvs p2 r2):Good kvs (p1 ++ p2 ++ [.str w]) (zaX w r1 r2):=by
 refine ⟨fun st=>?_,?_⟩
 ·rw [jM,jM,g1.1]
  cases r1 with
  | error e=>rfl
  | ok a =>
   show (match x9 kvs p2 (st ++ [a]) with | .ok st'=>x9 kvs [.str w] st' | .error e=>.error e)=_
   rw [g2.1]
   cases r2 with
   | error e=>rfl
   | ok b =>
    show x9 kvs [.str w] (st ++ [a] ++ [b])=match yM w a b with | .ok i=>.ok (st ++ [i]) | .error e=>.error e
    unfold x9 xI
    rw [hw,if_pos rfl]
    simp only [List.reverse_append,List.reverse_cons,List.reverse_nil,List.nil_append,List.cons_append,List.append_assoc]
    cases yM w a b with
    | error e=>rfl
    | ok c=>simp [x9]
 ·unfold zaX
  cases r1 with
  | error e=>exact g1.2
  | ok a =>
   cases r2 with
   | error e=>exact g2.2
   | ok b=>exact KW w a b
theorem ZS {ps:List V} {i:Nat} {st:List Int} {e:Er} (h:x9 kvs (ps.take i) st=.error e):x9 kvs ps st=.error e:=by
 have:=jM (kvs:=kvs) (ps.take i) (ps.drop i) st
 rw [List.take_append_drop,h] at this
 exact this
theorem Jq {ps:List V} {i:Nat} {st st0:List Int} {v:V} (h:x9 kvs (ps.take i) st0=.ok st) (hv:ps[i]?=some v):x9 kvs (ps.take (i + 1)) st0=xI kvs st v:=by
 rw [List.take_add_one,hv]
 show x9 kvs (ps.take i ++ [v]) st0=_
 rw [jM,h]
 show (match xI kvs st v with | .ok st'=>x9 kvs [] st' | .error e=>.error e)=_
 cases xI kvs st v <;> rfl
end
def jj (v:V):Prop:=(∃ i,v=.int i∧inW i=true)∨∃ x:Str,v=.str x∧x.length≤1000
def yt (kvs:List (Key × V)):Prop:=∀ k v,yo kvs k=some v→∃ i,v=.int i∧inW i=true
theorem Yr {kvs:List (Key × V)} (h:yt kvs) {v:V} (hv:jj v):inW (Yq kvs v)=true:=by
 rcases hv with ⟨i,rfl,hi⟩ | ⟨x,rfl,_⟩
 ·exact hi
 ·show inW (match yo kvs (.inr x) with | some (.int i)=>i | _=>0)=true
  cases e:yo kvs (.inr x) with
  | none=>rfl
  | some u =>
   obtain ⟨i,rfl,hi⟩:=h _ _ e
   exact hi
theorem inW_iff {i:Int}:inW i=true↔-1000000000000000000000000000000≤i∧i≤1000000000000000000000000000000:=by unfold inW;rw [decide_eq_true_eq]
theorem ZT {i:Int} (h:inW i=true):-big < i∧i < big:=by
 have:=inW_iff.mp h
 have hb:(1000000000000000000000000000001:Int) < big:=by decide +kernel
 lia
theorem WI {a b:Int} (ha:inW a=true) (hb:b≠0):inW (a.fdiv b)=true:=by
 have:=inW_iff.mp ha
 refine inW_iff.mpr ?_
 have h1:(a.fdiv b).natAbs≤a.natAbs:=by
  rcases Int.lt_or_gt_of_ne hb with h | h
  ·rw [← Int.neg_fdiv_neg,Int.fdiv_eq_ediv_of_nonneg _ (by lia)]
   have:=Int.natAbs_ediv_le_natAbs (-a) (-b)
   lia
  ·rw [Int.fdiv_eq_ediv_of_nonneg _ (by lia)]
   exact Int.natAbs_ediv_le_natAbs a b
 lia
theorem KY {a b:Int} (h:inW b=true) (hb:b≠0):inW (a.fmod b)=true:=by
 have:=inW_iff.mp h
 refine inW_iff.mpr ?_
 rcases Int.lt_or_gt_of_ne hb with h | h
 ·have e:=Int.neg_fmod_neg a b
  have h1:=Int.fmod_nonneg_of_pos (-a) (b:=-b) (by lia)
  have h2:=Int.fmod_lt_of_pos (-a) (b:=-b) (by lia)
  lia
 ·have h1:=Int.fmod_nonneg_of_pos a (b:=b) h
  have h2:=Int.fmod_lt_of_pos a (b:=b) h
  lia
end L2
namespace L2
open PySem PySem.Spec PyProof.Rows
def Itv (K:W.Frag) (a:Addr) (xs:List V):It:=⟨fun i H=>i < xs.length∧SqL K H a xs,fun i H x H'=>H'=H∧xs[xs.length - 1 - i]?=some x,fun i _=>xs.length≤i⟩
def zc6 (K:W.Frag) (ta:TA):TI:=fun σ H R=>ta σ H fun vs H1=>∃ a xs,vs=[.ref a]∧SqL K H1 a xs∧R (Itv K a xs) H1
section
variable {X:Cx} {tg:Expr}
end
section
variable {σ:St} {H:Hp} {nx:St→Hp→Prop} {B:V→St→Hp→(St→Hp→Prop)→Prop}
end
end L2
namespace L2
open PySem PySem.Spec PyProof.Rows
abbrev zag (K:W.Frag):RC:=fun xs H Q=>∃ p ys,xs=[.ref p]∧(SqL K H p ys∨SqT K H p ys)∧∀ l,H l=none→Q (.ref l) (upd H l (.lst ys))
abbrev zc7:RC:=fun xs H Q=>∃ i j,xs=[.int i,.int j]∧Q (.int (if j < i then j else i)) H
def inL (c:Nat):Bool:=!(Builtin.Str.occurrences "abcdefghijklmnopqrstuvwxyz" ⟨#[c]⟩ 0 (Str.length "abcdefghijklmnopqrstuvwxyz") 1).isEmpty
def wl:List V:=[.str "take",.str "give",.str "let",.str "say",.str "off",.str "if",.str "else",.str "end",.str "as"]
def xz (x:Str):Bool:=!(decide (x="") || decide (6 < x.length)) && !(inV (.str x) jw || inV (.str x) wl) && x.cps.toList.all inL
theorem zah (c:Nat):inL c=true→97≤c∧c≤122:=by
 unfold inL
 rw [StrLaws.found_one]
 have e:(Str.ofString "abcdefghijklmnopqrstuvwxyz").cps.toList=[97,98,99,100,101,102,103,104,105,106,107,108,109,110,111,112,113,114,115,116,117,118,119,120,121,122]:=by decide +kernel
 rw [e]
 simp only [decide_eq_true_eq,List.mem_cons,List.not_mem_nil,or_false]
 omega
theorem qF {x:Str} (h:xz x=true):x.cps.toList≠[]∧x.length≤6∧isJ (.str x)=false∧x.cps.toList.all inL=true:=by
 unfold xz at h
 rw [Bool.and_eq_true,Bool.and_eq_true,Bool.not_eq_true',Bool.not_eq_true',Bool.or_eq_false_iff,Bool.or_eq_false_iff,decide_eq_false_iff_not,decide_eq_false_iff_not] at h
 refine ⟨fun z=>h.1.1.1 (zad (by rw [z];decide +kernel)),by lia,h.1.2.1,h.2⟩
def KZ (w:Str):Option V:=if xz w=true then some (.str w) else if zbN w=true then some (.int (KR w)) else none
inductive Tw where
 | leaf (w:Str) | node (w:Str) (a b:Tw)
def pre:Tw→List Str
 | .leaf w=>[w]
 | .node w a b=>w :: (pre a ++ pre b)
def wfT:Tw→Prop
 | .leaf w=>isJ (.str w)=false
 | .node w a b=>isJ (.str w)=true∧wfT a∧wfT b
def okT:Tw→Bool
 | .leaf w=>(KZ w).isSome
 | .node _ a b=>okT a && okT b
def pvw (w:Str):V:=(KZ w).getD (.str w)
def pst:Tw→List V
 | .leaf w=>[pvw w]
 | .node w a b=>pst a ++ pst b ++ [.str w]
def zbQ:List Str→Nat→Option Nat
 | _,0=>some 0
 | [],_ + 1=>none
 | w :: r,d + 1=>(zbQ r (if isJ (.str w)=true then d + 2 else d)).map (· + 1)
def vh (st:List (List V)) (w:Str):Except Bool (List (List V)) :=
 if isJ (.str w)=true then (match st.reverse with | a :: b :: r=>.ok (r.reverse ++ [a ++ b ++ [.str w]]) | _=>.error false) else (match KZ w with | some v=>.ok (st ++ [[v]]) | none=>.error true)
def VM:List Str→List (List V)→Except Bool (List (List V))
 | [],st=>.ok st
 | w :: r,st=>match vh st w with | .ok st'=>VM r st' | .error e=>.error e
theorem K0:∀ (p q:List Str) (st:List (List V)),VM (p ++ q) st=match VM p st with | .ok st'=>VM q st' | .error e=>.error e
 | [],q,st=>rfl
 | v :: r,q,st=>by
  show (match vh st v with | .ok st'=>VM (r ++ q) st' | .error e=>.error e)=match (match vh st v with | .ok st'=>VM r st' | .error e=>.error e) with | .ok st'=>VM q st' | .error e=>.error e
  cases vh st v with
  | error e=>rfl
  | ok st'=>exact K0 r q st'
theorem VN {c:Const} {j:Nat} {p:Pos} {es:List Expr} {env:Env}:starEach (.Constant c j p :: es) env=(false,eval (.Constant c j p) env) :: starEach es env:=by
 first | rfl | simp only [starEach]
theorem vM {X:Cx} {es:List Expr} {t:TA} {x:Str} {j:Nat} {p:Pos} (hr:PA X es t):PA X (.Constant (.str x) j p :: es) (zb (tC (.str x)) t):=za zl hr VN
end L2
namespace L2
open PySem PySem.Spec PyProof.Rows
abbrev zc8:RC:=fun xs H Q=>∃ a kvs,xs=[.ref a]∧H a=some (.dK kvs)∧∀ p,H p=none→Q (.ref p) (upd H p (.dK kvs))
abbrev zc9:R2:=fun x y H Q=>∃ a b kvs,x=.ref a∧y=.ref b∧H a=some (.dK kvs)∧H b=some (.dK kvs)∧(∀ p∈kvs,∃ i,p.2=V.int i)∧Q (.bl false) H
section
variable {X:Cx}
end
theorem K3 {x:Str} (h:xz x=true):Asc x:=fun c hc=>by
 have:=zah c (List.all_eq_true.mp (qF h).2.2.2 c hc)
 lia
end L2
namespace L2
open PySem PySem.Spec PyProof.Rows
section
variable {P:Program} {w:World} {A:Around} {E:Value→Shared→Prop} {s:Shared}
end
section
variable {P:Program} {w:World} {A:Around} {E:Value→Shared→Prop} {s:Shared}
end
section
variable {P:Program} {w:World} {A:Around} {E:Value→Shared→Prop} {s:Shared}
end
def Itz (K:W.Frag) (p q:Addr) (xs ys:List V):It:=⟨fun i H=>i < xs.length∧SqT K H p xs∧SqT K H q ys,fun i H x H'=>∃ T u v,x=.ref T∧H T=none∧H'=upd H T (.tup [u,v])∧xs[i]?=some u∧ys[i]?=some v,fun i H=>xs.length≤i∧SqT K H p xs∧SqT K H q ys⟩
def zda (K:W.Frag) (ta:TA):TI:=fun σ H R=>ta σ H fun vs H1=>∃ p q xs ys,vs=[.ref p,.ref q]∧SqT K H1 p xs∧SqT K H1 q ys∧xs.length=ys.length∧R (Itz K p q xs ys) H1
section
variable {X:Cx}
end
section
variable {σ:St} {H:Hp} {nx:St→Hp→Prop} {B:V→St→Hp→(St→Hp→Prop)→Prop}
end
abbrev K7 (K:W.Frag):RC:=fun xs H Q=>∃ p ys,xs=[.ref p]∧((SqL K H p ys∧∀ l,H l=none→Q (.ref l) (upd H l (.tup ys)))∨(SqT K H p ys∧Q (.ref p) H))
def Jr (st:List (List V)) (v:V):Option (List (List V)):=if isJ v=true then (match st.reverse with | b :: a :: r=>some (r.reverse ++ [v :: (a ++ b)]) | _=>none) else some (st ++ [[v]])
def VO:List V→List (List V)→Option (List (List V))
 | [],st=>some st
 | v :: r,st=>(Jr st v).bind (VO r)
theorem K8:∀ (p q:List V) (st:List (List V)),VO (p ++ q) st=(VO p st).bind (VO q)
 | [],q,st=>rfl
 | v :: r,q,st=>by
  show (Jr st v).bind (VO (r ++ q))=((Jr st v).bind (VO r)).bind (VO q)
  cases Jr st v with
  | none=>rfl
  | some st'=>exact K8 r q st'
end L2
namespace L2
open PySem PySem.W PyProof.Rows
section
variable {α β:Type} {lt:Nat→Nat→Bool} {n:Nat}
def kOk (lt:Nat→Nat→Bool) (n:Nat):KasT α→(α→Prop)→Prop
 | .ret a,R=>R a
 | .ask i j k,R=>i < n∧j < n∧i≠j∧kOk lt n (k (lt i j)) R
theorem ja:∀ {t:KasT α} {f:α→KasT β} {R:β→Prop},kOk lt n t (fun a=>kOk lt n (f a) R)→kOk lt n (t.bind f) R
 | .ret _,_,_,h=>h
 | .ask _ _ _,_,_,h=>⟨h.1,h.2.1,h.2.2.1,ja h.2.2.2⟩
theorem wH:∀ {t:KasT α} {R R':α→Prop},kOk lt n t R→(∀ a,R a→R' a)→kOk lt n t R'
 | .ret _,_,_,h,m=>m _ h
 | .ask _ _ _,_,_,h,m=>⟨h.1,h.2.1,h.2.2.1,wH h.2.2.2 m⟩
structure SO (lt:Nat→Nat→Bool) (n:Nat):Prop where
 irr:∀ i,i < n→lt i i=false
 trans:∀ i j k,i < n→j < n→k < n→lt i j=true→lt j k=true→lt i k=true
 tot:∀ i j,i < n→j < n→i≠j→lt i j=false→lt j i=true
def PP (n:Nat) (p:Array Nat):Prop:=p.Perm (List.range n).toArray
def gt (p:Array Nat) (k:Nat):Nat:=p.getD k 0
theorem jN {p:Array Nat} {k:Nat} (h:k < p.size):p[k]?=some (gt p k):=by
 unfold gt
 rw [Array.getD_eq_getD_getElem?,Array.getElem?_eq_getElem h]
 rfl
theorem PP.size {p:Array Nat} (h:PP n p):p.size=n:=by
 have:=h.size_eq
 simpa using this
theorem PP.blt {p:Array Nat} (h:PP n p) {k:Nat} (hk:k < n):gt p k < n:=by
 have hs:=h.size
 have m:gt p k∈p:=Array.mem_of_getElem? (jN (by lia))
 have m2:gt p k∈(List.range n).toArray:=(Array.Perm.mem_iff h).mp m
 simpa using m2
theorem PP.inj {p:Array Nat} (h:PP n p) {i j:Nat} (hi:i < n) (hj:j < n) (e:gt p i=gt p j):i=j:=by
 have hs:=h.size
 have nd:p.toList.Nodup:=by
  have:p.toList.Perm (List.range n):=by
   have:=Array.perm_iff_toList_perm.mp h
   simpa using this
  exact this.nodup_iff.mpr List.nodup_range
 have e1:=jN (p:=p) (k:=i) (by lia)
 have e2:=jN (p:=p) (k:=j) (by lia)
 rw [← e] at e2
 have e1':p.toList[i]?=some (gt p i):=by simpa using e1
 have e2':p.toList[j]?=some (gt p i):=by simpa using e2
 obtain ⟨a1,b1⟩:=List.getElem?_eq_some_iff.mp e1'
 obtain ⟨a2,b2⟩:=List.getElem?_eq_some_iff.mp e2'
 exact (List.getElem_inj nd).mp (b1.trans b2.symm)
def kZ (lt:Nat→Nat→Bool) (p:Array Nat) (m:Nat):Prop:=∀ i j,i < j→j < m→lt (gt p i) (gt p j)=true
def zbh (lt:Nat→Nat→Bool) (p:Array Nat) (m:Nat):Prop:=∀ i j,i < j→j < m→lt (gt p j) (gt p i)=true
theorem VP (S:SO lt n) {p:Array Nat} (hp:PP n p):∀ (f a:Nat),1≤a→a + f≤n→kZ lt p a→kOk lt n (kas_asc p f a) fun m=>a≤m∧m≤a + f∧kZ lt p m∧(m < a + f→lt (gt p m) (gt p (m - 1))=true)
 | 0,a,h1,h2,hr=>⟨Nat.le_refl _,Nat.le_refl _,hr,fun z=>absurd z (Nat.lt_irrefl _)⟩
 | f + 1,a,h1,h2,hr=>by
  refine ⟨hp.blt (by lia),hp.blt (by lia),(fun z=>by have:=hp.inj (by lia) (by lia) z;lia),?_⟩
  show kOk lt n (if lt (gt p a) (gt p (a - 1))=true then .ret a else kas_asc p f (a + 1)) _
  by_cases c:lt (gt p a) (gt p (a - 1))=true
  ·rw [if_pos c]
   exact ⟨Nat.le_refl _,by lia,hr,fun _=>c⟩
  ·rw [if_neg c]
   have up:lt (gt p (a - 1)) (gt p a)=true:=S.tot _ _ (hp.blt (by lia)) (hp.blt (by lia)) (fun z=>by have:=hp.inj (by lia) (by lia) z;lia) (Bool.eq_false_iff.mpr c)
   refine wH (VP S hp f (a + 1) (by lia) (by lia) fun i j hij hj=>?_) fun m ⟨x1,x2,x3,x4⟩=>⟨by lia,by lia,x3,fun z=>x4 (by lia)⟩
   by_cases hja:j < a
   ·exact hr i j hij hja
   ·obtain rfl:j=a:=by lia
    by_cases hi:i=j - 1
    ·rw [hi];exact up
    ·exact S.trans _ _ _ (hp.blt (by lia)) (hp.blt (by lia)) (hp.blt (by lia)) (hr i (j - 1) (by lia) (by lia)) up
theorem Js (S:SO lt n) {p:Array Nat} (hp:PP n p):∀ (f a:Nat),1≤a→a + f≤n→zbh lt p a→kOk lt n (kas_desc f p a 0) fun r=>r.1=p∧r.2.2=0∧a≤r.2.1∧r.2.1≤a + f∧zbh lt p r.2.1
 | 0,a,h1,h2,hr=>⟨rfl,rfl,Nat.le_refl _,Nat.le_refl _,hr⟩
 | f + 1,a,h1,h2,hr=>by
  refine ⟨hp.blt (by lia),hp.blt (by lia),(fun z=>by have:=hp.inj (by lia) (by lia) z;lia),?_⟩
  show kOk lt n (if lt (gt p a) (gt p (a - 1))=true then (if 0 > 0 then _ else kas_desc f p (a + 1) 0) else .ask (gt p (a - 1)) (gt p a) fun d=>if d=true then .ret (p,a,0) else kas_desc f p (a + 1) (0 + 1)) _
  by_cases c:lt (gt p a) (gt p (a - 1))=true
  ·rw [if_pos c,if_neg (by lia)]
   refine wH (Js S hp f (a + 1) (by lia) (by lia) fun i j hij hj=>?_) fun m ⟨x1,x2,x3,x4,x5⟩=>⟨x1,x2,by lia,by lia,x5⟩
   by_cases hja:j < a
   ·exact hr i j hij hja
   ·obtain rfl:j=a:=by lia
    by_cases hi:i=j - 1
    ·rw [hi];exact c
    ·exact S.trans _ _ _ (hp.blt (by lia)) (hp.blt (by lia)) (hp.blt (by lia)) c (hr i (j - 1) (by lia) (by lia))
  ·rw [if_neg c]
   have up:lt (gt p (a - 1)) (gt p a)=true:=S.tot _ _ (hp.blt (by lia)) (hp.blt (by lia)) (fun z=>by have:=hp.inj (by lia) (by lia) z;lia) (Bool.eq_false_iff.mpr c)
   refine ⟨hp.blt (by lia),hp.blt (by lia),(fun z=>by have:=hp.inj (by lia) (by lia) z;lia),?_⟩
   show kOk lt n (if lt (gt p (a - 1)) (gt p a)=true then .ret (p,a,0) else _) _
   rw [if_pos up]
   exact ⟨rfl,rfl,Nat.le_refl _,Nat.le_add_right _ _,hr⟩
theorem K9 {p:Array Nat} {m k:Nat} (hm:m≤p.size) (hk:k < m):gt (kas_rev p 0 m) k=gt p (m - 1 - k):=by
 have e:=getElem?_mirror_all (xs:=p) (i:=0) (j:=m) hm k
 rw [if_pos ⟨Nat.zero_le _,hk⟩] at e
 have e1:=jN (p:=kas_rev p 0 m) (k:=k) (by unfold kas_rev;rw [mirror_size];lia)
 have e2:=jN (p:=p) (k:=m - 1 - k) (by lia)
 unfold kas_rev at e1 ⊢
 rw [e,show 0 + m - 1 - k=m - 1 - k by lia,e2] at e1
 exact (Option.some.inj e1).symm
theorem PP.rev {p:Array Nat} (h:PP n p) (m:Nat):PP n (kas_rev p 0 m):=Array.Perm.trans (mirror_perm _ _ _ _) h
theorem zai (S:SO lt n) {p:Array Nat} (hp:PP n p) {m:Nat} (h1:1≤m) (h2:m≤n) (hf:zbh lt p m):kOk lt n (kas_tail3 m n p) fun r=>PP n r.2∧kZ lt r.2 r.1∧1≤r.1∧r.1≤n:=by
 refine ja (wH (VP S (hp.rev m) (n - m) m h1 (by lia) fun i j hij hj=>?_) fun a ⟨x1,x2,x3,_⟩=>⟨hp.rev m,x3,by lia,by lia⟩)
 have hs:=hp.size
 rw [K9 (by lia) (by lia),K9 (by lia) hj]
 exact hf _ _ (by lia) (by lia)
theorem Qa (S:SO lt n) {p:Array Nat} (hp:PP n p) (hn:1≤n):kOk lt n (kas_count n p) fun r=>PP n r.2∧kZ lt r.2 r.1∧1≤r.1∧r.1≤n:=by
 refine ja (wH (VP S hp (n - 1) 1 (Nat.le_refl _) (by lia) fun i j hij hj=>by lia) fun m ⟨x1,x2,x3,x4⟩=>?_)
 by_cases e:(m == n)=true
 ·rw [if_pos e]
  exact ⟨hp,x3,x1,by lia⟩
 ·rw [if_neg e]
  have ne:m≠n:=by simpa using e
  by_cases h:m > 1
  ·rw [if_pos h]
   refine ⟨hp.blt (by lia),hp.blt (by lia),(fun z=>by have:=hp.inj (by lia) (by lia) z;lia),?_⟩
   show kOk lt n (if lt (gt p 0) (gt p (m - 1))=true then .ret (m,p) else _) _
   rw [if_pos (x3 0 (m - 1) (by lia) (by lia))]
   exact ⟨hp,x3,x1,by lia⟩
  ·rw [if_neg h]
   obtain rfl:m=1:=by lia
   have c:=x4 (by lia)
   refine ja (wH (Js S hp (n - 2) 2 (by lia) (by lia) fun i j hij hj=>?_) fun r ⟨y1,y2,y3,y4,y5⟩=>?_)
   ·obtain rfl:j=1:=by lia
    obtain rfl:i=0:=by lia
    exact c
   ·rw [if_neg (by lia),y1]
    exact zai S hp (by lia) (by lia) y5
theorem Ys (S:SO lt n) {p:Array Nat} (hp:PP n p) {k:Nat} (hk:k < n) (hr:kZ lt p k):∀ (f l r:Nat),l≤r→r≤k→r - l≤f→(∀ i,i < l→lt (gt p i) (gt p k)=true)→(∀ i,r≤i→i < k→lt (gt p k) (gt p i)=true) →
  kOk lt n (kas_place p k f l r) fun m=>m≤k∧(∀ i,i < m→lt (gt p i) (gt p k)=true)∧∀ i,m≤i→i < k→lt (gt p k) (gt p i)=true
 | 0,l,r,h1,h2,h3,h4,h5=>⟨by lia,h4,fun i hi hik=>h5 i (by lia) hik⟩
 | f + 1,l,r,h1,h2,h3,h4,h5=>by
  unfold kas_place
  by_cases c:l ≥ r
  ·rw [if_pos c]
   exact ⟨by lia,h4,fun i hi hik=>h5 i (by lia) hik⟩
  ·rw [if_neg c]
   refine ⟨hp.blt (by lia),hp.blt (by lia),(fun z=>by have:=hp.inj (by lia) (by lia) z;lia),?_⟩
   show kOk lt n (if lt (gt p k) (gt p ((l + r) / 2))=true then _ else _) _
   by_cases d:lt (gt p k) (gt p ((l + r) / 2))=true
   ·rw [if_pos d]
    refine Ys S hp hk hr f l ((l + r) / 2) (by lia) (by lia) (by lia) h4 fun i hi hik=>?_
    by_cases e:i=(l + r) / 2
    ·rw [e];exact d
    ·exact S.trans _ _ _ (hp.blt (by lia)) (hp.blt (by lia)) (hp.blt (by lia)) d (hr _ i (by lia) hik)
   ·rw [if_neg d]
    have up:lt (gt p ((l + r) / 2)) (gt p k)=true:=S.tot _ _ (hp.blt (by lia)) (hp.blt (by lia)) (fun z=>by have:=hp.inj (by lia) (by lia) z;lia) (Bool.eq_false_iff.mpr d)
    refine Ys S hp hk hr f ((l + r) / 2 + 1) r (by lia) (by lia) (by lia) (fun i hi=>?_) h5
    by_cases e:i=(l + r) / 2
    ·rw [e];exact up
    ·exact S.trans _ _ _ (hp.blt (by lia)) (hp.blt (by lia)) (hp.blt (by lia)) (hr i _ (by lia) (by lia)) up
theorem Qb {p:Array Nat} {k d j:Nat} (hk:k < p.size) (hd:d≤k) (hj:j < p.size):gt (bubble p k d) j=if j=k - d then gt p k else if k - d < j∧j≤k then gt p (j - 1) else gt p j:=by
 have e:=getElem?_bubble hk d hd j
 rw [jN (p:=bubble p k d) (k:=j) (by rw [bubble_size];exact hj)] at e
 by_cases h1:j=k - d
 ·rw [if_pos h1,jN hk] at e
  rw [if_pos h1];exact Option.some.inj e
 ·rw [if_neg h1] at e ⊢
  by_cases h2:k - d < j∧j≤k
  ·rw [if_pos h2,jN (by lia)] at e
   rw [if_pos h2];exact Option.some.inj e
  ·rw [if_neg h2,jN hj] at e
   rw [if_neg h2];exact Option.some.inj e
theorem Qc (S:SO lt n):∀ (f:Nat) {p:Array Nat} (k:Nat),PP n p→k + f=n→kZ lt p k→kOk lt n (kas_bin f p k) fun p'=>PP n p'∧kZ lt p' n
 | 0,p,k,hp,hk,hr=>⟨hp,by rw [← hk];exact hr⟩
 | f + 1,p,k,hp,hk,hr=>by
  have hs:=hp.size
  refine ja (wH (Ys S hp (by lia) hr k 0 k (Nat.zero_le _) (Nat.le_refl _) (by lia) (fun i hi=>by lia) (fun i h1 h2=>by lia)) fun l ⟨x1,x2,x3⟩=>?_)
  refine Qc S f (k + 1) (Array.Perm.trans (bubble_perm _ _ _) hp) (by lia) fun i j hij hj=>?_
  rw [Qb (by lia) (by lia) (by lia),Qb (by lia) (by lia) (by lia)]
  have e:k - (k - l)=l:=by lia
  rw [e]
  by_cases hi:i=l
  ·rw [if_pos hi,if_neg (by lia),if_pos (by lia)]
   exact x3 _ (by lia) (by lia)
  ·rw [if_neg hi]
   by_cases hi2:l < i∧i≤k
   ·rw [if_pos hi2,if_neg (by lia),if_pos (by lia)]
    exact hr _ _ (by lia) (by lia)
   ·rw [if_neg hi2]
    by_cases hj1:j=l
    ·rw [if_pos hj1]
     exact x2 _ (by lia)
    ·rw [if_neg hj1]
     by_cases hj2:l < j∧j≤k
     ·rw [if_pos hj2]
      by_cases hij2:i < j - 1
      ·exact hr _ _ hij2 (by lia)
      ·lia
     ·rw [if_neg hj2]
      exact hr _ _ hij (by lia)
theorem zaj (S:SO lt n) (hn:1≤n):kOk lt n (kas_sort n) fun p=>PP n p∧kZ lt p n:=by
 refine ja (wH (Qa S (p:=List.toArray (List.range n)) (Array.Perm.refl _) hn) fun r ⟨x1,x2,x3,x4⟩=>?_)
 by_cases h:r.1 < n
 ·rw [if_pos h,Nat.max_eq_left x3]
  exact Qc S _ _ x1 (by lia) x2
 ·rw [if_neg h]
  obtain e:r.1=n:=by lia
  exact ⟨x1,by rw [← e];rw [e] at x2 ⊢;exact x2⟩
end
end L2
namespace L2
open PySem PySem.W PyProof.Rows
theorem Qd {α:Type} {lt:Nat→Nat→Bool} {n:Nat} {s:Shared} {cmp:Nat→Nat→(Bool→Shared→Prop)→Shared→Prop} (hc:∀ i j C,i < n→j < n→i≠j→C (lt i j) s→cmp i j C s):∀ {t:KasT α} {R:α→Prop} {Q:α→Shared→Prop},kOk lt n t R→(∀ a,R a→Q a s)→t.kasWp cmp Q s
 | .ret _,_,_,h,m=>m _ h
 | .ask _ _ _,_,_,h,m=>hc _ _ _ h.1 h.2.1 h.2.2.1 (Qd hc h.2.2.2 m)
def Kp (a:Addr) (h h':Heap):Prop:=∀ b o,b≠a→h.get? b=some o→h'.get? b=some o
def jO (vs:List Value) (p:Array Nat):List Value:=p.toList.map fun i=>vs.getD i Value.none
theorem WJ (vs:List Value):jO vs (List.toArray (List.range vs.length))=vs:=by
 unfold jO
 apply List.ext_getElem?
 intro i
 simp only [List.getElem?_map]
 by_cases h:i < vs.length
 ·rw [List.getElem?_eq_getElem (l:=vs) h]
  simp [List.getElem?_range h,h]
 ·rw [List.getElem?_eq_none (by lia:vs.length≤i)]
  simp
  lia
section
variable {P:Program} {w:World} {A:Around} {E:Value→Shared→Prop} {s:Shared}
theorem VQ {a:Addr} {vs:List Value} {n:Nat} {κ:SortKind} {lt:Nat→Nat→Bool} {R:PySem.Fin→Shared→Prop} (ho:s.heap.get? a=some (seqObj "list" vs.toArray n)) (h64:vs.length < 64)
  (hk:2≤vs.length→∀ (h:Heap) (Q:SortKind→Shared→Prop),Kp a s.heap h→Q κ { s with heap:=h }→wpAny (model P w) A (keyKind' vs.toArray) Q (fun _ _=>False) { s with heap:=h })
  (hc:∀ (h:Heap) i j C,Kp a s.heap h→i < vs.length→j < vs.length→i≠j→C (lt i j) { s with heap:=h }→kas_ask P w A κ vs i j C { s with heap:=h }) (S:SO lt vs.length)
  (fin:∀ h p c,Kp a s.heap h→h.get? a=some (seqObj "list" (jO vs p).toArray c)→PP vs.length p→kZ lt p vs.length→R (.done (.ret .none)) { s with heap:=h }) :
  wpAny (model P w) A (Builtin.«list.sort» ⟨[.ref a],[]⟩) R E s:=by
 have ha:a < s.heap.objs.size:=Heap.lt_size ho
 obtain ⟨e1,o1⟩:∃ e1,(s.heap.update a (Obj.mapSeq fun _=>(#[]:Array Value))).get? a=some (seqObj "list" #[] e1):=⟨_,get?_update_seq ho fun _=>#[]⟩
 have k1:Kp a s.heap (((s.heap.update a (Obj.mapSeq fun _=>(#[]:Array Value))).push (seqObj "tuple" vs.toArray 0)).push (seqObj "list" #[] 0)):=fun b o hb e =>
  Heap.get?_push_of_some _ (Heap.get?_push_of_some _ ((Heap.get?_update_other _ _ (Ne.symm hb)).trans e))
 have o3:(((s.heap.update a (Obj.mapSeq fun _=>(#[]:Array Value))).push (seqObj "tuple" vs.toArray 0)).push (seqObj "list" #[] 0)).get? a=some (seqObj "list" #[] e1):=Heap.get?_push_of_some _ (Heap.get?_push_of_some _ o1)
 have last:∀ out:List Value,out.length=vs.length→∃ c,((((s.heap.update a (Obj.mapSeq fun _=>(#[]:Array Value))).push (seqObj "tuple" vs.toArray 0)).push (seqObj "list" #[] 0)).update a (Obj.mapSeq fun _=>out.toArray)).get? a=some (seqObj "list" out.toArray c):=fun out _=>⟨_,get?_update_seq o3 fun _=>out.toArray⟩
 have keep2:∀ out:List Value,Kp a s.heap ((((s.heap.update a (Obj.mapSeq fun _=>(#[]:Array Value))).push (seqObj "tuple" vs.toArray 0)).push (seqObj "list" #[] 0)).update a (Obj.mapSeq fun _=>out.toArray)):=fun out b o hb e =>
  (Heap.get?_update_other _ _ (Ne.symm hb)).trans (k1 b o hb e)
 rw [list_sort_plain];refine wpAny_bind (listItems_at ho rfl ?_)
 refine wpAny_bind (listUpdate_at ho rfl ?_ (by rw [List.size_toArray,sizeLine_eq];lia) (Nat.zero_le _));refine wpAny_bind (seqEpoch_at o1 rfl ?_)
 refine wpAny_bind (wpAny_newTuple ?_ (by show vs.length≤_;rw [sizeLine_eq];lia));refine wpAny_bind (wpAny_newList ?_ (Nat.zero_le _));refine wpAny_holding ?_
 show wpAny (model P w) A _ R E { s with heap:=((s.heap.update a (Obj.mapSeq fun _=>(#[]:Array Value))).push (seqObj "tuple" vs.toArray 0)).push (seqObj "list" #[] 0) }
 generalize hH:((s.heap.update a (Obj.mapSeq fun _=>(#[]:Array Value))).push (seqObj "tuple" vs.toArray 0)).push (seqObj "list" #[] 0)=g at *
 dsimp only
 have up:∀ out:List Value,out.length=vs.length→∀ p,out=jO vs p→PP vs.length p→kZ lt p vs.length→R (.done (.ret .none)) { s with heap:=g.update a (Obj.mapSeq fun _=>out.toArray) }:=fun out hl p e hp hr=>by
  obtain ⟨c,hcc⟩:=last out hl
  refine fin _ p c (keep2 out) ?_ hp hr
  rw [← e];exact hcc
 by_cases h2:vs.toArray.size < 2
 ·have hl2:vs.length < 2:=by simpa using h2
  rw [if_pos h2,if_pos h2];refine wpAny_bind (wpAny_pure ?_);rw [StateT.run_pure];refine wpAny_bind (wpAny_pure ?_)
  dsimp only
  have ez:((vs.toArray.zip vs.toArray).map (·.2))=vs.toArray:=by
   apply Array.toList_inj.mp
   rw [Array.toList_map,Array.toList_zip]
   simp [List.map_snd_zip]
  refine wpAny_bind (seqEpoch_at o3 rfl ?_)
  rw [show (arrOf (SortSt.mk' general' (vs.toArray.zip vs.toArray) #[] 7 none))=vs.toArray.zip vs.toArray from rfl,ez]
  refine wpAny_bind (listUpdate_at o3 rfl ?_ (Nat.zero_le _) (by rw [List.size_toArray,sizeLine_eq];lia))
  simp only [bne_self_eq_false,Bool.false_eq_true,if_false]
  exact wpAny_pure (up vs rfl _ (WJ vs).symm (Array.Perm.refl _) fun i j hij hj=>by lia)
 ·have hl2:2≤vs.length:=by simpa using h2
  rw [if_neg h2,if_neg h2];refine wpAny_bind (wpAny_mono (hk hl2 g (fun κ' s'=>κ'=κ∧s'={ s with heap:=g }) k1 ⟨rfl,rfl⟩) (fun κ' s' hs=>?_) fun _ _ x=>x.elim)
  obtain ⟨rfl,rfl⟩:=hs
  have run:=Qd (s:={ s with heap:=g }) (cmp:=kas_ask P w A κ' vs) (fun i j C hi hj hij hC=>hc g i j C k1 hi hj hij hC) (zaj S (by lia)) (Q:=fun p s'=>s'={ s with heap:=g }∧PP vs.length p∧kZ lt p vs.length) fun p hp=>⟨rfl,hp⟩
  refine wpAny_bind (wpAny_mono (kat_run (ks:=vs) (Q:=fun st s'=>∃ p:Array Nat,arrOf st=p.map (kas_item (vs.toArray.zip vs.toArray))∧failedOf st=none∧s'={ s with heap:=g }∧PP vs.length p∧kZ lt p vs.length) rfl hl2 h64 (fun p st s' _ a2 a3 a4=>⟨p,a2,a3,a4⟩) run) ?_ fun _ _ e=>e)
  rintro ⟨⟨⟩,st⟩ s' ⟨p,har,hf,rfl,hp,hr⟩
  dsimp only
  have out:=kat_snds (ks:=vs) rfl har
  have ol:(jO vs p).length=vs.length:=by unfold jO;rw [List.length_map,Array.length_toList,hp.size]
  rw [out];refine wpAny_bind (seqEpoch_at o3 rfl ?_)
  refine wpAny_bind (listUpdate_at o3 rfl ?_ (Nat.zero_le _) (by show (List.toArray (jO vs p)).size≤_;rw [List.size_toArray,ol,sizeLine_eq];lia));rw [hf]
  simp only [bne_self_eq_false,Bool.false_eq_true,if_false]
  exact wpAny_pure (up (jO vs p) ol p rfl hp hr)
end
end L2
namespace L2
open PySem PySem.W PyProof.Rows
def yp (a b:Str × Int):Bool:=if a.1=b.1 then decide (a.2 < b.2) else decide (a.1.cps.toList < b.1.cps.toList)
def PlAt (h:Heap) (v:Value) (q:Str × Int):Prop:=∃ a o t u n,v=.ref a∧h.get? a=some o∧o.cls=.type "tuple"∧o.data=.seq #[.str q.1 t,.int q.2 u] n
section
variable {P:Program} {w:World} {A:Around} {E:Value→Shared→Prop} {s:Shared}
end
theorem WK {x y:Str} (h:x.cps.toList=y.cps.toList):x=y:=by
 obtain ⟨a⟩:=x
 obtain ⟨b⟩:=y
 have:a=b:=Array.toList_inj.mp h
 rw [this]
theorem VR {qs:List (Str × Int)} (hn:qs.Nodup):SO (fun i j=>yp (qs.getD i ("",0)) (qs.getD j ("",0))) qs.length where
 irr:=fun i _=>by
  unfold yp
  rw [if_pos rfl]
  exact decide_eq_false (by lia)
 trans:=fun i j k _ _ _ h1 h2=>by
  generalize qs.getD i ("",0)=a at *
  generalize qs.getD j ("",0)=b at *
  generalize qs.getD k ("",0)=c at *
  unfold yp at *
  by_cases e1:a.1=b.1
  ·rw [if_pos e1] at h1
   by_cases e2:b.1=c.1
   ·rw [if_pos e2] at h2
    rw [if_pos (e1.trans e2)]
    have h1:=of_decide_eq_true h1
    have h2:=of_decide_eq_true h2
    exact decide_eq_true (by lia)
   ·rw [if_neg e2] at h2
    rw [if_neg (by rw [e1];exact e2),e1]
    exact h2
  ·rw [if_neg e1] at h1
   have h1:=of_decide_eq_true h1
   by_cases e2:b.1=c.1
   ·rw [if_neg (by rw [← e2];exact e1),← e2]
    exact decide_eq_true h1
   ·rw [if_neg e2] at h2
    have h2:=of_decide_eq_true h2
    have h3:=List.lt_trans h1 h2
    rw [if_neg (fun z=>by rw [z] at h3;exact List.lt_irrefl _ h3)]
    exact decide_eq_true h3
 tot:=fun i j hi hj hij h=>by
  have ne:qs.getD i ("",0)≠qs.getD j ("",0):=fun z=>hij (by
   rw [List.getD_eq_getElem?_getD,List.getD_eq_getElem?_getD,List.getElem?_eq_getElem hi,List.getElem?_eq_getElem hj] at z
   exact (List.getElem_inj hn).mp z)
  generalize qs.getD i ("",0)=a at *
  generalize qs.getD j ("",0)=b at *
  unfold yp at *
  by_cases e:a.1=b.1
  ·rw [if_pos e] at h
   rw [if_pos e.symm]
   have h:=of_decide_eq_false h
   have:a.2≠b.2:=fun z=>ne (Prod.ext e z)
   exact decide_eq_true (by lia)
  ·rw [if_neg e] at h
   rw [if_neg (fun z=>e z.symm)]
   have h:=of_decide_eq_false h
   refine decide_eq_true ?_
   rcases List.le_iff_lt_or_eq.mp (List.not_lt.mp h) with z | z
   ·exact z
   ·exact absurd (WK z.symm) e
end L2
namespace L2
open PySem
def RawD (h:Heap) (d:Addr) (es:Array DictEntry) (ep:Nat):Prop:=∃ o,h.get? d=some o∧o.ExactDict∧o.data=.dict es ep
section
variable {P:Program} {w:World} {A:Around} {E:Value→Shared→Prop} {s:Shared}
theorem RawD.at {h h':Heap} {d:Addr} {es:Array DictEntry} {ep:Nat} (x:RawD h d es ep) (e:∀ o,h.get? d=some o→h'.get? d=some o):RawD h' d es ep:=let ⟨o,ho,r⟩:=x;⟨o,e _ ho,r⟩
end
end L2
namespace L2
open PySem PySem.Spec PyProof.Rows
section
open PySem.SeqAt
open PySem.AutoSeq1 (wpAny_loadPart')
open PySem.MeetsSeq PySem.MeetsSeq2 PySem.MeetsSeq3
theorem Yt (l b:Addr) (x y:Str) (i j:Int) (t u t2 u2:Tok) (n n2:Nat) (dd dd2:Option Addr) (sl sl2:Array (Option Value)) :
  Meets (Builtin.«tuple.__lt__» ⟨[.ref l,.ref b],[]⟩) (fun _ R s=>s.heap.get? l=some { cls:=.type "tuple",dict:=dd,data:=.seq #[.str x t,.int i u] n,slots:=sl } ∧
   s.heap.get? b=some { cls:=.type "tuple",dict:=dd2,data:=.seq #[.str y t2,.int j u2] n2,slots:=sl2 }∧R (.ok (.ret (.bool (yp (x,i) (y,j))))) s) :=
 .of_wp fun prog w A R s h=>by
  obtain ⟨hp,g,d,tk,os⟩:=s;obtain ⟨hl,hb,h⟩:=h
  have f2:=AutoSeq1.sub_tuple_tuple
  have lt1:∀ (E:Value→Shared→Prop) (Q:Value→Shared→Prop) (s:Shared),Q (.bool (decide (x.cps.toList < y.cps.toList))) s→wpAny (model prog w) A.in1 (richCompare .Lt (.str x t) (.str y t2)) Q E s:=fun E Q s q=>(PyProof.Rows.lt_str q:wpAny (model prog w) A.in1 (compareOp .Lt (.str x t) (.str y t2)) Q E s)
  have lt2:=HT.rcLt_int A.in1 ⟨hp,g,d,tk,os⟩ i u j u2 prog w
  by_cases e:x=y
  ·subst e
   have eq1:=SeqAt.EqAt.str_str (A:=A.in1) (s:=⟨hp,g,d,tk,os⟩) x t x t2 prog w
   rw [beq_self_eq_true] at eq1
   unfold yp at h
   rw [if_pos rfl] at h
   by_cases e2:i=j
   ·subst e2
    have eq2:=SeqAt.EqAt.int_int (A:=A.in1) (s:=⟨hp,g,d,tk,os⟩) i u i u2 prog w
    rw [beq_self_eq_true] at eq2
    wp_walk using wpAny_loadPart' hl,wpAny_loadPart' hb,eq1,eq2
    exact ⟨_,rfl,by simpa [Builtin.Tuple.tupleCompareSizes] using h⟩
   ·have eq2:=SeqAt.EqAt.int_int (A:=A.in1) (s:=⟨hp,g,d,tk,os⟩) i u j u2 prog w
    rw [show (i == j)=false from by simpa using e2] at eq2
    wp_walk using wpAny_loadPart' hl,wpAny_loadPart' hb,eq1,eq2,lt2
    exact ⟨_,rfl,by simpa using h⟩
  ·have eq1:=SeqAt.EqAt.str_str (A:=A.in1) (s:=⟨hp,g,d,tk,os⟩) x t y t2 prog w
   rw [show (x == y)=false from by simpa using e] at eq1
   unfold yp at h
   rw [if_neg e] at h
   wp_walk using wpAny_loadPart' hl,wpAny_loadPart' hb,eq1,lt1
   exact ⟨_,rfl,by simpa using h⟩
end
end L2
namespace L2
open PySem PySem.Spec PyProof.Rows
section
variable {P:Program} {w:World} {A:Around} {E:Value→Shared→Prop} {s:Shared}
theorem RawD.lt {h:Heap} {d:Addr} {es:Array DictEntry} {ep:Nat} (x:RawD h d es ep):d < h.objs.size:=let ⟨_,ho,_⟩:=x;Heap.lt_size ho
end
end L2
namespace L2
open PySem PySem.Spec PyProof.Rows
def zZ (q:Str × Int):List Key:=[.inr q.1,.inl q.2]
abbrev zcD:RC:=fun xs H Q=>∃ (a:Addr) (kvs:List (List Key × V)) (qs:List (Str × Int)),xs=[.ref a]∧H a=some (.dT kvs)∧kvs.map (·.1)=qs.map zZ∧kvs.length < 64 ∧
 ∀ (l:Addr) (ps:List (Addr × (Str × Int))),H l=none→(ps.map (·.2)).Perm qs→(ps.map (·.2)).Pairwise (fun a b=>yp a b=true)→(∀ n∈ps,H n.1=some (.tup [.str n.2.1,.int n.2.2]))→Q (.ref l) (upd H l (.lst (ps.map fun n=>V.ref n.1)))
theorem xm {α β:Type} {F:α→β→Prop}:∀ {l₁:List α} {l₂:List β},Paired F l₁ l₂→∀ {i:Nat} {a:α} {b:β},l₁[i]?=some a→l₂[i]?=some b→F a b
 | _,_,.nil,i,a,b,h,_=>by simp at h
 | _,_,.cons x r,0,a,b,h1,h2=>by
  simp only [List.getElem?_cons_zero,Option.some.injEq] at h1 h2
  subst h1 h2
  exact x
 | _,_,.cons x r,i + 1,a,b,h1,h2=>xm r (by simpa using h1) (by simpa using h2)
theorem PlAt.keep {h h':Heap} {v:Value} {q:Str × Int} (x:PlAt h v q) (k:∀ b o,h.get? b=some o→h'.get? b=some o):PlAt h' v q:=by
 obtain ⟨a,o,t,u,n,e,ho,r⟩:=x
 exact ⟨a,o,t,u,n,e,k _ _ ho,r⟩
section
variable {X:Cx}
theorem Qe {pins:List (Addr × Obj)} {σ:St} {H:Hp} {s:Shared} {a:Addr} {q:Str × Int} (I:Inv X pins σ H s) (h:H a=some (.tup [.str q.1,.int q.2])):PlAt s.heap (.ref a) q:=by
 obtain ⟨its,rv,⟨o,ho,hc,n,hd⟩,_⟩:=I.tuple (SqT.of h)
 cases rv with
 | cons r1 rr =>
  cases rr with
  | cons r2 rn =>
   cases rn
   obtain ⟨t,rfl⟩:=r1
   obtain ⟨u,rfl⟩:=r2
   exact ⟨a,o,t,u,n,rfl,ho,hc,hd⟩
theorem kN {α β:Type} {f:α→β}:∀ {l:List α},(l.map f).Nodup→l.Nodup
 | [],_=>List.nodup_nil
 | a :: r,h=>by
  rw [List.map_cons,List.nodup_cons] at h
  exact List.nodup_cons.mpr ⟨fun z=>h.1 (List.mem_map_of_mem z),kN h.2⟩
end
end L2
namespace L2
open PySem PySem.Spec PyProof.Rows
def Itd (a:Addr) (o:Obj) (kvs:List (List Key × V)):It :=
 ⟨fun i H=>H a=some (.frz o (.dT kvs))∧i < kvs.length,fun i H x H'=>H'=H∧∃ k v p,kvs[i]?=some (k,v)∧x=.ref p∧H p=some (.tup (k.map kV)),fun i H=>H a=some (.frz o (.dT kvs))∧kvs.length≤i⟩
section
variable {X:Cx}
def iDT (tl:TE):TI:=fun σ H R=>tl σ H fun x H1=>∃ a o kvs,x=.ref a∧H1 a=some (.frz o (.dT kvs))∧R (Itd a o kvs) H1
end
section
variable {σ:St} {H:Hp} {nx:St→Hp→Prop} {B:V→St→Hp→(St→Hp→Prop)→Prop}
end
end L2
namespace L2
open PySem PySem.Spec PyProof.Rows
mutual
inductive Dat (K:W.Frag) (H:Hp):V→PyData→Prop
 | non:Dat K H .non .none
 | bl (b:Bool):Dat K H (.bl b) (.bool b)
 | int (i:Int):Dat K H (.int i) (.int i)
 | str (x:Str):Dat K H (.str x) (.str x)
 | lst {a:Addr} {xs:List V} {ds:List PyData}:SqL K H a xs→DatAll K H xs ds→Dat K H (.ref a) (.list ds)
 | tup {a:Addr} {xs:List V} {ds:List PyData}:SqT K H a xs→DatAll K H xs ds→Dat K H (.ref a) (.tuple ds)
inductive DatAll (K:W.Frag) (H:Hp):List V→List PyData→Prop
 | nil:DatAll K H [] []
 | cons {x:V} {d:PyData} {xs:List V} {ds:List PyData}:Dat K H x d→DatAll K H xs ds→DatAll K H (x :: xs) (d :: ds)
end
section
variable {X:Cx} {pins:List (Addr × Obj)} {σ:St} {H:Hp} {s:Shared}
mutual
theorem Dat.reads (I:Inv X pins σ H s):∀ {x:V} {d:PyData} {u:Value},Dat X.K H x d→RelV x u→∃ as,Reads s.heap u d as
 | _,_,_,.non,r=>by cases r;exact ⟨_,.none⟩
 | _,_,_,.bl b,r=>by cases r;exact ⟨_,.bool b⟩
 | _,_,_,.int i,r=>by obtain ⟨t,rfl⟩:=r;exact ⟨_,.int i t⟩
 | _,_,_,.str x,r=>by obtain ⟨t,rfl⟩:=r;exact ⟨_,.str x t⟩
 | _,_,_,.lst hq ha,r=>by
  cases r
  obtain ⟨its,rv,⟨o,n,e,c,_,d⟩,_⟩:=I.list hq
  obtain ⟨as,ra⟩:=DatAll.reads I ha rv
  exact ⟨_,.list e c d (by simpa using ra)⟩
 | _,_,_,.tup hq ha,r=>by
  cases r
  obtain ⟨its,rv,⟨o,e,c,n,d⟩,_⟩:=I.tuple hq
  obtain ⟨as,ra⟩:=DatAll.reads I ha rv
  exact ⟨_,.tuple e c d (by simpa using ra)⟩
theorem DatAll.reads (I:Inv X pins σ H s):∀ {xs:List V} {ds:List PyData} {us:List Value},DatAll X.K H xs ds→Vals xs us→∃ as,ReadsAll s.heap us ds as
 | _,_,_,.nil,r=>by cases r;exact ⟨_,.nil⟩
 | _,_,_,.cons hx ht,r=>by
  cases r with
  | cons r1 rr =>
   obtain ⟨as,ra⟩:=Dat.reads I hx r1
   obtain ⟨bs,rb⟩:=DatAll.reads I ht rr
   exact ⟨_,.cons ra rb⟩
end
end
section
variable {K:W.Frag} {H H':Hp}
theorem SqL.mono {a:Addr} {xs:List V} (k:Same H H') (h:SqL K H a xs):SqL K H' a xs:=by
 rcases h with (h | ⟨o,h⟩) | h
 ·exact .inl (.inl (k _ _ h))
 ·exact .inl (.inr ⟨o,k _ _ h⟩)
 ·exact .inr h
theorem DatAll.of {α:Type} {f:α→V} {g:α→PyData}:∀ {l:List α},(∀ a∈l,Dat K H (f a) (g a))→DatAll K H (l.map f) (l.map g)
 | [],_=>.nil
 | a :: r,h=>.cons (h a List.mem_cons_self) (DatAll.of fun b hb=>h b (List.mem_cons_of_mem _ hb))
end
section
variable {X:Cx} {pins:List (Addr × Obj)} {σ:St} {H:Hp} {s:Shared}
end
mutual
def zX:PyData→Bool
 | .none=>true
 | .int _=>true
 | .str x=>PyData.strOk x
 | .list xs=>yu xs
 | .tuple xs=>yu xs
 | .bool _=>false
 | .dict _=>false
def yu:List PyData→Bool
 | []=>true
 | x :: xs=>zX x && yu xs
end
mutual
theorem Xl:∀ {d:PyData},zX d=true→d.canLay0=true
 | .none,_=>by simp [PyData.canLay0]
 | .int _,_=>by simp [PyData.canLay0]
 | .str x,h=>by simpa [PyData.canLay0,zX] using h
 | .list xs,h=>by rw [PyData.canLay0];exact qa (by simpa [zX] using h)
 | .tuple xs,h=>by rw [PyData.canLay0];exact qa (by simpa [zX] using h)
 | .bool _,h=>by simp [zX] at h
 | .dict _,h=>by simp [zX] at h
theorem qa:∀ {ds:List PyData},yu ds=true→PyData.canLayAll0 ds=true
 | [],_=>by simp [PyData.canLayAll0]
 | x :: xs,h=>by
  rw [yu,Bool.and_eq_true] at h
  rw [PyData.canLayAll0,Xl h.1,qa h.2];rfl
end
mutual
theorem Zc:∀ {d e:PyData},zX d=true→zX e=true→(PyData.eqv d e=true↔d=e)
 | .list xs,.list ys,h,h'=>by
  rw [PyData.eqv,qb (by simpa [zX] using h) (by simpa [zX] using h'),PyData.list.injEq]
 | .tuple xs,.tuple ys,h,h'=>by
  rw [PyData.eqv,qb (by simpa [zX] using h) (by simpa [zX] using h'),PyData.tuple.injEq]
 | .bool _,_,h,_=>by simp [zX] at h
 | .dict _,_,h,_=>by simp [zX] at h
 | .none,.bool _,_,h=>by simp [zX] at h
 | .int _,.bool _,_,h=>by simp [zX] at h
 | .str _,.bool _,_,h=>by simp [zX] at h
 | .list _,.bool _,_,h=>by simp [zX] at h
 | .tuple _,.bool _,_,h=>by simp [zX] at h
 | .none,.dict _,_,h=>by simp [zX] at h
 | .int _,.dict _,_,h=>by simp [zX] at h
 | .str _,.dict _,_,h=>by simp [zX] at h
 | .list _,.dict _,_,h=>by simp [zX] at h
 | .tuple _,.dict _,_,h=>by simp [zX] at h
 | .none,.none,_,_ | .none,.int _,_,_ | .none,.str _,_,_ | .none,.list _,_,_ | .none,.tuple _,_,_=>by simp [PyData.eqv]
 | .int _,.none,_,_ | .int _,.int _,_,_ | .int _,.str _,_,_ | .int _,.list _,_,_ | .int _,.tuple _,_,_=>by simp [PyData.eqv]
 | .str _,.none,_,_ | .str _,.int _,_,_ | .str _,.str _,_,_ | .str _,.list _,_,_ | .str _,.tuple _,_,_=>by simp [PyData.eqv]
 | .list _,.none,_,_ | .list _,.int _,_,_ | .list _,.str _,_,_ | .list _,.tuple _,_,_=>by simp [PyData.eqv]
 | .tuple _,.none,_,_ | .tuple _,.int _,_,_ | .tuple _,.str _,_,_ | .tuple _,.list _,_,_=>by simp [PyData.eqv]
theorem qb:∀ {xs ys:List PyData},yu xs=true→yu ys=true→(PyData.eqvAll xs ys=true↔xs=ys)
 | [],[],_,_=>by simp [PyData.eqvAll]
 | [],_ :: _,_,_=>by simp [PyData.eqvAll]
 | _ :: _,[],_,_=>by simp [PyData.eqvAll]
 | x :: xs,y :: ys,h,h'=>by
  rw [yu,Bool.and_eq_true] at h h'
  rw [PyData.eqvAll,Bool.and_eq_true,Zc h.1 h'.1,qb h.2 h'.2,List.cons.injEq]
end
abbrev XX (K:W.Frag) (neg:Bool):R2:=fun x y H Q=>∃ d e,Dat K H x d∧Dat K H y e∧(zX d=true∧zX e=true∧d.depth≤64∧e.depth≤64)∧∀ b:Bool,(b=true↔d=e)→Q (.bl (if neg then !b else b)) H
section
variable {X:Cx}
theorem wY {d:PyData} (h:zX d=true) (h':d.depth≤64):SeqAt.shaped d=true:=by
 unfold SeqAt.shaped
 rw [Xl h,decide_eq_true h'];rfl
theorem Qf (hu:X.A.units + 64 < cLine):OpR X (compareOp .Eq) (XX X.K false):=by
 intro pins s σ H x y v u Q I rx ry h
 obtain ⟨d,e,hd,he,⟨p1,p2,l1,l2⟩,q⟩:=h
 obtain ⟨as,ra⟩:=hd.reads I rx
 obtain ⟨bs,rb⟩:=he.reads I ry
 exact eq_dataH ra rb (wY p1 l1) (wY p2 l2) hu ⟨.bl _,H,I,rfl,q _ (Zc p1 p2)⟩
theorem Qg (hu:X.A.units + 64 < cLine):OpR X (compareOp .NotEq) (XX X.K true):=by
 intro pins s σ H x y v u Q I rx ry h
 obtain ⟨d,e,hd,he,⟨p1,p2,l1,l2⟩,q⟩:=h
 obtain ⟨as,ra⟩:=hd.reads I rx
 obtain ⟨bs,rb⟩:=he.reads I ry
 exact ne_dataH ra rb (wY p1 l1) (wY p2 l2) hu ⟨.bl _,H,I,rfl,q _ (Zc p1 p2)⟩
end
end L2
namespace L2
open PySem PySem.Spec PyProof.Rows
abbrev zdb:R2:=fun x y H Q=>∃ i j,x=.str i∧y=.str j∧Q (.bl (decide (j.cps.toList < i.cps.toList))) H
abbrev Zd (neg:Bool):R2:=fun x y H Q=>∃ a o,y=.ref a∧DGet H a x o∧Q (.bl (if neg then !o.isSome else o.isSome)) H
section
variable {X:Cx}
theorem ZU (hu:X.A.units + 1 < cLine):OpR X (compareOp .In) (Zd false):=by
 intro pins s σ H x y v u Q I rx ry h
 obtain ⟨a,o,rfl,g,q⟩:=h
 cases ry
 exact zca hu I g rx fun s' I'=>⟨.bl _,H,I',rfl,q⟩
theorem Yu (hu:X.A.units + 1 < cLine):OpR X (compareOp .NotIn) (Zd true):=by
 intro pins s σ H x y v u Q I rx ry h
 obtain ⟨a,o,rfl,g,q⟩:=h
 cases ry
 exact Q3 hu I g rx fun s' I'=>⟨.bl _,H,I',rfl,q⟩
end
end L2
namespace L2
open PySem
abbrev Pl:=Str × Int
abbrev Row:=Pl × Int
def zI:List Row→Pl→Option Int
 | [],_=>none
 | r :: t,p=>(zI t p).or (if r.1=p then some r.2 else none)
def qG (kvs:List (List Key × V)) (q:Row):List (List Key × V):=yJ kvs (zZ q.1) (.int q.2)
def dOf (rows:List Row):List (List Key × V):=rows.foldl qG []
theorem w6 {p q:Pl} (h:zZ p=zZ q):p=q:=by
 unfold zZ at h
 simp only [List.cons.injEq,Sum.inr.injEq,Sum.inl.injEq,and_true] at h
 exact Prod.ext h.1 h.2
theorem WL:∀ (rows:List Row) (kvs:List (List Key × V)) (p:Pl),yo (rows.foldl qG kvs) (zZ p)=((zI rows p).map V.int).or (yo kvs (zZ p))
 | [],_,_=>rfl
 | r :: t,kvs,p=>by
  rw [List.foldl_cons,WL t,zI]
  show _=_
  rw [qG,qz]
  cases zI t p with
  | some w=>rfl
  | none =>
   by_cases e:r.1=p
   ·subst e;simp
   ·rw [if_neg (fun z=>e (w6 z).symm)];simp [e]
theorem xt (rows:List Row) (p:Pl):yo (dOf rows) (zZ p)=(zI rows p).map V.int:=by
 unfold dOf
 rw [WL,Kz]
 cases zI rows p <;> rfl
theorem vi (rows:List Row) (q:Row):dOf (rows ++ [q])=yJ (dOf rows) (zZ q.1) (.int q.2):=by
 unfold dOf
 rw [List.foldl_append];rfl
def OkKv (kvs:List (List Key × V)):Prop:=(kvs.map (·.1)).Nodup∧∀ kv∈kvs,∃ (p:Pl) (w:Int),kv=(zZ p,.int w)
theorem OkKv.put {kvs:List (List Key × V)} (h:OkKv kvs) (p:Pl) (w:Int):OkKv (yJ kvs (zZ p) (.int w)):=by
 cases e:yo kvs (zZ p) with
 | none =>
  refine ⟨Q7 _ h.1 e,fun kv hk=>?_⟩
  rw [Z8 _ e] at hk
  rcases List.mem_append.mp hk with hk | hk
  ·exact h.2 kv hk
  ·exact ⟨p,w,List.mem_singleton.mp hk⟩
 | some v =>
  have q:(kvs.any fun kv=>decide (kv.1=zZ p))=true:=by rw [wE,e];rfl
  unfold yJ
  rw [if_pos q]
  constructor
  ·rw [List.map_map]
   have:((fun x:List Key × V=>x.1) ∘ fun kv:List Key × V=>if kv.1=zZ p then (kv.1,V.int w) else kv)=fun x=>x.1:=by
    funext kv
    show (if kv.1=zZ p then (kv.1,V.int w) else kv).1=kv.1
    split <;> rfl
   rw [this];exact h.1
  ·intro kv hk
   obtain ⟨z,hz,rfl⟩:=List.mem_map.mp hk
   by_cases e:z.1=zZ p
   ·exact ⟨p,w,by rw [if_pos e,e]⟩
   ·rw [if_neg e];exact h.2 z hz
theorem Xm:∀ (rows:List Row) (kvs:List (List Key × V)),OkKv kvs→OkKv (rows.foldl qG kvs)
 | [],_,h=>h
 | r :: t,kvs,h=>Xm t _ (h.put r.1 r.2)
theorem qH (rows:List Row):OkKv (dOf rows):=Xm rows [] ⟨List.nodup_nil,fun _ h=>nomatch h⟩
theorem zak (kvs:List (List Key × V)) (k:List Key) (v:V):(yJ kvs k v).length≤kvs.length + 1:=by
 unfold yJ
 split
 ·rw [List.length_map];lia
 ·rw [List.length_append];simp
theorem WM:∀ (rows:List Row) (kvs:List (List Key × V)),(rows.foldl qG kvs).length≤kvs.length + rows.length
 | [],_=>by simp
 | r :: t,kvs=>by
  have:=WM t (qG kvs r)
  have:=zak kvs (zZ r.1) (.int r.2)
  rw [List.foldl_cons,List.length_cons]
  unfold qG at *
  lia
theorem jk (rows:List Row):(dOf rows).length≤rows.length:=by have:=WM rows [];simpa [dOf] using this
theorem Jt {kvs:List (List Key × V)}:(kvs.map (·.1)).Nodup→∀ kv∈kvs,yo kvs kv.1=some kv.2:=by
 induction kvs with
 | nil=>exact fun _ kv h=>nomatch h
 | cons a r ih =>
  intro hn kv hk
  rw [List.map_cons,List.nodup_cons] at hn
  rcases List.mem_cons.mp hk with rfl | hk
  ·exact y6 rfl
  ·rw [y7 fun z=>hn.1 (by rw [z];exact List.mem_map_of_mem hk)]
   exact ih hn.2 kv hk
theorem zal {rows:List Row} {kv:List Key × V}:kv∈dOf rows↔∃ p w,kv=(zZ p,.int w)∧zI rows p=some w:=by
 constructor
 ·intro h
  obtain ⟨p,w,rfl⟩:=(qH rows).2 kv h
  have:=Jt (qH rows).1 _ h
  rw [xt] at this
  obtain ⟨w',e1,e2⟩:=Option.map_eq_some_iff.mp this
  cases e2
  exact ⟨p,w,rfl,e1⟩
 ·rintro ⟨p,w,rfl,h⟩
  have e:yo (dOf rows) (zZ p)=some (.int w):=by rw [xt,h];rfl
  obtain ⟨kv,hk,e1⟩:=List.mem_map.mp (Jj e)
  have:=Jt (qH rows).1 _ hk
  rw [e1,e] at this
  have e2:kv=(zZ p,V.int w):=Prod.ext e1 (Option.some.inj this).symm
  rw [← e2];exact hk
theorem jP (a:Pl):yp a a=false:=by
 unfold yp
 rw [if_pos rfl]
 exact decide_eq_false (by lia)
theorem YS {a b c:Pl} (h1:yp a b=true) (h2:yp b c=true):yp a c=true:=by
 unfold yp at *
 by_cases e1:a.1=b.1
 ·rw [if_pos e1] at h1
  by_cases e2:b.1=c.1
  ·rw [if_pos e2] at h2
   rw [if_pos (e1.trans e2)]
   have h1:=of_decide_eq_true h1
   have h2:=of_decide_eq_true h2
   exact decide_eq_true (by lia)
  ·rw [if_neg e2] at h2
   rw [if_neg (by rw [e1];exact e2),e1]
   exact h2
 ·rw [if_neg e1] at h1
  have h1:=of_decide_eq_true h1
  by_cases e2:b.1=c.1
  ·rw [if_neg (by rw [← e2];exact e1),← e2]
   exact decide_eq_true h1
  ·rw [if_neg e2] at h2
   have h2:=of_decide_eq_true h2
   have h3:=List.lt_trans h1 h2
   rw [if_neg (fun z=>by rw [z] at h3;exact List.lt_irrefl _ h3)]
   exact decide_eq_true h3
def qc (l:List Row):Prop:=l.Pairwise fun a b=>yp a.1 b.1=true
def zbR (rows out:List Row):Prop:=qc out∧∀ p w,(p,w)∈out↔zI rows p=some w∧w≠0
theorem Xn {p:Pl}:∀ {l:List Row},(∀ r∈l,r.1≠p)→zI l p=none
 | [],_=>rfl
 | r :: t,h=>by
  rw [zI,Xn fun r hr=>h r (List.mem_cons_of_mem _ hr),if_neg (h r List.mem_cons_self)];rfl
theorem Ju {p:Pl} {w:Int}:∀ {l:List Row},(l.map (·.1)).Nodup→(zI l p=some w↔(p,w)∈l)
 | [],_=>by simp [zI]
 | r :: t,hn=>by
  rw [List.map_cons,List.nodup_cons] at hn
  have ih:=Ju (p:=p) (w:=w) hn.2
  by_cases e:r.1=p
  ·have z:zI t p=none:=Xn fun q hq zz=>hn.1 (by rw [e,← zz];exact List.mem_map_of_mem hq)
   rw [zI,z,if_pos e]
   constructor
   ·intro h
    have:r.2=w:=by simpa using h
    rw [← e,← this];exact List.mem_cons_self
   ·intro h
    rcases List.mem_cons.mp h with h | h
    ·rw [← h];rfl
    ·exact absurd (List.mem_map_of_mem (f:=(·.1)) h) (by rw [← e];exact hn.1)
  ·rw [zI,if_neg e,Option.or_none,ih,List.mem_cons]
   constructor
   ·exact .inr
   ·rintro (h | h)
    ·exact absurd (by rw [← h]) e
    ·exact h
theorem Yv:∀ {a b:List Row},qc a→qc b→(∀ x,x∈a↔x∈b)→a=b
 | [],[],_,_,_=>rfl
 | [],y :: _,_,_,h=>absurd ((h y).mpr List.mem_cons_self) (by simp)
 | x :: _,[],_,_,h=>absurd ((h x).mp List.mem_cons_self) (by simp)
 | x :: a,y :: b,ha,hb,h=>by
  unfold qc at ha hb
  rw [List.pairwise_cons] at ha hb
  have e:x=y:=by
   rcases List.mem_cons.mp ((h x).mp List.mem_cons_self) with e | e
   ·exact e
   ·rcases List.mem_cons.mp ((h y).mpr List.mem_cons_self) with e' | e'
    ·exact e'.symm
    ·have:=YS (ha.1 y e') (hb.1 x e)
     rw [jP] at this;cases this
  subst e
  have nx:x ∉ a:=fun z=>by have:=ha.1 x z;rw [jP] at this;cases this
  have ny:x ∉ b:=fun z=>by have:=hb.1 x z;rw [jP] at this;cases this
  rw [Yv ha.2 hb.2 fun z=>?_]
  constructor
  ·intro hz
   rcases List.mem_cons.mp ((h z).mp (List.mem_cons_of_mem _ hz)) with e | e
   ·subst e;exact absurd hz nx
   ·exact e
  ·intro hz
   rcases List.mem_cons.mp ((h z).mpr (List.mem_cons_of_mem _ hz)) with e | e
   ·subst e;exact absurd hz ny
   ·exact e
end L2
namespace L2
open PySem PySem.Spec PyProof.Rows
def zbS (K:W.Frag) (p q:Addr) (xs ys:List V):It:=⟨fun i H=>i < xs.length∧SqL K H p xs∧SqL K H q ys,fun i H x H'=>∃ T u v,x=.ref T∧H T=none∧H'=upd H T (.tup [u,v])∧xs[i]?=some u∧ys[i]?=some v,fun i H=>xs.length≤i∧SqL K H p xs∧SqL K H q ys⟩
def zcE (K:W.Frag) (ta:TA):TI:=fun σ H R=>ta σ H fun vs H1=>∃ p q xs ys,vs=[.ref p,.ref q]∧SqL K H1 p xs∧SqL K H1 q ys∧xs.length=ys.length∧R (zbS K p q xs ys) H1
section
variable {X:Cx}
end
section
variable {σ:St} {H:Hp} {nx:St→Hp→Prop} {B:V→St→Hp→(St→Hp→Prop)→Prop}
end
end L2
namespace L2
open PySem PySem.Spec PyProof.Rows
section
variable {X:Cx} {A:Around} {R:Result→Shared→Prop}
def kC (H:Hp) (v:V) (q:Row):Prop:=∃ r p,v=.ref r∧H r=some (.tup [.ref p,.int q.2])∧H p=some (.tup [.str q.1.1,.int q.1.2])
end
end L2
namespace L2
open PySem PySem.Spec PyProof.Rows
section
variable {prog:Program} {w:World} {A:Around} {E:Value→Shared→Prop} {s:Shared} {a:Addr} {o:Obj} {xs:Array Value} {k:Nat}
end
theorem hu3 {k:Nat} {A:Around} (r:Room k A):A.units + 3 < cLine:=by have:=zaf r;lia
abbrev zcF:RC:=fun vs H Q=>∃ (a:Addr) (xs:List V) (rows:List Row),vs=[.ref a]∧H a=some (.lst xs)∧Paired (kC H) xs rows∧rows.length≤1000∧∀ p,H p=none→Q (.ref p) (upd H p (.dT (dOf rows)))
section
variable {X:Cx}
end
end L2
namespace L2
open PySem PySem.Spec PyProof.Rows
section
variable {X:Cx} {k:Nat} {f C:Addr} {fd:FuncData} {ps:List Str} {sp:Sp} {m:Str} {pos apos:Pos} {e o:Expr} {es:List Expr} {ta:TE} {t:TA}
def Ze (C:Addr) (m:Str) (sp:Sp) (ta:TE) (t:TA) (EX:EXK):TE:=fun σ H Q=>ta σ H fun x H1=>∃ a dx fs,x=.ref a∧H1 a=some (.ins C dx fs)∧fs.lookup m=none ∧
 t σ H1 fun vs H2=>sp (x :: (vs ++ [])) H2 Q fun cls _ H3=>EX cls σ H3
theorem WN {pl:Sem Bool} (he:PE X.nox o ta) (c:Cls X.K C) (hm:qU X.K C m f) (F:FnOk X.prog X.w X.K X.mg X.base (CX1 X.prog X.w) k f fd ps sp) (hr:Room k X.A) (hb:Binds X.K fd ps []) (ha:PA X.nox (e :: es) t)
  (hst:starEach (e :: es) X.env=(false,eval e X.env) :: starEach es X.env:=by rfl) (hpl:(backTo pos (starEach es X.env)).any (·.1)=false:=by rfl)
  (ht:eval (.Call (.Attribute o m apos) (e :: es) [] pos) X.env=(do
   let ov ← eval o X.env
   standAt apos.atName
   let (f,first) ← holding [ov] (getMethod ov m pl)
   callWith pos f first (backTo pos (starEach (e :: es) X.env)) (backToKw pos (keywordEach [] X.env))):=by rfl) :
  PEX X (.Call (.Attribute o m apos) (e :: es) [] pos) (Ze C m sp ta t):=by
 intro pins s σ H Q EX I h
 refine W.methodCall_KW (pl:=pl) (wpAny_mono (he pins s σ H _ (I.wish _) h) (fun u s1 ⟨x,H1,I1',rx,a,dx,fs,ex,ea,l,q⟩=>?_) fun _ _ z=>False.elim z) ht
 subst ex
 obtain rfl:u=Value.ref a:=rx
 have I1:=I1'.unwish
 refine kU I1 ea c hm l ?_
 refine W.callWith_K (first:=[.ref a]) (h₀:=X.base) I.ok.mod.kin hm.kp (wpAny_mono (ha pos pins s1 σ H1 _ (I1.wish _) q) (fun us s2 ⟨vs,H2,I2',r,q2⟩=>⟨I2'.kIn,?_⟩) fun _ _ z=>False.elim z) hst hpl
 have I2:=I2'.unwish
 have r2:Vals (V.ref a :: (vs ++ [])) (Value.ref a :: (us ++ [])):=.cons rfl (r.append .nil)
 have hl:((Value.ref a :: us) ++ []).length=ps.length:=by
  have e:=r2.length
  rw [F.len _ _ _ _ q2] at e
  exact e.symm
 refine wpAny_call (codeAny_mono (F.run X.A X.stack s2 H2 ⟨.ref a :: us,[]⟩ ((.ref a :: us) ++ []) (.ref a :: (vs ++ [])) _ _ hr I2.env0 (hb s2 (.ref a :: us) I2.kIn hl) r2 q2) fun r s' hq=>?_)
 cases r with
 | error ev =>
  obtain ⟨e,cls,H',rfl,os,bare,un,hok,xf,hE⟩:=hq
  exact ⟨e,cls,σ,s2,H2,H',rfl,I2,I2.call' (ch:=[]) os un hok bare (fun b z=>nomatch z),xf,hE⟩
 | ok fl =>
  cases fl with
  | ret u=>exact I2.after hq
  | next=>exact False.elim hq
  | brk=>exact False.elim hq
  | cont=>exact False.elim hq
end
def zcG (K:W.Frag) (tb:EXK→TS) (C1:Addr) (th1:TS):TS:=fun D σ H=>tb (fun cls σ1 H1=>∃ C,cls=.ref C∧W.exmOne K (.ref C) (.ref C1)=some true∧th1 D σ1 H1) D σ H
def VS (K:W.Frag) (tb:EXK→TS) (C1:Addr) (th1:TS) (C2:Addr) (th2:TS):TS:=fun D σ H=>tb (fun cls σ1 H1=>∃ C,cls=.ref C ∧
 ((W.exmOne K (.ref C) (.ref C1)=some true∧th1 D σ1 H1)∨(W.exmOne K (.ref C) (.ref C1)=some false∧W.exmOne K (.ref C) (.ref C2)=some true∧th2 D σ1 H1))) D σ H
section
variable {X:Cx} {st b₀ b₁:Stmt} {suite suite1:List Stmt} {tb:EXK→TS} {th1 th2:TS} {c1 c2:Str} {C1 C2:Addr} {np hpos np2 hpos2 pos:Pos}
theorem Qh (hst:X.stack=X.env :: X.outer∧X.env.frame=some X.env.locals) (hex:X.ex=[]) (hb:PSX X st tb) (hg1:Gl X c1) (hm1:X.mg c1=some (.ref C1)) (hg2:Gl X c2) (hm2:X.mg c2=some (.ref C2))
  (hs1:∀ e,PSs (X.sub e) (b₀ :: suite) th1) (hs2:∀ e,PSs (X.sub e) (b₁ :: suite1) th2) (hdb1:(c1 == ("__debug__":Str))=false:=by decide) (hdb2:(c2 == ("__debug__":Str))=false:=by decide) :
  PS X (.Try [st] [.ExceptHandler (some (.Name c1 np)) none (b₀ :: suite) hpos,.ExceptHandler (some (.Name c2 np2)) none (b₁ :: suite1) hpos2] [] [] pos) (VS X.K tb C1 th1 C2 th2):=by
 intro pins s σ H D I h
 refine wpAny_Try_except (wpAny_execs_cons (wpAny_mono (hb pins s σ H D _ I h) (fun f s1 q=>?_) fun ev s1 q=>?_))
 ·cases f with
  | next=>exact wpAny_execs_nil (wpAny_execs_nil q)
  | ret v=>exact q
  | brk=>exact q
  | cont=>exact q
 obtain ⟨e,cls,σ1,s0,H0,H1,rfl,I0,I1,xf,C,rfl,hth⟩:=q
 obtain ⟨oe,vs,a0,T,oT,ts,h1,h2,h3,h4,h5,h6,h7,h8,h9,h10,h11,h12⟩:=xf
 have fr:s1.heap.FunFrames (W.hideAll s1.heap (frs X.stack ++ [e,T])) (X.env :: X.outer):=by
  have q:=W.funFrames_hide (as:=frs X.stack ++ [e,T]) I1.stack fun env he a ha=>List.mem_append_left _ (List.mem_filterMap.mpr ⟨env,he,ha⟩)
  rw [hst.1] at q ⊢
  exact q
 have two:∀ b∈[e,T],s0.heap.get? b=none∧H1 b=none:=fun b z=>by
  have z':b=e∨b=T:=by simpa using z
  rcases z' with rfl | rfl
  ·exact ⟨h9,h11⟩
  ·exact ⟨h10,h12⟩
 have hcs:∀ b∈[e,T],H1 b=none∧X.s₀.heap.get? b=none:=fun b z=>⟨(two b z).2,v9 (I0.there0 hex) (two b z).1⟩
 have hcp:∀ b∈[e,T],∀ p∈X.pn ++ pins,p.1≠b:=fun b z p hp q=>by
  have:=(I0.pin p hp).1
  rw [q,(two b z).1] at this;cases this
 refine wpAny_looks_onW (base:=W.hideAll s1.heap (frs X.stack ++ [e,T])) (a0:=a0) (cls:=.ref C) (by rw [I1.ok.frames,hst.1]) hst.2
  ⟨fun b o q=>W.of_hideAll _ q,W.hideAll_none _ (List.mem_append_right _ (by simp)),fr,oe,vs,T,oT,ts,h1,h2,h3,h4,W.hideAll_none _ (List.mem_append_right _ (by simp)),h5,h6,h7,h8⟩ fun g4 held4 sm4=>?_
 refine wpAny_landsW held4 fun g5 fly5 sm5=>?_
 have hB:∀ {g:Heap},(W.hideAll s1.heap (frs X.stack ++ [e,T])).StaysIn g→∀ b o,s1.heap.get? b=some o→b ∉ frs X.stack→b ∉ [e,T]→g.get? b=some o :=
  fun {g} k b o q n1 n2=>k b o (W.hideAll_get _ q fun z=>(List.mem_append.mp z).elim n1 n2)
 have I5:Inv X pins σ1 H1 { s1 with heap:=g5 }:=I1.land hex hcs hcp (hB fly5.1) (sm4.trans sm5)
 have K5:=I5.kIn
 have ty5:W.Looks (model X.prog X.w) g5 (typeOf (.ref e)) (.ref C):=by
  obtain ⟨o,p1,p2⟩:=fly5.there
  exact p2 ▸ (W.Looks.ld p1).andThen .now
 have run:∀ {b₂:Stmt} {su:List Stmt} {th:TS} {hp:Pos} {R:Result→Shared→Prop},(∀ e,PSs (X.sub e) (b₂ :: su) th)→th D σ1 H1→(∀ f s',SP X pins D f s'→R (.ok f) s') →
   codeAny (model X.prog X.w) (X.A.mark (some (.ref e))) (.handlers (.ref e) [.ExceptHandler none none (b₂ :: su) hp] X.env) R { s1 with heap:=g5 }:=fun {b₂ su th hp R} hs hth hR=>by
  refine codeAny_handlers_suite (lands_againW fly5 fun g6 fly6 sm6=>?_)
  have I6:Inv X pins σ1 H1 { s1 with heap:=g6 }:=I1.land hex hcs hcp (hB fly6.1) ((sm4.trans sm5).trans sm6)
  refine wpAny_mono (hs e pins _ σ1 H1 D I6.toSub hth) (fun f s9 q=>hR f s9 ?_) fun _ _ z=>False.elim z
  cases f with
  | next=>obtain ⟨σ9,H9,J,z⟩:=q;exact ⟨σ9,H9,Inv.ofSub (J:=I) J,z⟩
  | brk=>obtain ⟨σ9,H9,J,z⟩:=q;exact ⟨σ9,H9,Inv.ofSub (J:=I) J,z⟩
  | cont=>obtain ⟨σ9,H9,J,z⟩:=q;exact ⟨σ9,H9,Inv.ofSub (J:=I) J,z⟩
  | ret u=>obtain ⟨v,σ9,H9,J,r,z⟩:=q;exact ⟨v,σ9,H9,Inv.ofSub (J:=I) J,r,z⟩
 refine wpAny_handleBy_cons (codeAny_handlers_test ?_) (by intro q;cases q)
 refine vF (X:=X.sub e) (I5.toSub (e:=e)) hg1 hm1 ?_ hdb1
 rcases hth with ⟨hx,ht⟩ | ⟨hx,hx2,ht⟩
 ·refine (W.exm_one K5 ty5 hx).here ?_
  exact run hs1 ht fun f s' q=>q
 ·refine (W.exm_one K5 ty5 hx).here ?_
  show wpAny _ _ (handleBy (.ref e) X.env _) _ _ _
  refine wpAny_handleBy_cons (codeAny_handlers_test ?_) (by intro q;cases q)
  refine vF (X:=X.sub e) (I5.toSub (e:=e)) hg2 hm2 ?_ hdb2
  refine (W.exm_one K5 ty5 hx2).here ?_
  exact run hs2 ht fun f s' q=>q
end
section
variable {X:Cx} {k:Nat} {f:Addr} {fd:FuncData} {ps:List Str} {sp:Sp} {x:Str} {p pos:Pos} {e:Expr} {es:List Expr} {t:TA}
end
end L2
namespace L2
open PySem
def rk (kvs:List (Key × V)) (ps:List V):Except Er Int:=match x9 kvs ps [] with
 | .ok [i]=>.ok i
 | .ok _=>.error .stuck
 | .error e=>.error e
theorem Good.rk {kvs:List (Key × V)} {ps:List V} {r:Except Er Int} (h:Good kvs ps r):L2.rk kvs ps=r:=by
 unfold L2.rk
 rw [h.1 []]
 cases r <;> rfl
theorem Qi {kvs:List (Key × V)} (hs:yt kvs) {v:V} (hv:jj v) {st st':List Int} (h:∀ x∈st,inW x=true) (e:xI kvs st v=.ok st'):∀ x∈st',inW x=true:=by
 unfold xI at e
 split at e
 ·split at e
  ·rename_i w b a r hr hj
   unfold yM at e
   by_cases c1:kM w∧b=0
   ·rw [if_pos c1] at e;cases e
   ·rw [if_neg c1] at e
    by_cases c2:inW (yE w a b)=true
    ·rw [if_pos c2] at e
     cases e
     intro x hx
     rcases List.mem_append.mp hx with hx | hx
     ·refine h x (List.mem_reverse.mp ?_)
      rw [hr]
      exact List.mem_cons_of_mem _ (List.mem_cons_of_mem _ (List.mem_reverse.mp hx))
     ·rw [List.mem_singleton.mp hx];exact c2
    ·rw [if_neg c2] at e;cases e
  ·cases e
 ·cases e
  intro x hx
  rcases List.mem_append.mp hx with hx | hx
  ·exact h x hx
  ·rw [List.mem_singleton.mp hx];exact Yr hs hv
theorem Jv {kvs:List (Key × V)} (hs:yt kvs):∀ {ps:List V} {st st':List Int},(∀ v∈ps,jj v)→(∀ x∈st,inW x=true)→x9 kvs ps st=.ok st'→∀ x∈st',inW x=true
 | [],st,st',_,h,e=>by cases e;exact h
 | v :: r,st,st',hp,h,e=>by
  unfold x9 at e
  split at e
  ·rename_i st1 e1
   exact Jv hs (fun v hv=>hp v (List.mem_cons_of_mem _ hv)) (Qi hs (hp v List.mem_cons_self) h e1) e
  ·cases e
theorem Qj {kvs:List (Key × V)} (hs:yt kvs) {ps:List V} (hp:∀ v∈ps,jj v) {i:Int} (e:rk kvs ps=.ok i):inW i=true:=by
 unfold rk at e
 split at e
 ·rename_i j hj
  cases e
  exact Jv hs hp (fun _ z=>absurd z List.not_mem_nil) hj i List.mem_cons_self
 ·cases e
 ·cases e
def TermOk (e:List V):Prop:=(∀ kvs,∃ r,Good kvs e r)∧(∀ v∈e,jj v)∧e.length≤1000
theorem TermOk.good {e:List V} (h:TermOk e) (kvs:List (Key × V)):Good kvs e (rk kvs e):=by
 obtain ⟨r,g⟩:=h.1 kvs
 rw [g.rk];exact g
mutual
inductive Rw where
 | take (sh:Str) (e:List V) (sl:Str)
 | give (sh:Str) (e f:List V)
 | lt (sl:Str) (e:List V)
 | say (e:List V)
 | off (e:List V)
 | iff (e:List V) (a b:Rws)
inductive Rws where
 | nil
 | cons (r:Rw) (rs:Rws)
end
set_option genSizeOf false in
set_option genInjectivity false in
structure Sta where
 sl:List (Key × V)
 wo:List Row
 sa:List Int
inductive Res where
 | go (s:Sta)
 | off
 | er (e:Er)
mutual
def goR:Rw→Sta→Res
 | .take sh e sl,s=>match rk s.sl e with
  | .ok n=>.go { s with sl:=yJ s.sl (.inr sl) (.int ((zI s.wo (sh,n)).getD 0)) }
  | .error x=>.er x
 | .give sh e f,s=>match rk s.sl e with
  | .ok n=>(match rk s.sl f with
   | .ok w=>.go { s with wo:=s.wo ++ [((sh,n),w)] }
   | .error x=>.er x)
  | .error x=>.er x
 | .lt sl e,s=>match rk s.sl e with
  | .ok n=>.go { s with sl:=yJ s.sl (.inr sl) (.int n) }
  | .error x=>.er x
 | .say e,s=>match rk s.sl e with
  | .ok n=>.go { s with sa:=s.sa ++ [n] }
  | .error x=>.er x
 | .off e,s=>match rk s.sl e with
  | .ok n=>if n=0 then .go s else .off
  | .error x=>.er x
 | .iff e a b,s=>match rk s.sl e with
  | .ok n=>if n=0 then zam b s else zam a s
  | .error x=>.er x
def zam:Rws→Sta→Res
 | .nil,s=>.go s
 | .cons r rs,s=>match goR r s with
  | .go s'=>zam rs s'
  | x=>x
end
mutual
def RwAt (F:Addr→Prop) (H:Hp) (v:V):Rw→Prop
 | .take sh e sl=>∃ r te,v=.ref r∧F r∧F te∧H r=some (.tup [.str "take",.str sh,.ref te,.str sl])∧H te=some (.tup e)
 | .give sh e f=>∃ r te tf,v=.ref r∧F r∧F te∧F tf∧H r=some (.tup [.str "give",.str sh,.ref te,.ref tf])∧H te=some (.tup e)∧H tf=some (.tup f)
 | .lt sl e=>∃ r te,v=.ref r∧F r∧F te∧H r=some (.tup [.str "let",.str sl,.ref te])∧H te=some (.tup e)
 | .say e=>∃ r te,v=.ref r∧F r∧F te∧H r=some (.tup [.str "say",.ref te])∧H te=some (.tup e)
 | .off e=>∃ r te,v=.ref r∧F r∧F te∧H r=some (.tup [.str "off",.ref te])∧H te=some (.tup e)
 | .iff e a b=>∃ r te la lb xs ys,v=.ref r∧F r∧F te∧F la∧F lb∧H r=some (.tup [.str "if",.ref te,.ref la,.ref lb])∧H te=some (.tup e)∧H la=some (.lst xs)∧RwsAt F H xs a∧H lb=some (.lst ys)∧RwsAt F H ys b
def RwsAt (F:Addr→Prop) (H:Hp) (vs:List V):Rws→Prop
 | .nil=>vs=[]
 | .cons r rs=>∃ v ws,vs=v :: ws∧RwAt F H v r∧RwsAt F H ws rs
end
mutual
theorem RwAt.to_ {F G:Addr→Prop} {H H':Hp} (g:∀ b o,F b→H b=some o→G b) (s:∀ b o,F b→H b=some o→H' b=some o):∀ {v:V} (r:Rw),RwAt F H v r→RwAt G H' v r
 | v,.take sh e sl,h=>by
  unfold RwAt at h ⊢
  obtain ⟨r,te,e1,f1,f2,e2,e3⟩:=h
  exact ⟨r,te,e1,g _ _ f1 e2,g _ _ f2 e3,s _ _ f1 e2,s _ _ f2 e3⟩
 | v,.give sh e f,h=>by
  unfold RwAt at h ⊢
  obtain ⟨r,te,tf,e1,f1,f2,f3,e2,e3,e4⟩:=h
  exact ⟨r,te,tf,e1,g _ _ f1 e2,g _ _ f2 e3,g _ _ f3 e4,s _ _ f1 e2,s _ _ f2 e3,s _ _ f3 e4⟩
 | v,.lt sl e,h=>by
  unfold RwAt at h ⊢
  obtain ⟨r,te,e1,f1,f2,e2,e3⟩:=h
  exact ⟨r,te,e1,g _ _ f1 e2,g _ _ f2 e3,s _ _ f1 e2,s _ _ f2 e3⟩
 | v,.say e,h=>by
  unfold RwAt at h ⊢
  obtain ⟨r,te,e1,f1,f2,e2,e3⟩:=h
  exact ⟨r,te,e1,g _ _ f1 e2,g _ _ f2 e3,s _ _ f1 e2,s _ _ f2 e3⟩
 | v,.off e,h=>by
  unfold RwAt at h ⊢
  obtain ⟨r,te,e1,f1,f2,e2,e3⟩:=h
  exact ⟨r,te,e1,g _ _ f1 e2,g _ _ f2 e3,s _ _ f1 e2,s _ _ f2 e3⟩
 | v,.iff e a b,h=>by
  unfold RwAt at h ⊢
  obtain ⟨r,te,la,lb,xs,ys,e1,f1,f2,f3,f4,e2,e3,e4,e5,e6,e7⟩:=h
  exact ⟨r,te,la,lb,xs,ys,e1,g _ _ f1 e2,g _ _ f2 e3,g _ _ f3 e4,g _ _ f4 e6,s _ _ f1 e2,s _ _ f2 e3,s _ _ f3 e4,RwsAt.to_ g s a e5,s _ _ f4 e6,RwsAt.to_ g s b e7⟩
theorem RwsAt.to_ {F G:Addr→Prop} {H H':Hp} (g:∀ b o,F b→H b=some o→G b) (s:∀ b o,F b→H b=some o→H' b=some o):∀ {vs:List V} (r:Rws),RwsAt F H vs r→RwsAt G H' vs r
 | vs,.nil,h=>by
  unfold RwsAt at h ⊢
  exact h
 | vs,.cons r rs,h=>by
  unfold RwsAt at h ⊢
  obtain ⟨v,ws,e1,e2,e3⟩:=h
  exact ⟨v,ws,e1,RwAt.to_ g s r e2,RwsAt.to_ g s rs e3⟩
end
theorem RwAt.to {F G:Addr→Prop} {H H':Hp} {v:V} (r:Rw) (g:∀ b o,F b→H b=some o→G b) (s:∀ b o,F b→H b=some o→H' b=some o) (h:RwAt F H v r):RwAt G H' v r:=RwAt.to_ g s r h
theorem RwsAt.to {F G:Addr→Prop} {H H':Hp} {vs:List V} (r:Rws) (g:∀ b o,F b→H b=some o→G b) (s:∀ b o,F b→H b=some o→H' b=some o) (h:RwsAt F H vs r):RwsAt G H' vs r:=RwsAt.to_ g s r h
theorem RwAt.mono {F:Addr→Prop} {H H':Hp} (s:Same H H') {v:V} {r:Rw} (h:RwAt F H v r):RwAt F H' v r:=h.to r (fun _ _ f _=>f) (fun b o _ e=>s b o e)
theorem RwsAt.mono {F:Addr→Prop} {H H':Hp} (s:Same H H') {vs:List V} {r:Rws} (h:RwsAt F H vs r):RwsAt F H' vs r:=h.to r (fun _ _ f _=>f) (fun b o _ e=>s b o e)
def RlAt (F:Addr→Prop) (H:Hp) (v:V) (r:Rws):Prop:=∃ a xs,v=.ref a∧F a∧H a=some (.lst xs)∧RwsAt F H xs r
theorem RlAt.to {F G:Addr→Prop} {H H':Hp} (g:∀ b o,F b→H b=some o→G b) (s:∀ b o,F b→H b=some o→H' b=some o) {v:V} {r:Rws} (h:RlAt F H v r):RlAt G H' v r:=by
 obtain ⟨a,xs,e,f,e1,e2⟩:=h
 exact ⟨a,xs,e,g _ _ f e1,s _ _ f e1,RwsAt.to r g s e2⟩
abbrev Yw:Addr→Prop:=fun _=>True
theorem RlAt.any {F:Addr→Prop} {H:Hp} {v:V} {r:Rws} (h:RlAt F H v r):RlAt Yw H v r:=h.to (fun _ _ _ _=>trivial) fun b o _ e=>e
mutual
def vN:Rw→Prop
 | .take _ e _=>TermOk e
 | .give _ e f=>TermOk e∧TermOk f
 | .lt _ e=>TermOk e
 | .say e=>TermOk e
 | .off e=>TermOk e
 | .iff e a b=>TermOk e∧xj a∧xj b
def xj:Rws→Prop
 | .nil=>True
 | .cons r rs=>vN r∧xj rs
end
mutual
def Rw.deep:Rw→Nat
 | .iff _ a b=>max a.deep b.deep + 1
 | _=>0
def Rws.deep:Rws→Nat
 | .nil=>0
 | .cons r rs=>max r.deep rs.deep
end
mutual
def Rw.cnt:Rw→Nat
 | .iff _ a b=>max a.cnt b.cnt + 1
 | _=>1
def Rws.cnt:Rws→Nat
 | .nil=>0
 | .cons r rs=>r.cnt + rs.cnt
end
end L2
namespace L2
open PySem
abbrev ItA (h:Heap) (it d:Addr) (i n ep:Nat) (o0:Value) (f:Bool) (ok ov:Value):Prop :=
 h.get? it=some { cls:=.type "dict_itemiterator",dict:=none,data:=.fields #[o0,.bool f,.ref d,.int i 0,.int n 0,.int ep 0,ok,ov],slots:=#[] }
section
variable {P:Program} {w:World} {A:Around} {E:Value→Shared→Prop} {s:Shared}
theorem Qk {v d:Addr} {es:Array DictEntry} {ep:Nat} {Q:Value→Shared→Prop} (hv:s.heap.IsItemsView v d) (hm:RawD s.heap d es ep)
  (q:Q (.ref s.heap.objs.size) { s with heap:=s.heap.push { cls:=.type "dict_itemiterator",data:=.fields #[.none,.bool false,.ref d,.int 0 0,.int es.size 0,.int ep 0,.none,.none] } }):wpAny (model P w) A (pyIter (.ref v)) Q E s:=by
 obtain ⟨ov,hov,hcv,hdv⟩:=id hv;obtain ⟨o,ho,hc,hdat⟩:=id hm
 refine wpAny_pyIter_slot hv.typeIs F.slot_dict_items_iter (wpAny_call_entry F.slot_dict_items_iter hv.typeIs F.entry_dict_items_iter ?_ (F.args_dict_items_iter_1 _));unfold Builtin.«dict_items.__iter__»
 refine wpAny_bind (wpAny_pure ?_);refine wpAny_bind ?_;unfold Builtin.Dict_items.dictOf
 refine wpAny_bind (wpAny_field hov hdv (x:=.ref d) rfl (wpAny_pure ?_));refine wpAny_bind ?_;unfold Builtin.Dict_items.newIterator
 refine wpAny_bind (wpAny_dictEntries ho hdat ?_);refine wpAny_bind (wpAny_dictEpoch ho hdat ?_)
 have own:Builtin.Dict_items.ownsTuple "dict_itemiterator"=true:=by decide
 simp only [own,if_true];refine wpAny_newObj_type (wpAny_pure ⟨_,rfl,"dict_itemiterator",_,⟨_,Heap.get?_push_size _ rfl,rfl⟩,F.slot_dict_itemiterator_next.lookup,?_⟩) (by simp only [sizeOk,Builtin.Dict_items.ownedTupleFields,List.size_toArray,List.length_append,List.length_cons,List.length_nil,sizeLine_eq];lia)
 simpa [rawInt,Builtin.Dict_items.ownedTupleFields] using q
theorem Ql {it d:Addr} {i ep:Nat} {es:Array DictEntry} {e:DictEntry} {o0 ok ov:Value} {f:Bool} {Q:Option Value→Shared→Prop} (hit:ItA s.heap it d i es.size ep o0 f ok ov) (hm:RawD s.heap d es ep) (hx:es[i]?=some e)
  (ho0:(o0=.none∧f=false)∨∃ (a:Addr) (oa:Obj),o0=rawInt (a:Nat)∧s.heap.get? a=some oa∧a≠it)
  (q:∀ h' o1 f1 k1 v1,ItA h' it d (i + 1) es.size ep o1 f1 k1 v1→((o1=.none∧f1=false)∨∃ (a:Addr) (oa:Obj),o1=rawInt (a:Nat)∧h'.get? a=some oa∧a≠it)→h'.get? s.heap.objs.size=some { cls:=.type "tuple",data:=.seq #[e.key,e.val] }→h'.objs.size=s.heap.objs.size + 1 →
   (∀ b o,b≠it→s.heap.get? b=some o→h'.get? b=some o)→(∀ a:Addr,o1=rawInt (a:Nat)→a=s.heap.objs.size∨o0=rawInt (a:Nat))→Q (some (.ref s.heap.objs.size)) { s with heap:=h' }):wpAny (model P w) A (pyNext (.ref it)) Q E s:=by
 obtain ⟨hp,g,dr,tk,os⟩:=s;obtain ⟨od,hod,hcd,hdd⟩:=id hm
 have T:Shared.TypeIs ⟨hp,g,dr,tk,os⟩ (.ref it) "dict_itemiterator":=⟨_,hit,rfl⟩
 unfold pyNext;refine wpAny_bind (wpAny_attempt (wpAny_callSpecial?_slot (name:=Str.ofString "__next__") T F.slot_dict_itemiterator_next (wpAny_call_entry F.slot_dict_itemiterator_next T F.entry_dict_itemiterator_next ?_ (F.args_dict_itemiterator_next_1 _))))
 refine wpAny_bind (wpAny_pure ?_);refine wpAny_bind ?_;refine wpAny_bind ?_
 first | (refine wpAny_bind (wpAny_typeNameOfWhole_itemiter T (wpAny_pure ?_))) | (refine wpAny_bind (wpAny_typeNameOf_itemiter T (wpAny_pure ?_)))
 refine wpAny_bind (wpAny_fieldsOf hit rfl ?_);have own:Builtin.Dict_items.ownsTuple "dict_itemiterator"=true:=by decide
 simp only [own,if_true];show wpAny _ _ (if (Value.ref d == Value.none)=true then _ else _) _ _ _
 rw [if_neg (show ¬ ((Value.ref d == Value.none)=true) from Bool.false_ne_true)];refine wpAny_bind (wpAny_pure ?_);refine wpAny_bind (wpAny_dictEntries hod hdd ?_)
 rw [if_neg (by simp)];refine wpAny_bind (wpAny_pure ?_);refine wpAny_bind (wpAny_dictEpoch hod hdd ?_);rw [if_neg (by simp)];refine wpAny_pure ?_
 simp only [show ¬ ((i:Int) < 0) from by lia,if_false,Int.toNat_natCast,hx];refine wpAny_bind ?_
 first | (refine wpAny_bind (wpAny_typeNameOfWhole_itemiter T (wpAny_pure ?_))) | (refine wpAny_bind (wpAny_typeNameOf_itemiter T (wpAny_pure ?_)))
 refine wpAny_bind (wpAny_isOneOf_itemiter T ?_);show wpAny _ _ (setField (.ref it) 3 (rawInt ((i:Int) + 1)) >>= _) _ _ ⟨hp,g,dr,tk,os⟩
 refine wpAny_bind (wpAny_setField_rec hit (by simp) fun h₁ e1 s1=>?_)
 replace s1:Heap.SameBut it hp h₁:=s1
 replace e1:ItA h₁ it d (i + 1) es.size ep o0 f ok ov:=by
  have z:((i + 1:Nat):Int)=(i:Int) + 1:=by lia
  unfold ItA;rw [z];simpa [rawInt] using e1
 have T1:Shared.TypeIs ⟨h₁,g,dr,tk,os⟩ (.ref it) "dict_itemiterator":=⟨_,e1,rfl⟩
 refine wpAny_bind (wpAny_holding ?_);refine wpAny_bind (wpAny_isOneOf_itemiter T1 ?_);refine wpAny_bind (wpAny_isOneOf_itemiter T1 ?_)
 show wpAny _ _ (Builtin.Dict_items.pairFromOwner (.ref it) 6 e.key e.val) _ _ ⟨h₁,g,dr,tk,os⟩
 unfold Builtin.Dict_items.pairFromOwner;refine wpAny_bind (wpAny_newTuple ?_)
 have e2:ItA (h₁.push { cls:=.type "tuple",data:=.seq #[e.key,e.val] }) it d (i + 1) es.size ep o0 f ok ov:=Heap.get?_push_of_some _ e1
 generalize hg:h₁.push { cls:=.type "tuple",data:=.seq #[e.key,e.val] }=h₂ at e2
 have z1:h₁.objs.size=hp.objs.size:=s1.1;have il:it < hp.objs.size:=Heap.lt_size hit
 have t2:h₂.get? hp.objs.size=some { cls:=.type "tuple",data:=.seq #[e.key,e.val] }:=by rw [← hg,← z1];exact Heap.get?_push_size _ rfl
 have z2:h₂.objs.size=hp.objs.size + 1:=by rw [← hg,Heap.size_push,z1]
 have k2:∀ b o,b≠it→hp.get? b=some o→h₂.get? b=some o:=fun b o hb z=>by rw [← hg];exact Heap.get?_push_of_some _ (s1.extBut b o hb z)
 show wpAny _ _ (Builtin.Dict_items.ownedTupleIsFree (.ref it) >>= _) _ _ ⟨h₂,g,dr,tk,os⟩;rw [z1]
 clear hg e1 s1 T1 z1 h₁;refine wpAny_bind ?_;unfold Builtin.Dict_items.ownedTupleIsFree
 rcases ho0 with ⟨rfl,rfl⟩ | ⟨a,oa,rfl,ha,hai⟩
 ·refine wpAny_bind (wpAny_field e2 rfl (x:=.none) rfl (wpAny_pure ?_));simp only [if_true]
  refine wpAny_bind (wpAny_field e2 rfl (x:=ok) rfl ?_);refine wpAny_bind (wpAny_field e2 rfl (x:=ov) rfl ?_)
  refine wpAny_bind (wpAny_setField_rec e2 (by simp) fun h₃ e3 s3=>?_);replace s3:Heap.SameBut it h₂ h₃:=s3;replace e3:ItA h₃ it d (i + 1) es.size ep .none false e.key ov:=e3
  refine wpAny_bind (wpAny_setField_rec e3 (by simp) fun h₄ e4 s4=>?_);replace s4:Heap.SameBut it h₃ h₄:=s4;replace e4:ItA h₄ it d (i + 1) es.size ep .none false e.key e.val:=e4
  refine wpAny_bind (wpAny_setField_rec e4 (by simp) fun h₅ e5 s5=>?_);replace s5:Heap.SameBut it h₄ h₅:=s5;replace e5:ItA h₅ it d (i + 1) es.size ep (rawInt (hp.objs.size:Nat)) false e.key e.val:=e5
  refine wpAny_bind (wpAny_setField_rec e5 (by simp) fun h₆ e6 s6=>?_);replace s6:Heap.SameBut it h₅ h₆:=s6;replace e6:ItA h₆ it d (i + 1) es.size ep (rawInt (hp.objs.size:Nat)) false e.key e.val:=e6
  have k6:∀ b o,b≠it→h₂.get? b=some o→h₆.get? b=some o:=fun b o hb z=>s6.extBut b o hb (s5.extBut b o hb (s4.extBut b o hb (s3.extBut b o hb z)))
  have t6:=k6 _ _ (Nat.ne_of_gt il) t2
  refine wpAny_bind (wpAny_letGo (wpAny_pure (wpAny_pure ⟨_,rfl,wpAny_pure (q h₆ _ _ _ _ e6 (.inr ⟨_,_,rfl,t6,Nat.ne_of_gt il⟩) t6 ?_ (fun b o hb z=>k6 b o hb (k2 b o hb z)) fun a z=>?_)⟩)))
  ·show h₆.objs.size=hp.objs.size + 1;rw [s6.1,s5.1,s4.1,s3.1,z2]
  ·refine .inl ?_
   have z':(Value.int (hp.objs.size:Nat) 0:Value)=Value.int (a:Nat) 0:=z
   have z'':((hp.objs.size:Nat):Int)=((a:Nat):Int):=by injection z'
   exact (Int.ofNat.inj z'').symm
 ·refine wpAny_bind (wpAny_field e2 rfl (x:=rawInt (a:Nat)) rfl ?_);show wpAny _ _ (loadIfAlive (((a:Nat):Int).toNat) >>= _) _ _ _;rw [Int.toNat_natCast]
  have a2:h₂.get? a=some oa:=k2 a oa hai ha
  refine wpAny_bind (W.kdx_alive a2 ?_);simp only [Option.isNone_some,Bool.false_eq_true,if_false];refine wpAny_bind (wpAny_field e2 rfl (x:=.bool f) rfl ?_)
  cases f with
  | true =>
   rw [if_neg (show ¬ ((Value.bool true != Value.bool true)=true) from Bool.false_ne_true)];refine wpAny_pure ?_;simp only [Bool.false_eq_true,if_false]
   exact wpAny_pure (wpAny_pure ⟨_,rfl,wpAny_pure (q h₂ _ _ _ _ e2 (.inr ⟨_,_,rfl,a2,hai⟩) t2 z2 k2 fun a z=>.inr z)⟩)
  | false =>
   rw [if_pos (show (Value.bool false != Value.bool true)=true from rfl)];refine wpAny_bind (wpAny_setField_rec e2 (by simp) fun h₃ e3 s3=>?_)
   replace s3:Heap.SameBut it h₂ h₃:=s3;replace e3:ItA h₃ it d (i + 1) es.size ep (rawInt (a:Nat)) true ok ov:=e3
   refine wpAny_pure ?_;simp only [Bool.false_eq_true,if_false]
   exact wpAny_pure (wpAny_pure ⟨_,rfl,wpAny_pure (q h₃ _ _ _ _ e3 (.inr ⟨_,_,rfl,s3.extBut _ _ hai a2,hai⟩) (s3.extBut _ _ (Nat.ne_of_gt il) t2) (by show h₃.objs.size=_;rw [s3.1,z2]) (fun b o hb z=>s3.extBut b o hb (k2 b o hb z)) fun a z=>.inr z)⟩)
theorem zan {it d:Addr} {i ep:Nat} {es:Array DictEntry} {o0 ok ov:Value} {f:Bool} {Q:Option Value→Shared→Prop} (hh:A.handled=none) (hit:ItA s.heap it d i es.size ep o0 f ok ov) (hm:RawD s.heap d es ep) (hx:es.size≤i)
  (q:∀ h',Heap.ExtBut it s.heap h'→Q none { s with heap:=h' }):wpAny (model P w) A (pyNext (.ref it)) Q E s:=by
 obtain ⟨od,hod,hcd,hdd⟩:=id hm;have T:s.TypeIs (.ref it) "dict_itemiterator":=⟨_,hit,rfl⟩
 unfold pyNext;refine wpAny_bind (wpAny_attempt (wpAny_callSpecial?_slot (name:=Str.ofString "__next__") T F.slot_dict_itemiterator_next (wpAny_call_entry F.slot_dict_itemiterator_next T F.entry_dict_itemiterator_next ?_ (F.args_dict_itemiterator_next_1 _))))
 refine wpAny_bind (wpAny_pure ?_);refine wpAny_bind ?_;refine wpAny_bind ?_
 first | (refine wpAny_bind (wpAny_typeNameOfWhole_itemiter T (wpAny_pure ?_))) | (refine wpAny_bind (wpAny_typeNameOf_itemiter T (wpAny_pure ?_)))
 refine wpAny_bind (wpAny_fieldsOf hit rfl ?_);have own:Builtin.Dict_items.ownsTuple "dict_itemiterator"=true:=by decide
 simp only [own,if_true];show wpAny _ _ (if (Value.ref d == Value.none)=true then _ else _) _ _ s
 rw [if_neg (show ¬ ((Value.ref d == Value.none)=true) from Bool.false_ne_true)];refine wpAny_bind (wpAny_pure ?_);refine wpAny_bind (wpAny_dictEntries hod hdd ?_)
 rw [if_neg (by simp)];refine wpAny_bind (wpAny_pure ?_);refine wpAny_bind (wpAny_dictEpoch hod hdd ?_);rw [if_neg (by simp)];refine wpAny_pure ?_
 simp only [show ¬ ((i:Int) < 0) from by lia,if_false,Int.toNat_natCast,Array.getElem?_eq_none hx];refine wpAny_bind ?_
 first | (refine wpAny_bind (wpAny_typeNameOfWhole_itemiter T (wpAny_pure ?_))) | (refine wpAny_bind (wpAny_typeNameOf_itemiter T (wpAny_pure ?_)))
 show wpAny _ _ (setField (.ref it) 2 .none >>= _) _ _ s;refine wpAny_bind (wpAny_setField hit rfl (by simp) ?_)
 show wpAny _ _ (newExc (.type "StopIteration") [] >>= _) _ _ _;refine wpAny_bind ?_;simp only [newExc,newTuple];refine wpAny_bind (wpAny_newObj_type ?_ (by size_fits))
 refine wpAny_bind (m:=firstArgMember _ _) (wpAny_of_eq (a:=Value.none) (by first | rfl | (simp only [firstArgMember];rfl)) ?_);refine wpAny_newObj_type ?_ (by size_fits)
 simp only [raiseNew];refine wpAny_bind (wpAny_handled ?_);rw [show A.in1.handled=none from hh];refine wpAny_bind (wpAny_pure (wpAny_throw ?_))
 refine wpAny_bind (wpAny_isInstance (T:="StopIteration") (b:=true) ⟨_,Heap.get?_push_size _ rfl,rfl⟩ isSubtype_stop ?_);exact wpAny_pure (q _ (((Heap.SameBut.update ..).extBut.push _).push _))
end
end L2
namespace L2
open PySem PySem.Spec PyProof.Rows
def jQ (r d:Addr):HO:=.ext fun h=>h.IsItemsView r d
def qd (td:TE):TE:=fun σ H Q=>td σ H fun x H1=>∃ d kvs,x=.ref d∧H1 d=some (.dT kvs)∧∀ r,H1 r=none→Q (.ref r) (upd H1 r (jQ r d))
section
variable {X:Cx} {o:Expr} {apos cpos:Pos} {td:TE}
theorem Yx (ho:PE X o td) (hbase:attributeBase o "items" X.env (eval o X.env)=eval o X.env:=by rfl) (hline:(apos.endLine == cpos.line)=true:=by rfl):PE X (.Call (.Attribute o "items" apos) [] [] cpos) (qd td):=by
 intro pins s σ H Q I h
 refine wpAny_Call_method0_late hbase hline (thn (ho pins s σ H _ I h) fun v s1 ⟨x,H1,I1,r1,d,kvs,ex,hd,q1⟩=>?_)
 subst ex
 obtain rfl:v=Value.ref d:=r1
 obtain ⟨t1,t2,t3⟩:=KD I1 (.inr ⟨kvs,.inl hd⟩)
 refine ⟨"dict","dict.items",PySem.F.plainAttrs_dict,PySem.F.slot_dict_items,PySem.F.type_dict_items,t1,t2,Calls.callWith_builtin rfl (PySem.evalArgs_none ?_)⟩
 refine wpAny_call_entry PySem.F.slot_dict_items t1 PySem.F.entry_dict_items ?_ (PySem.F.args_dict_items_1 _)
 unfold Builtin.«dict.items»;refine wpAny_bind ?_;unfold Builtin.Dict.noArgs;refine wpAny_bind (wpAny_notOrdered_dict t1 ?_)
 show wpAny _ _ (pure d) _ _ s1;refine wpAny_pure ?_
 show wpAny _ _ (Builtin.Dict.showsAll d >>= _) _ _ s1;unfold Builtin.Dict.showsAll
 rw [if_neg (by rw [t3];exact Bool.false_ne_true)];refine wpAny_bind (wpAny_pure ?_)
 refine wpAny_bind (wpAny_newObj_type (wpAny_pure ⟨_,rfl,?_⟩))
 have hn:H1 s1.heap.objs.size=none:=I1.hok.fresh (Nat.le_refl _)
 have at0:(s1.heap.push { cls:=.type "dict_items",data:=.fields #[.ref d] }).get? s1.heap.objs.size=some { cls:=.type "dict_items",data:=.fields #[.ref d] }:=Heap.get?_push_size _ rfl
 refine ⟨.ref s1.heap.objs.size,_,I1.laid (a:=s1.heap.objs.size) (o:=jQ s1.heap.objs.size d) (t':=s1.toks) (fun b u e=>Heap.get?_push_of_some _ e) (Nat.le_refl _) ?_,rfl,q1 _ hn⟩
 exact ⟨⟨_,at0,rfl,rfl⟩,⟨_,at0⟩,fun h1 h2 ⟨o,e1,e2⟩ k=>⟨o,k o e1,e2⟩⟩
end
def qI (H:Hp) (v:V) (kv:List Key × V):Prop:=∃ r p,v=.ref r∧H r=some (.tup [.ref p,kv.2])∧H p=some (.tup (kv.1.map kV))
theorem WO {H H':Hp} (s:∀ b ys,H b=some (.tup ys)→H' b=some (.tup ys)):∀ {vs:List V} {kvs:List (List Key × V)},Paired (qI H) vs kvs→Paired (qI H') vs kvs
 | _,_,.nil=>.nil
 | _,_,.cons ⟨r,p,e,h1,h2⟩ t=>.cons ⟨r,p,e,s _ _ h1,s _ _ h2⟩ (WO s t)
theorem WP {H:Hp} {v:V} {q:List Key × V}:∀ {ys:List V} {kvs:List (List Key × V)},Paired (qI H) ys kvs→qI H v q→Paired (qI H) (ys ++ [v]) (kvs ++ [q])
 | _,_,.nil,h=>.cons h .nil
 | _,_,.cons a r,h=>.cons a (WP r h)
section
variable {X:Cx} {A:Around} {R:Result→Shared→Prop}
theorem Qm {pins:List (Addr × Obj)} {σ:St} {H:Hp} {S it d:Addr} {kvs:List (List Key × V)} {es:Array DictEntry} {ep:Nat} {res:Value} (hh:A.handled=none) (hS:H S=none) (hd:H d=some (.dT kvs)) (Sit:S≠it) (dit:d≠it) (hz:kvs.length≤1000)
  (hes:es.size=kvs.length) (hen:∀ (i:Nat) (e:DictEntry) (kv:List Key × V),es[i]?=some e→kvs[i]?=some kv→∃ p,e.key=.ref p∧H p=some (.tup (kv.1.map kV))∧RelV kv.2 e.val) (fin:∀ s' H' ys,Inv X pins σ H' s'→Same H H'→H' S=some (.lst ys)→Paired (qI H') ys kvs→R (.ok (.ret res)) s') :
  ∀ (k i:Nat) (s:Shared) (Hi:Hp) (ys:List V) (o0 ok ov:Value) (f:Bool),kvs.length - i=k→i≤kvs.length→Inv X pins σ Hi s→Same H Hi→Hi S=some (.lst ys)→Paired (qI Hi) ys (kvs.take i)→RawD s.heap d es ep→ItA s.heap it d i es.size ep o0 f ok ov →
  ((o0=.none∧f=false)∨∃ (a:Addr) (oa:Obj),o0=rawInt (a:Nat)∧s.heap.get? a=some oa∧a≠it∧a≠S)→qq X pins Hi it →
  codeAny (model X.prog X.w) A (.builtin "list.extend.loop" ⟨[.ref S,.ref it,res],[]⟩) R s:=by
 intro k
 induction k with
 | zero =>
  intro i s Hi ys o0 ok ov f hk hi I sm hy pr rd hit ho0 hf
  have e:i=kvs.length:=by lia
  subst e
  refine codeAny_builtin PySem.F.entry_extend_loop ?_;rw [Around.under_plainId PySem.F.plain_extend_loop _]
  show wpAny _ A.in1 (pyNext (.ref it) >>= _) _ _ s
  obtain ⟨f0,f1,f2,f3,f4,f5⟩:=hf
  refine wpAny_bind (zan (A:=A.in1) hh hit rd (by lia) fun h' eb=>?_)
  have I1:=I.turned (t':=s.toks) (fun b o hb e=>eb b o hb e) f0 f1 f3 f4 f5
  rw [List.take_length] at pr
  exact wpAny_pure (fin _ Hi ys I1 sm hy pr)
 | succ k ih =>
  intro i s Hi ys o0 ok ov f hk hi I sm hy pr rd hit ho0 hf
  have hlt:i < kvs.length:=by lia
  have hx:es[i]?=some es[i]:=Array.getElem?_eq_getElem (by lia)
  have hkv:kvs[i]?=some kvs[i]:=List.getElem?_eq_getElem hlt
  obtain ⟨p,ek,hp,rv⟩:=hen i _ _ hx hkv
  refine codeAny_builtin PySem.F.entry_extend_loop ?_;rw [Around.under_plainId PySem.F.plain_extend_loop _]
  show wpAny _ A.in1 (pyNext (.ref it) >>= _) _ _ s
  obtain ⟨f0,f1,f2,f3,f4,f5⟩:=id hf
  have ho0':(o0=.none∧f=false)∨∃ (a:Addr) (oa:Obj),o0=rawInt (a:Nat)∧s.heap.get? a=some oa∧a≠it:=by
   rcases ho0 with z | ⟨a,oa,z1,z2,z3,_⟩
   ·exact .inl z
   ·exact .inr ⟨a,oa,z1,z2,z3⟩
  refine wpAny_bind (Ql (A:=A.in1) hit rd hx ho0' fun h' o1 f1' k1 v1 hit' ho1 ht hz' kp own=>?_)
  have Sl:S < s.heap.objs.size:=by
   obtain ⟨_,_,_,_,e⟩:=(show ObjOk X.prog X.w Hi s.heap S (.lst ys) from I.hok S _ hy)
   exact Heap.lt_size e
  have tn:s.heap.objs.size≠it:=Nat.ne_of_gt (Heap.lt_size hit)
  have hTn:Hi s.heap.objs.size=none:=I.hok.fresh (Nat.le_refl _)
  have STn:S≠s.heap.objs.size:=Nat.ne_of_lt Sl
  generalize hT:s.heap.objs.size=T at *
  have I6:Inv X pins σ (upd Hi T (.tup [.ref p,kvs[i].2])) { s with heap:=s.heap.push { cls:=.type "tuple",data:=.seq #[es[i].key,es[i].val] } } :=
   I.laid (a:=T) (o:=.tup [.ref p,kvs[i].2]) (t':=s.toks) (fun b u e=>Heap.get?_push_of_some _ e) (by rw [hT];exact Nat.le_refl _) ⟨by show 2≤sizeLine;decide,[es[i].key,es[i].val],.cons (by rw [ek];exact rfl) (.cons rv .nil),⟨_,by rw [← hT];exact Heap.get?_push_size _ rfl,rfl,_,rfl⟩⟩
  have S6:Same Hi (upd Hi T (.tup [.ref p,kvs[i].2])):=isV T hTn
  have I7:Inv X pins σ (upd Hi T (.tup [.ref p,kvs[i].2])) { s with heap:=h' }:=I6.turned (s:={ s with heap:=s.heap.push { cls:=.type "tuple",data:=.seq #[es[i].key,es[i].val] } }) (t':=s.toks) (fun b o hb e=>by
   rcases Heap.get?_push_cases (show (s.heap.push { cls:=.type "tuple",data:=.seq #[es[i].key,es[i].val] }).get? b=some o from e) with ⟨rfl,rfl⟩ | e
   ·rw [hT];exact ht
   ·exact kp b o hb e) (by rw [zk (Ne.symm tn)];exact f0) f1 f3 f4 f5
  have hy7:(upd Hi T (.tup [.ref p,kvs[i].2])) S=some (.lst ys):=S6 _ _ hy
  obtain ⟨z,its,n,r,hl,e⟩:=I7.lstM hy7
  have yl:ys.length=i:=by
   have:=Paired.length pr
   rw [List.length_take] at this
   lia
  show wpAny _ A.in1 (updateSeq S (·.push (Value.ref T)) >>= _) _ _ _
  have e':h'.get? S=some { cls:=.type "list",data:=.seq its.toArray n }:=e
  refine wpAny_bind (wpAny_updateSeq (s:={ s with heap:=h' }) e' rfl ?_ (by rw [List.size_toArray,← r.length,yl];exact Nat.le_trans (by lia:i≤1000) (by decide)) (by rw [Array.size_push,List.size_toArray,← r.length,yl];exact Nat.le_trans (by lia:i + 1≤1001) (by decide)))
  have I8:=I7.lset (f:=fun xs=>xs.push (Value.ref T)) (t':=s.toks) (its':=its ++ [Value.ref T]) hy7 e' (by simp) (r.append (.cons (show RelV (.ref T) (.ref T) from rfl) .nil)) (by rw [List.length_append,yl];exact Nat.le_trans (by show i + 1≤1001;lia) (by decide))
  have up:∀ b o,b≠S→h'.get? b=some o→(h'.update S (Obj.mapSeq (·.push (Value.ref T)))).get? b=some o:=fun b o hb z=>(Heap.get?_update_other _ _ (Ne.symm hb)).trans z
  have dS:d≠S:=zL hd hS
  have tS:∀ b zs,Hi b=some (.tup zs)→(upd (upd Hi T (.tup [.ref p,kvs[i].2])) S (.lst (ys ++ [.ref T]))) b=some (.tup zs):=fun b zs z=>by
   rw [zk (zS z hy (by intro z;cases z))];exact S6 _ _ z
  have ri:∀ {a b:Nat},(rawInt (a:Int):Value)=rawInt (b:Int)→a=b:=fun {a b} z=>by
   have z':(Value.int (a:Int) 0:Value)=Value.int (b:Int) 0:=z
   have z'':(a:Int)=(b:Int):=by injection z'
   exact Int.ofNat.inj z''
  refine wpAny_pure ⟨plainId_quiet PySem.F.plain_extend_loop _,ih (i + 1) _ _ (ys ++ [.ref T]) o1 k1 v1 f1' (by lia) hlt I8 (fun b o z=>?_) ze ?_ (rd.at fun o z=>up d o dS (kp d o dit z)) (up it _ (Ne.symm Sit) hit') ?_ ⟨?_,f1,f2,f3,f4,f5⟩⟩
  ·rw [zk (zL z hS)];exact S6 _ _ (sm _ _ z)
  ·rw [List.take_add_one,hkv]
   exact WP (WO tS pr) ⟨T,p,rfl,by rw [zk (Ne.symm STn),ze],tS _ _ (sm _ _ hp)⟩
  ·rcases ho1 with z | ⟨a,oa,z1,z2,z3⟩
   ·exact .inl z
   ·have aS:a≠S:=by
     rcases own a z1 with z | z
     ·rw [z];exact Ne.symm STn
     ·rcases ho0 with ⟨y1,_⟩ | ⟨a',oa',y1,_,_,y4⟩
      ·rw [y1] at z;cases z
      ·rw [y1] at z
       rw [← ri z];exact y4
    exact .inr ⟨a,oa,z1,up a _ aS z2,z3,aS⟩
  ·rw [zk (Ne.symm Sit),zk (Ne.symm tn)];exact f0
end
end L2
namespace L2
open PySem PySem.Spec PyProof.Rows
abbrev Jw:RC:=fun vs H Q=>∃ r d kvs,vs=[.ref r]∧H r=some (jQ r d)∧H d=some (.dT kvs)∧kvs.length≤1000∧∀ l ys H',Same H H'→H l=none→H' l=some (.lst ys)→Paired (qI H') ys kvs→Q (.ref l) H'
theorem zao {P:Program} {w:World} {H:Hp} {h:Heap} {r d:Addr} (k:HOk P w H h) (e:H r=some (jQ r d)):h.IsItemsView r d:=(k r _ e).1
theorem zap {H:Hp}:∀ {kvs:List (List Key × V)} {xs:List (List Key × Addr × Value)},Paired (fun (p:List Key × V) (q:List Key × Addr × Value)=>p.1=q.1∧H q.2.1=some (.tup (p.1.map kV))∧RelV p.2 q.2.2) kvs xs→∀ {i:Nat} {kv:List Key × V} {x:List Key × Addr × Value},kvs[i]?=some kv→xs[i]?=some x→H x.2.1=some (.tup (kv.1.map kV))∧RelV kv.2 x.2.2 :=
 fun {_ _} h {_ _ _} e1 e2=>(xm h e1 e2).2
section
variable {X:Cx}
theorem zbi {pins:List (Addr × Obj)} {σ:St} {H:Hp} {s:Shared} {d:Addr} {kvs:List (List Key × V)} (I:Inv X pins σ H s) (e:H d=some (.dT kvs)):∃ es ep,RawD s.heap d es ep∧es.size=kvs.length ∧
  ∀ (i:Nat) (en:DictEntry) (kv:List Key × V),es[i]?=some en→kvs[i]?=some kv→∃ p,en.key=.ref p∧H p=some (.tup (kv.1.map kV))∧RelV kv.2 en.val:=by
 obtain ⟨z,hd,xs,rel,o,es,ep,h1,h2,h3,h4,_⟩:=(show ObjOk X.prog X.w H s.heap d (.dT kvs) from I.hok d _ e)
 have l1:es.size=xs.length:=by rw [← Array.length_toList,h4,List.length_map]
 refine ⟨es,ep,⟨o,h1,h2,h3⟩,by rw [l1,← Paired.length rel],fun i en kv e1 e2=>?_⟩
 have e3:es.toList[i]?=some en:=by rw [Array.getElem?_toList];exact e1
 rw [h4,List.getElem?_map] at e3
 obtain ⟨x,hx,rfl⟩:=Option.map_eq_some_iff.mp e3
 obtain ⟨g1,g2⟩:=zap rel e2 hx
 exact ⟨x.2.1,rfl,g1,g2⟩
theorem Xo {A:Around} {R:Result→Shared→Prop} {pins:List (Addr × Obj)} {σ:St} {H:Hp} {s:Shared} {S r d:Addr} {kvs:List (List Key × V)} {res:Value} {c:Nat} (hh:A.handled=none) (hS:H S=none) (hr:H r=some (jQ r d)) (hd:H d=some (.dT kvs)) (hl:kvs.length≤1000)
  (I2:Inv X pins σ (upd H S (.lst [])) s) (T2:s.heap.get? S=some { cls:=.type "list",data:=.seq #[] c }) (hR:∀ s' H' ys,Inv X pins σ H' s'→Same H H'→H' S=some (.lst ys)→Paired (qI H') ys kvs→R (.ok (.ret res)) s') :
  wpAny (model X.prog X.w) A.in1 (Builtin.List.listExtendWith (.ref S) (.ref r) res) (fun fin s'=>match fin with | .done f=>R (.ok f) s' | .again c'=>c'.quiet=true∧codeAny (model X.prog X.w) A c' R s') (fun e s'=>R (.error e) s') s:=by
 have Sr:r≠S:=zL hr hS
 have Sd:d≠S:=zL hd hS
 have SS:Same H (upd H S (.lst [])):=isV S hS
 obtain ⟨es,ep,rd,hes,hen0⟩:=zbi I2 (SS _ _ hd)
 have hen:∀ (i:Nat) (en:DictEntry) (kv:List Key × V),es[i]?=some en→kvs[i]?=some kv→∃ p,en.key=.ref p∧H p=some (.tup (kv.1.map kV))∧RelV kv.2 en.val:=fun i en kv e1 e2=>by
  obtain ⟨p,g1,g2,g3⟩:=hen0 i en kv e1 e2
  refine ⟨p,g1,?_,g3⟩
  by_cases hp:p=S
  ·rw [hp,ze] at g2;cases g2
  ·rwa [zk hp] at g2
 have vw:=zao I2.hok (SS _ _ hr)
 unfold Builtin.List.listExtendWith
 refine wpAny_bind (wpAny_typeOf (T:="dict_items") vw.typeIs ?_)
 have c1:Builtin.List.listSameRef (.ref S) (.ref r)=false:=by simp [Builtin.List.listSameRef,Ne.symm Sr]
 have c2:(Value.type "dict_items" == Value.type "list")=false:=by decide
 have c3:(Value.type "dict_items" == Value.type "tuple")=false:=by decide
 simp only [c1,c2,c3,Bool.or_false,Bool.false_eq_true,if_false]
 refine wpAny_bind (Qk vw rd ?_)
 have ni:(upd H S (.lst [])) s.heap.objs.size=none:=I2.hok.fresh (Nat.le_refl _)
 have fp:qq X pins (upd H S (.lst [])) s.heap.objs.size:=I2.fpOk (Nat.le_refl _) ni
 have Si:S≠s.heap.objs.size:=Nat.ne_of_lt (Heap.lt_size T2)
 have di:d≠s.heap.objs.size:=Nat.ne_of_lt rd.lt
 have I3:Inv X pins σ (upd H S (.lst [])) { s with heap:=s.heap.push { cls:=.type "dict_itemiterator",data:=.fields #[.none,.bool false,.ref d,.int 0 0,.int es.size 0,.int ep 0,.none,.none] } }:=I2.kept (t':=s.toks) fun b o e=>Heap.get?_push_of_some _ e
 have T3:=Heap.get?_push_of_some { cls:=.type "dict_itemiterator",data:=.fields #[.none,.bool false,.ref d,.int 0 0,.int es.size 0,.int ep 0,.none,.none] } T2
 have it3:ItA (s.heap.push { cls:=.type "dict_itemiterator",data:=.fields #[.none,.bool false,.ref d,.int 0 0,.int es.size 0,.int ep 0,.none,.none] }) s.heap.objs.size d 0 es.size ep .none false .none .none:=Heap.get?_push_size _ rfl
 have rd3:RawD (s.heap.push { cls:=.type "dict_itemiterator",data:=.fields #[.none,.bool false,.ref d,.int 0 0,.int es.size 0,.int ep 0,.none,.none] }) d es ep:=rd.at fun o e=>Heap.get?_push_of_some _ e
 have vw3:(s.heap.push { cls:=.type "dict_itemiterator",data:=.fields #[.none,.bool false,.ref d,.int 0 0,.int es.size 0,.int ep 0,.none,.none] }).IsItemsView r d:=let ⟨o,ho,x⟩:=vw;⟨o,Heap.get?_push_of_some _ ho,x⟩
 generalize hh3:s.heap.push { cls:=.type "dict_itemiterator",data:=.fields #[.none,.bool false,.ref d,.int 0 0,.int es.size 0,.int ep 0,.none,.none] }=h3 at *
 generalize s.heap.objs.size=it at *
 refine wpAny_bind (wpAny_holding (W.kdx_hint vw3.typeIs ?_))
 have fin:∀ (h4:Heap) (tk:Nat) (R:Result→Shared→Prop),(∀ s' H' ys,Inv X pins σ H' s'→Same H H'→H' S=some (.lst ys)→Paired (qI H') ys kvs→R (.ok (.ret res)) s')→Inv X pins σ (upd H S (.lst [])) { s with heap:=h4,toks:=tk }→RawD h4 d es ep→ItA h4 it d 0 es.size ep .none false .none .none →
   codeAny (model X.prog X.w) A (.builtin "list.extend.loop" ⟨[.ref S,.ref it,res],[]⟩) R { s with heap:=h4,toks:=tk }:=fun h4 tk R hR I4 rd4 it4 =>
  Qm (A:=A) (H:=H) (es:=es) (ep:=ep) hh hS hd Si di hl hes hen hR kvs.length 0 _ (upd H S (.lst [])) [] .none .none .none false (Nat.sub_zero _) (Nat.zero_le _) I4 SS ze .nil rd4 it4 (.inl ⟨rfl,rfl⟩) fp
 refine wpAny_ite_split (fun _=>?_) (fun _=>wpAny_pure ⟨plainId_quiet PySem.F.plain_extend_loop _,fin h3 s.toks _ hR I3 rd3 it3⟩)
 refine wpAny_bind (wpAny_rule ?_);refine wpAny_bind ?_
 show wpAny _ _ (updateSeq S (·.push .none) >>= fun _=>updateSeq S (·.pop)) _ _ _;refine wpAny_bind (wpAny_updateSeq T3 rfl ?_)
 have T4:=Heap.get?_update_self (Obj.mapSeq (·.push Value.none)) T3 rfl
 refine wpAny_updateSeq (hz:=by seq_fits) T4 rfl ?_
 have I4:=I3.lset (f:=fun xs=>xs.push Value.none) (its:=[]) (its':=[Value.none]) (ys:=[V.non]) (t':=s.toks) ze T3 rfl (.cons rfl .nil) (by show 1≤sizeLine;decide)
 have I5:=I4.lset (f:=fun xs=>xs.pop) (its:=[Value.none]) (its':=[]) (ys:=[]) (t':=s.toks) ze T4 rfl .nil (Nat.zero_le _)
 rw [Xz,Xz] at I5
 have oth:∀ b o,b≠S→h3.get? b=some o→((h3.update S (Obj.mapSeq (·.push Value.none))).update S (Obj.mapSeq (·.pop))).get? b=some o:=fun b o hb e=>(Heap.get?_update_other _ _ (Ne.symm hb)).trans ((Heap.get?_update_other _ _ (Ne.symm hb)).trans e)
 exact wpAny_pure ⟨plainId_quiet PySem.F.plain_extend_loop _,fin _ s.toks _ hR I5 (rd3.at fun o e=>oth d o Sd e) (oth it _ (Ne.symm Si) it3)⟩
theorem ZA (hc:X.calm=true):kH X (.type "list") Jw:=by
 intro pins s σ H vs us Q I r0 h
 obtain ⟨r,d,kvs,rfl,hr,hd,hl,q⟩:=h
 obtain ⟨u,rfl,ru⟩:=Y8 r0
 cases ru
 have hh:X.A.handled=none:=I.ok.hd hc
 refine callType_codes (Q₁:=fun obj s₁=>obj=.ref s.heap.objs.size∧s₁={ s with heap:=s.heap.push { cls:=.type "list",data:=.seq #[] } }) PySem.F.called_list (PySem.F.typeCall_list_1 _) PySem.F.entry_list_init (code_list_new _ ⟨rfl,rfl⟩) ?_;rintro obj s₁ ⟨rfl,rfl⟩
 have hS:H s.heap.objs.size=none:=I.hok.fresh (Nat.le_refl _)
 have I1:Inv X pins σ (upd H s.heap.objs.size (.lst [])) { s with heap:=s.heap.push { cls:=.type "list",data:=.seq #[] } }:=I.lnew (its:=[]) (t':=s.toks) .nil (Nat.zero_le _)
 have T0:(s.heap.push { cls:=.type "list",data:=.seq #[] }).get? s.heap.objs.size=some { cls:=.type "list",data:=.seq #[] }:=Heap.get?_push_size _ rfl
 generalize hT:s.heap.objs.size=S at *
 refine ⟨⟨_,T0,rfl⟩,PySem.F.args_list_init_2 _ _,?_⟩
 show wpAny _ _ (do let old ← Builtin.List.listItems (.ref S);Builtin.List.listUpdate (.ref S) (fun _=>#[]);letGo old.toList.reverse;Builtin.List.listExtendWith (.ref S) (.ref r) .none) _ _ _
 refine wpAny_bind ?_;unfold Builtin.List.listItems;refine wpAny_bind (wpAny_seqItems T0 rfl (wpAny_pure ?_))
 show wpAny _ _ (updateSeq S (fun _=>#[]) >>= fun _=>letGo (#[]:Array Value).toList.reverse >>= fun _=>Builtin.List.listExtendWith (.ref S) (.ref r) .none) _ _ _
 refine wpAny_bind (wpAny_updateSeq T0 rfl ?_)
 have I2:=I1.lset (f:=fun _=>(#[]:Array Value)) (its:=[]) (its':=[]) (ys:=[]) (t':=s.toks) ze T0 rfl .nil (Nat.zero_le _)
 rw [Xz] at I2
 have T2:=Heap.get?_update_self (Obj.mapSeq (fun _=>(#[]:Array Value))) T0 rfl
 refine wpAny_bind (wpAny_letGo ?_)
 generalize hh2:(s.heap.push { cls:=.type "list",data:=.seq #[] }).update S (Obj.mapSeq (fun _=>(#[]:Array Value)))=h2 at *
 exact Xo (A:=X.A.in1) (H:=H) hh hS hr hd hl I2 T2 fun s' H' ys I' sm hy pr=>⟨rfl,.ref S,H',I',rfl,q S ys H' sm hS hy pr⟩
end
end L2
namespace L2
open PySem PySem.Spec PyProof.Rows PySem.W
section
variable {X:Cx}
theorem VT {A:Around} {E:Value→Shared→Prop} {R:List Value→Shared→Prop} {pins:List (Addr × Obj)} {σ:St} {H:Hp} {s:Shared} {r d:Addr} {kvs:List (List Key × V)} (hh:A.handled=none) (hr:H r=some (jQ r d)) (hd:H d=some (.dT kvs)) (hl:kvs.length≤1000) (I:Inv X pins σ H s)
  (h:∀ s1 H' ys us,Inv X pins σ H' s1→Same H H'→Paired (qI H') ys kvs→Vals ys us→R us s1):wpAny (model X.prog X.w) A (collect (.ref r)) R E s:=by
 have hS:H s.heap.objs.size=none:=I.hok.fresh (Nat.le_refl _)
 have I1:Inv X pins σ (upd H s.heap.objs.size (.lst [])) { s with heap:=s.heap.push { cls:=.type "list",data:=.seq ([]:List Value).toArray } }:=I.lnew (its:=[]) (t':=s.toks) .nil (Nat.zero_le _)
 have T1:(s.heap.push { cls:=.type "list",data:=.seq ([]:List Value).toArray }).get? s.heap.objs.size=some { cls:=.type "list",data:=.seq #[] }:=Heap.get?_push_size _ rfl
 unfold collect;refine wpAny_bind (wpAny_runValue (codeAny_builtin entry_proto_collect' ?_));rw [Around.under_plainId PySem.F.plain_proto_collect _]
 show wpAny _ A.in1 (newList [] >>= fun l=>again (.builtin "list.__iadd__" ⟨[l,.ref r],[]⟩)) _ _ s;refine wpAny_bind (wpAny_newObj_type ?_)
 refine wpAny_pure ⟨plainId_quiet PySem.F.plain_list_iadd _,codeAny_builtin entry_list_iadd' ?_⟩;rw [Around.under_plainId PySem.F.plain_list_iadd _]
 generalize s.heap.objs.size=S at *
 show wpAny _ A.in1 (Builtin.List.listExtendWith (.ref S) (.ref r) (.ref S)) _ _ _
 have key:=Xo (A:=A) (R:=fun (q:Result) (s':Shared)=>∃ H' ys,q=.ok (.ret (.ref S))∧Inv X pins σ H' s'∧Same H H'∧H' S=some (.lst ys)∧Paired (qI H') ys kvs) (res:=.ref S) hh hS hr hd hl I1 T1 fun s' H' ys I' sm hy pr=>⟨H',ys,rfl,I',sm,hy,pr⟩
 have fin:∀ s':Shared,(∃ H' ys,Inv X pins σ H' s'∧Same H H'∧H' S=some (.lst ys)∧Paired (qI H') ys kvs)→wpAny (model X.prog X.w) A (load S >>= fun o=>match o.data with | .seq xs _=>pure xs.toList | _=>unsupported "internal:collect") R E s':=fun s' ⟨H',ys,I',sm,hy,pr⟩=>by
  obtain ⟨z,its,n,rv,hl',e⟩:=I'.lstM hy
  refine wpAny_bind (wpAny_load e ?_)
  refine wpAny_pure ?_
  exact h s' H' ys its I' sm pr rv
 refine wpAny_mono key (fun f s' x=>?_) fun e s' x=>?_
 ·cases f with
  | done f =>
   obtain ⟨H',ys,e,x⟩:=x
   cases e
   exact fin s' ⟨H',ys,x⟩
  | again c₁ =>
   refine ⟨x.1,codeAny_mono x.2 fun q s₂ y=>?_⟩
   obtain ⟨H',ys,rfl,y⟩:=y
   exact fin s₂ ⟨H',ys,y⟩
 ·obtain ⟨_,_,e',_⟩:=x
  cases e'
end
section
variable {P:Program} {w:World} {A:Around} {E:Value→Shared→Prop} {s:Shared}
theorem Qn {x y:Addr} {a b:Str × Int} {Q:Bool→Shared→Prop} (hu:A.units < cLine) (hx:PlAt s.heap (.ref x) a) (hy:PlAt s.heap (.ref y) b) (h:Q (yp a b) s):wpAny (model P w) A (oneLt' false (.ref x) (.ref y)) Q E s:=by
 obtain ⟨p,o,t,u,n,e1,ho,hc,hd⟩:=hx
 obtain ⟨p2,o2,t2,u2,n2,e2,ho2,hc2,hd2⟩:=hy
 cases e1
 cases e2
 obtain ⟨c,dd,dat,sl⟩:=o
 obtain ⟨c2,dd2,dat2,sl2⟩:=o2
 simp only at hc hd hc2 hd2
 subst hc hd hc2 hd2
 have T1:s.TypeIs (.ref x) "tuple":=⟨_,ho,rfl⟩
 have T2:s.TypeIs (.ref y) "tuple":=⟨_,ho2,rfl⟩
 refine kat_one _ _ ?_
 show wpAny _ _ (richCompare .Lt (.ref x) (.ref y)) _ _ _
 refine wpAny_richCompare_same_room T1 T2 PySem.F.slot_tuple_lt ?_ hu
 exact call_meets PySem.F.slot_tuple_lt T1 PySem.F.entry_tuple_lt (PySem.F.args_tuple_lt_2 _ _) (Yt x y a.1 b.1 a.2 b.2 t u t2 u2 n n2 dd dd2 sl sl2) ⟨ho,ho2,by simp,h⟩
theorem Qo {h:Heap} {x:Addr} {a:Str × Int} (hx:PlAt h (.ref x) a):IsTupleKey (yw P w) h (zZ a) x:=by
 obtain ⟨p,o,t,u,n,e1,ho,hc,hd⟩:=hx
 cases e1
 exact ⟨o,_,n,ho,hc,hd,qX (ks:=zZ a) (.cons ⟨t,rfl⟩ (.cons ⟨u,rfl⟩ .nil))⟩
def RvAt (h:Heap) (v:Value) (q:Row):Prop:=∃ a o p t n,v=.ref a∧h.get? a=some o∧o.cls=.type "tuple"∧o.data=.seq #[.ref p,.int q.2 t] n∧PlAt h (.ref p) q.1
theorem RvAt.keep {h h':Heap} {v:Value} {q:Row} (x:RvAt h v q) (k:∀ b o,h.get? b=some o→h'.get? b=some o):RvAt h' v q:=by
 obtain ⟨a,o,p,t,n,e,ho,hc,hd,hp⟩:=x
 exact ⟨a,o,p,t,n,e,k _ _ ho,hc,hd,hp.keep k⟩
theorem zaq {x y:Value} {a b:Row} {Q:Bool→Shared→Prop} (hu:A.units < cLine) (hx:RvAt s.heap x a) (hy:RvAt s.heap y b) (h:Q (yp a.1 b.1) s) (hn:a.1≠b.1):wpAny (model P w) A (keyLt' (tuples' false) x y) Q E s:=by
 obtain ⟨p,o,pp,t,n,rfl,ho,hc,hd,hp⟩:=hx
 obtain ⟨p2,o2,pp2,t2,n2,rfl,ho2,hc2,hd2,hp2⟩:=hy
 refine kat_lt ho hd ho2 hd2 (kat_cons (wpAny_eqBool_tuple (knd:=yw P w) hu (Qo hp) (Qo hp2) (kat_go (fun e=>?_) fun e=>kat_no ?_)))
 ·exact absurd (w6 (of_decide_eq_true e)) hn
 ·exact Qn hu hp hp2 h
theorem Qp {vs:List Value} {qs:List Row} {Q:SortKind→Shared→Prop} (hl:vs.length=qs.length) (hv:∀ (i:Nat) (v:Value) (q:Row),vs[i]?=some v→qs[i]?=some q→RvAt s.heap v q) (h2:0 < vs.length) (h:Q (tuples' false) s) :
  wpAny (model P w) A (keyKind' vs.toArray) Q E s:=by
 have T:∀ (vs:List Value) (qs:List Row),vs.length=qs.length→(∀ (i:Nat) (v:Value) (q:Row),vs[i]?=some v→qs[i]?=some q→RvAt s.heap v q)→∃ fs,KatTups s.heap vs fs∧fs.length=vs.length∧∀ v∈fs,∃ p o,v=Value.ref p∧s.heap.get? p=some o∧o.cls=.type "tuple":=by
  intro vs
  induction vs with
  | nil=>exact fun qs _ _=>⟨[],trivial,rfl,fun _ z=>nomatch z⟩
  | cons v r ih =>
   intro qs hl hv
   match qs,hl with
   | q :: qr,hl =>
    obtain ⟨fs,k,kl,kf⟩:=ih qr (by simpa using hl) fun i v' q' e1 e2=>hv (i + 1) v' q' (by simpa using e1) (by simpa using e2)
    obtain ⟨a,o,p,t,n,rfl,ho,hc,hd,hp⟩:=hv 0 v q rfl rfl
    refine ⟨.ref p :: fs,KatTups.cons ho hc hd rfl k,by simp [kl],fun z hz=>?_⟩
    rcases List.mem_cons.mp hz with rfl | hz
    ·obtain ⟨p',o',_,_,_,e,g1,g2,_⟩:=hp
     cases e
     exact ⟨_,o',rfl,g1,g2⟩
    ·exact kf z hz
 obtain ⟨fs,k,kl,kf⟩:=T vs qs hl hv
 refine kat_kind (T:=.type "tuple") k (by lia) (fun v hv=>?_) (by decide) h
 obtain ⟨p,o,rfl,g1,g2⟩:=kf v hv
 exact g2 ▸ (W.Looks.ld g1).andThen .now
theorem XY {l:Addr} {κ:SortKind} {Q:Value→Shared→Prop} (G:List Value→(Nat→Nat→Bool)→Shared→Prop)
  (coll:∀ R:List Value→Shared→Prop,(∀ vs lt s1,G vs lt s1→R vs s1)→wpAny (model P w) A.in1 (collect (.ref l)) R E s)
  (h64:∀ vs lt s1,G vs lt s1→vs.length < 64∧SO lt vs.length)
  (hk:∀ vs lt s1,G vs lt s1→2≤vs.length→∀ (h:Heap) (Q:SortKind→Shared→Prop),(∀ b o,s1.heap.get? b=some o→h.get? b=some o)→Q κ { s1 with heap:=h }→wpAny (model P w) A.in1.in1 (keyKind' vs.toArray) Q (fun _ _=>False) { s1 with heap:=h })
  (hc:∀ vs lt s1,G vs lt s1→∀ (h:Heap) i j C,(∀ b o,s1.heap.get? b=some o→h.get? b=some o)→i < vs.length→j < vs.length→i≠j→C (lt i j) { s1 with heap:=h }→kas_ask P w A.in1.in1 κ vs i j C { s1 with heap:=h })
  (fin:∀ vs lt s1,G vs lt s1→∀ (h':Heap) (p:Array Nat) (c:Nat),(∀ b o,s1.heap.get? b=some o→h'.get? b=some o)→h'.get? s1.heap.objs.size=some (seqObj "list" (jO vs p).toArray c)→PP vs.length p→kZ lt p vs.length→Q (.ref s1.heap.objs.size) { s1 with heap:=h' }) :
  wpAny (model P w) A (call (.builtin "sorted") [.ref l]) Q E s:=by
 refine Calls.call_function_entry kind_sorted plain_sorted entry_sorted (args_sorted1 _) ?_;unfold Builtin.«sorted»
 refine wpAny_bind (m:=checkCount "sorted" 1 1 _) (wpAny_pure ?_);refine wpAny_bind (coll _ fun vs lt s1 g=>?_)
 obtain ⟨l64,S⟩:=h64 vs lt s1 g
 refine wpAny_bind (wpAny_newList ?_ (by rw [sizeLine_eq];lia))
 have hoL:(s1.heap.push (seqObj "list" vs.toArray 0)).get? s1.heap.objs.size=some (seqObj "list" vs.toArray 0):=Heap.get?_push_size _ rfl
 have kept:∀ h',Kp s1.heap.objs.size (s1.heap.push (seqObj "list" vs.toArray 0)) h'→∀ b o,s1.heap.get? b=some o→h'.get? b=some o:=fun h' k b o e=>k b o (Nat.ne_of_lt (Heap.lt_size e)) (Heap.get?_push_of_some _ e)
 refine wpAny_bind (wpAny_holding (wpAny_call_entry slot_list_sort ⟨_,hoL,rfl⟩ entry_list_sort (VQ (s:={ s1 with heap:=s1.heap.push (seqObj "list" vs.toArray 0) }) hoL l64 (κ:=κ) (lt:=lt) (fun h2 h' Q' k q=>?_) (fun h' i j C k hi hj hij q=>?_) S fun h' p c k ho hp hr=>?_) (args_list_sort _)))
 ·exact hk vs lt s1 g h2 h' Q' (kept h' k) q
 ·exact hc vs lt s1 g h' i j C (kept h' k) hi hj hij q
 ·exact ⟨_,rfl,wpAny_pure ⟨_,rfl,fin vs lt s1 g h' p c (kept h' k) ho hp hr⟩⟩
end
end L2
namespace L2
open PySem PySem.Spec PyProof.Rows PySem.W
def d0:Row:=(("",0),0)
theorem zbj (rows:List Row):∃ its:List Row,dOf rows=its.map (fun q=>(zZ q.1,V.int q.2))∧(its.map (·.1)).Nodup∧∀ p w,(p,w)∈its↔zI rows p=some w:=by
 have h:=qH rows
 have:∀ (kvs:List (List Key × V)),(∀ kv∈kvs,∃ (p:Pl) (w:Int),kv=(zZ p,.int w))→∃ its:List Row,kvs=its.map (fun q=>(zZ q.1,V.int q.2)):=fun kvs=>by
  induction kvs with
  | nil=>exact fun _=>⟨[],rfl⟩
  | cons kv r ih =>
   intro hk
   obtain ⟨qs,e⟩:=ih fun z hz=>hk z (List.mem_cons_of_mem _ hz)
   obtain ⟨p,w,e2⟩:=hk kv List.mem_cons_self
   exact ⟨(p,w) :: qs,by rw [List.map_cons,← e,e2]⟩
 obtain ⟨its,e⟩:=this _ h.2
 refine ⟨its,e,?_,fun p w=>?_⟩
 ·have:=h.1
  rw [e,List.map_map] at this
  refine kN (f:=zZ) ?_
  rw [List.map_map]
  exact this
 ·have m:=zal (rows:=rows) (kv:=(zZ p,V.int w))
  constructor
  ·intro hm
   obtain ⟨p',w',e1,e2⟩:=m.mp (by rw [e];exact List.mem_map.mpr ⟨_,hm,rfl⟩)
   have e3:=w6 (Prod.mk.inj e1).1
   have e4:=V.int.inj (Prod.mk.inj e1).2
   rw [e3,e4];exact e2
  ·intro hw
   have hm:=m.mpr ⟨p,w,rfl,hw⟩
   rw [e] at hm
   obtain ⟨q,hq,e1⟩:=List.mem_map.mp hm
   have e3:=w6 (Prod.mk.inj e1).1
   have e4:=V.int.inj (Prod.mk.inj e1).2
   rw [← e3,← e4];exact hq
theorem VU {α:Type} (l:List α) (d:α):(List.range l.length).map (fun i=>l.getD i d)=l:=by
 apply List.ext_getElem?
 intro i
 rw [List.getElem?_map]
 by_cases hi:i < l.length
 ·rw [List.getElem?_range hi,List.getElem?_eq_getElem hi]
  simp [List.getD_eq_getElem?_getD,List.getElem?_eq_getElem hi]
 ·rw [List.getElem?_eq_none (by simpa using hi),List.getElem?_eq_none (by lia)]
  rfl
theorem PP.list {n:Nat} {p:Array Nat} (h:PP n p):p.toList.Perm (List.range n):=by
 have:=Array.perm_iff_toList_perm.mp h
 simpa using this
theorem PP.lt {n:Nat} {p:Array Nat} (h:PP n p):∀ i∈p.toList,i < n:=fun i hi=>by
 have:=h.list.mem_iff.mp hi
 simpa using this
theorem VW {α:Type} {F:α→α→Bool} {l:List α} {d:α} {n:Nat} {p:Array Nat} (hp:PP n p) (hr:kZ (fun i j=>F (l.getD i d) (l.getD j d)) p n):(p.toList.map fun i=>l.getD i d).Pairwise fun a b=>F a b=true:=by
 rw [List.pairwise_map,List.pairwise_iff_getElem]
 intro i j hi hj hij
 rw [Array.length_toList] at hi hj
 have g1:=jN hi
 have g2:=jN hj
 have sz:=hp.size
 have r:=hr i j hij (by lia)
 have x1:p.toList[i]=gt p i:=by
  rw [Array.getElem?_eq_getElem hi] at g1
  simpa using g1
 have x2:p.toList[j]=gt p j:=by
  rw [Array.getElem?_eq_getElem hj] at g2
  simpa using g2
 rw [x1,x2];exact r
theorem jR {α β:Type} {F:α→β→Prop} {l₁:List α} {l₂:List β} (h:Paired F l₁ l₂) (a:α) (b:β):∀ {is:List Nat},(∀ i∈is,i < l₁.length)→Paired F (is.map fun i=>l₁.getD i a) (is.map fun i=>l₂.getD i b)
 | [],_=>.nil
 | i :: r,hi=>by
  have l:=Paired.length h
  have h1:=hi i List.mem_cons_self
  refine .cons ?_ (jR h a b fun j hj=>hi j (List.mem_cons_of_mem _ hj))
  show F (l₁.getD i a) (l₂.getD i b)
  have e1:=List.getElem?_eq_getElem h1
  have e2:l₂[i]?=some l₂[i]:=List.getElem?_eq_getElem (by lia)
  rw [List.getD_eq_getElem?_getD,List.getD_eq_getElem?_getD,e1,e2]
  exact xm h e1 e2
abbrev Xp:RC:=fun vs H Q=>∃ r d rows,vs=[.ref r]∧H r=some (jQ r d)∧H d=some (.dT (dOf rows))∧(dOf rows).length < 64 ∧
 ∀ l ys srt H',Same H H'→H l=none→H' l=some (.lst ys)→Paired (kC H') ys srt→qc srt→(∀ p w,(p,w)∈srt↔zI rows p=some w)→Q (.ref l) H'
theorem Qq {H:Hp}:∀ {ys:List V} {its:List Row},Paired (qI H) ys (its.map fun q=>(zZ q.1,V.int q.2))→Paired (kC H) ys its
 | _,[],h=>by cases h;exact .nil
 | _,q :: r,h=>by
  rw [List.map_cons] at h
  cases h with
  | cons a t=>exact .cons a (Qq t)
section
variable {X:Cx}
theorem zbT {pins:List (Addr × Obj)} {σ:St} {H:Hp} {s:Shared} {v:V} {u:Value} {q:Row} (I:Inv X pins σ H s) (h:kC H v q) (r:RelV v u):RvAt s.heap u q:=by
 obtain ⟨a,p,rfl,h1,h2⟩:=h
 cases r
 obtain ⟨_,its,rv,o,o1,o2,n,o3⟩:=(show ObjOk X.prog X.w H s.heap a (.tup [.ref p,.int q.2]) from I.hok a _ h1)
 cases rv with
 | cons r1 rr =>
  cases rr with
  | cons r2 rn =>
   cases rn
   cases r1
   obtain ⟨t,rfl⟩:=r2
   exact ⟨a,o,p,t,n,rfl,o1,o2,o3,Qe I h2⟩
theorem vJ (hc:X.calm=true) (hu:X.A.units + 3 < cLine):kH X (.builtin "sorted") Xp:=by
 intro pins s σ H vs us Q I r0 h
 obtain ⟨r,d,rows,rfl,hr,hd,h64,q⟩:=h
 obtain ⟨u,rfl,ru⟩:=Y8 r0
 cases ru
 have hh:X.A.handled=none:=I.ok.hd hc
 obtain ⟨its,ei,nd,mi⟩:=zbj rows
 have li:(dOf rows).length=its.length:=by rw [ei,List.length_map]
 have so:=VR nd
 have vat:∀ {s1:Shared} {H':Hp} {ys:List V} {vs:List Value},Inv X pins σ H' s1→Paired (kC H') ys its→Vals ys vs→∀ (i:Nat) (q:Row),its[i]?=some q→∃ v,vs[i]?=some v∧RvAt s1.heap v q:=fun {s1 H' ys vs} I' pr rv i q hq=>by
  have hi:=(List.getElem?_eq_some_iff.mp hq).1
  have l1:=Paired.length pr
  obtain ⟨y,hy⟩:∃ y,ys[i]?=some y:=⟨_,List.getElem?_eq_getElem (by lia)⟩
  obtain ⟨u,hu',ru⟩:=rv.get hy
  exact ⟨u,hu',zbT I' (xm pr hy hq) ru⟩
 refine XY (κ:=tuples' false) (fun vs lt s1=>∃ H' ys,Inv X pins σ H' s1∧Same H H'∧Paired (kC H') ys its∧Vals ys vs∧lt=fun i j=>yp ((its.map (·.1)).getD i (("",0):Pl)) ((its.map (·.1)).getD j (("",0):Pl)))
  (fun R hR=>VT (A:=X.A.in1) hh hr hd (by lia) I fun s1 H' ys us I' sm pr rv=>hR us _ s1 ⟨H',ys,I',sm,Qq (by rw [← ei];exact pr),rv,rfl⟩) ?_ ?_ ?_ ?_
 ·rintro vs lt s1 ⟨H',ys,I',sm,pr,rv,rfl⟩
  have l1:=Paired.length pr
  have l2:=rv.length
  refine ⟨by lia,?_⟩
  rw [show vs.length=(its.map (·.1)).length by rw [List.length_map];lia]
  exact so
 ·rintro vs lt s1 ⟨H',ys,I',sm,pr,rv,rfl⟩ h2 h Q' k q'
  have l1:=Paired.length pr
  have l2:=rv.length
  refine Qp (s:={ s1 with heap:=h }) (qs:=its) (by lia) (fun i v q hv hq=>?_) (by lia) q'
  obtain ⟨v',hv',rr⟩:=vat I' pr rv i q hq
  rw [hv] at hv'
  cases hv'
  exact rr.keep k
 ·rintro vs lt s1 ⟨H',ys,I',sm,pr,rv,rfl⟩ h i j C k hi hj hij q'
  have l1:=Paired.length pr
  have l2:=rv.length
  have e1:its[i]?=some its[i]:=List.getElem?_eq_getElem (by lia)
  have e2:its[j]?=some its[j]:=List.getElem?_eq_getElem (by lia)
  obtain ⟨v1,g1,r1⟩:=vat I' pr rv i _ e1
  obtain ⟨v2,g2,r2⟩:=vat I' pr rv j _ e2
  have n1:(its.map (·.1)).getD i (("",0):Pl)=its[i].1:=by rw [List.getD_eq_getElem?_getD,List.getElem?_map,e1];rfl
  have n2:(its.map (·.1)).getD j (("",0):Pl)=its[j].1:=by rw [List.getD_eq_getElem?_getD,List.getElem?_map,e2];rfl
  have m1:vs.getD i Value.none=v1:=by rw [List.getD_eq_getElem?_getD,g1];rfl
  have m2:vs.getD j Value.none=v2:=by rw [List.getD_eq_getElem?_getD,g2];rfl
  simp only [n1,n2] at q'
  have key:=zaq (P:=X.prog) (w:=X.w) (A:=X.A.in1.in1) (E:=fun _ _=>False) (s:={ s1 with heap:=h }) (Q:=C) (by have e:X.A.in1.in1.units=X.A.units + 2:=rfl;lia) (r1.keep k) (r2.keep k) q' fun z=>hij (by
   have e3:(its.map (·.1))[i]?=some its[i].1:=by rw [List.getElem?_map,e1];rfl
   have e4:(its.map (·.1))[j]?=some its[j].1:=by rw [List.getElem?_map,e2];rfl
   rw [z] at e3
   exact (List.getElem?_inj (by rw [List.length_map];lia) nd).mp (e3.trans e4.symm))
  rw [← m1,← m2] at key
  exact key
 ·rintro vs lt s1 ⟨H',ys,I',sm,pr,rv,rfl⟩ h' p c k hD hp hr
  have l1:=Paired.length pr
  have l2:=rv.length
  have hp':PP its.length p:=by rw [show its.length=vs.length by lia];exact hp
  have fr:H' s1.heap.objs.size=none:=I'.hok.fresh (Nat.le_refl _)
  have sz:=hp'.size
  have pk:=jR pr V.non d0 (is:=p.toList) fun i hi=>by have:=hp'.lt i hi;lia
  have vk:Vals (p.toList.map fun i=>ys.getD i V.non) (jO vs p):=jR rv V.non Value.none (is:=p.toList) fun i hi=>by have:=hp'.lt i hi;lia
  have I2:Inv X pins σ (upd H' s1.heap.objs.size (.lst (p.toList.map fun i=>ys.getD i V.non))) { s1 with heap:=h' }:=I'.laid (a:=s1.heap.objs.size) (o:=.lst (p.toList.map fun i=>ys.getD i V.non)) (t':=s1.toks) k (Nat.le_refl _)
   ⟨by rw [List.length_map,Array.length_toList];exact Nat.le_trans (by lia:_≤64) (by decide),jO vs p,c,vk,hD⟩
  have S2:Same H' (upd H' s1.heap.objs.size (.lst (p.toList.map fun i=>ys.getD i V.non))):=isV _ fr
  have hn:H s1.heap.objs.size=none:=by
   cases e:H s1.heap.objs.size with
   | none=>rfl
   | some o=>rw [sm _ _ e] at fr;cases fr
  have mono:∀ {us:List V} {ws:List Row},Paired (kC H') us ws→Paired (kC (upd H' s1.heap.objs.size (.lst (p.toList.map fun i=>ys.getD i V.non)))) us ws:=fun {us ws} h=>by
   induction h with
   | nil=>exact .nil
   | cons a _ ih =>
    obtain ⟨r,p,e,h1,h2⟩:=a
    exact .cons ⟨r,p,e,S2 _ _ h1,S2 _ _ h2⟩ ih
  refine ⟨.ref s1.heap.objs.size,_,I2,rfl,q _ _ (p.toList.map fun i=>its.getD i d0) _ (sm.trans S2) hn ze (mono pk) ?_ fun pl wv=>?_⟩
  ·have hr':kZ (fun i j=>yp ((its.map (·.1)).getD i (("",0):Pl)) ((its.map (·.1)).getD j (("",0):Pl))) p its.length:=by rw [show its.length=vs.length by lia];exact hr
   have pw:=VW (F:=yp) hp' hr'
   have eq:(p.toList.map fun i=>its.getD i d0).map (·.1)=p.toList.map fun i=>(its.map (·.1)).getD i (("",0):Pl):=by
    rw [List.map_map]
    refine List.map_congr_left fun i hi=>?_
    have hi:=hp'.lt i hi
    simp [List.getD_eq_getElem?_getD,List.getElem?_map,List.getElem?_eq_getElem hi]
   rw [← eq,List.pairwise_map] at pw
   exact pw
  ·have pm:(p.toList.map fun i=>its.getD i d0).Perm its:=by
    refine (hp'.list.map _).trans ?_
    rw [VU]
   rw [pm.mem_iff]
   exact mi pl wv
end
end L2
namespace L2
open PySem PySem.Spec PyProof.Rows
def Qr (lo c:Int) (n:Nat):It:=⟨fun i _=>i < n,fun i H x H'=>H'=H∧x=.int (lo + i * c),fun i _=>n≤i⟩
theorem WQ {P:Program} {w:World} {K:W.Frag} {tg:Expr} (it:Addr) (lo c:Int) (n:Nat):Kl P w K tg (Qr lo c n) [it] it (fun i h=>IsRangeIter h it (lo + (i:Nat) * c) ((n:Int) - (i:Nat)) c) where
 mem:=by simp
 obj:=fun i h st b hb=>by
  have e:b=it:=by simpa using hb
  subst e
  refine ⟨_,st,fun v z=>?_⟩
  have z':Data.fields _=Data.cell v:=z
  cases z'
 keep:=fun i h h' st k=>k it (by simp) _ st
 item:=by
  intro X hP hw hK hc i pins s σ H E I hf st hg;subst hP hw hK
  obtain ⟨f0,f1,f2,f3,f4,f5⟩:=hf it (by simp)
  refine (Walks.range (prog:=X.prog) (w:=X.w) (I.ok.hd hc) it lo c n).item i s _ _ hg st fun v h' tk hv st' kk=>?_
  obtain ⟨t,rfl⟩:=hv
  have I1:Inv X pins σ H { s with heap:=h',toks:=tk }:=I.turned (fun b o hb e=>kk b o (by simpa using hb) e) f0 f1 f3 f4 f5
  exact ⟨_,rfl,Jb (s:={ s with heap:=h',toks:=tk }) (n:="range_iterator") st' rfl rfl (by decide) ⟨.int (lo + i * c),H,I1,⟨t,rfl⟩,⟨rfl,rfl⟩,st',fun b hb=>(hf b hb).1⟩⟩
 done:=by
  intro X hP hw hK hc i pins s σ H E I hf st hg;subst hP hw hK
  obtain ⟨f0,f1,f2,f3,f4,f5⟩:=hf it (by simp)
  exact wpAny_pyNext_range_end (I.ok.hd hc) st (by have:n≤i:=hg;lia) fun h' eb=>⟨rfl,I.turned (t':=s.toks) (fun b o hb e=>eb b o hb e) f0 f1 f3 f4 f5⟩
 self:=fun _ _ _ _ _ st h=>wpAny_pyIter_rangeiter st h
def XZ (i j c:Int):Nat:=if i < j then ((j - i - 1) / c + 1).toNat else 0
def Xq (ta:TA):TI:=fun σ H R=>ta σ H fun vs H1=>∃ i j c:Int,vs=[.int i,.int j,.int c]∧(0≤i∧i < 1073741824∧0≤j∧j < 1073741824∧0 < c∧c < 1073741824)∧R (Qr i c (XZ i j c)) H1
section
variable {X:Cx} {tg:Expr}
theorem J3 {a b c:Expr} {ta:TA} {p pos:Pos} (hg:Gl X "range") (hm:X.mg "range"=none) (ha:PA X [a,b,c] ta) (hs:starEach [a,b,c] X.env=[(false,eval a X.env),(false,eval b X.env),(false,eval c X.env)]:=by rfl) (hs2:starEach [b,c] X.env=[(false,eval b X.env),(false,eval c X.env)]:=by rfl) :
  PI X tg (.Call (.Name "range" p) [a,b,c] [] pos) (Xq ta):=by
 intro pins s σ H R I h
 refine Call_ (ZZ I hg hm boot_range (PyProof.Rows.callWith_type1 (thn (ha pos pins s σ H _ I h) fun us s1 ⟨vs,H1,I1,r1,q1⟩=>?_) (by rw [hs,hs2]) (by rw [hs2];rfl)))
 obtain ⟨i,j,c,e,⟨q1,q2,q3,q4,q5,q6⟩,q⟩:=q1
 subst e
 cases r1 with
 | cons r rr =>
  cases rr with
  | cons r' rr =>
   cases rr with
   | cons r'' rr =>
    cases rr
    obtain ⟨t,rfl⟩:=r
    obtain ⟨t',rfl⟩:=r'
    obtain ⟨t'',rfl⟩:=r''
    refine call_range_3 (by lia) ?_ (.inl (PyProof.noPylong_small (by lia)))
    have hz:Builtin.Range.rangeSize i j c=(XZ i j c:Int):=by
     unfold Builtin.Range.rangeSize XZ
     rw [if_pos q5]
     split
     ·rename_i h
      have:=Int.ediv_nonneg (a:=j - i - 1) (b:=c) (by lia) (by lia)
      lia
     ·rfl
    have hb:(XZ i j c:Int)≤1073741824∧(XZ i j c:Int) * c≤2147483648:=by
     unfold XZ
     split
     ·rename_i h
      have h1:=Int.ediv_nonneg (a:=j - i - 1) (b:=c) (by lia) (by lia)
      have h2:=Int.ediv_le_self (a:=j - i - 1) c (by lia)
      have h3:=Int.ediv_mul_le (j - i - 1) (b:=c) (by lia)
      rw [Int.toNat_of_nonneg (by lia),Int.add_mul]
      lia
     ·simp
    generalize XZ i j c=n at *
    have sm:Builtin.Range.small i j c=true:=by
     unfold Builtin.Range.small
     rw [hz]
     simp only [Builtin.Range.rangeFitsLong,Bool.and_eq_true,Bool.or_eq_true,decide_eq_true_eq,beq_iff_eq,show c > 0 from q5,if_true]
     lia
    refine wpAny_pyIter_range (IsRange.new ..) sm ?_
    rw [hz]
    have I2:Inv X pins σ H1 { s1 with heap:=s1.heap.push { cls:=.type "range",data:=.fields #[.int i t,.int j t',.int c t''] },toks:=s1.toks }:=I1.kept fun b o e=>Heap.get?_push_of_some _ e
    refine ⟨(s1.heap.push { cls:=.type "range",data:=.fields #[.int i t,.int j t',.int c t''] }).objs.size,[(s1.heap.push { cls:=.type "range",data:=.fields #[.int i t,.int j t',.int c t''] }).objs.size],_,_,H1,rfl,I2.kept (t':=s1.toks) fun b o e=>Heap.get?_push_of_some _ e,WQ _ i c n,?_,fun b hb=>?_,q⟩
    ·show IsRangeIter _ _ (i + ((0:Nat):Int) * c) ((n:Int) - ((0:Nat):Int)) c
     rw [show i + ((0:Nat):Int) * c=i by simp,show (n:Int) - ((0:Nat):Int)=n by simp]
     exact Heap.get?_push_size _ rfl
    ·have e:b=(s1.heap.push { cls:=.type "range",data:=.fields #[.int i t,.int j t',.int c t''] }).objs.size:=by simpa using hb
     subst e
     exact I2.fpOk (Nat.le_refl _) (I2.hok.fresh (Nat.le_refl _))
end
end L2
namespace L2
open PySem
structure StOk (n:Nat) (s:Sta):Prop where
 so:yt s.sl
 wo:∀ r∈s.wo,inW r.2=true
 l1:s.sl.length≤n
 l2:s.wo.length≤n
 l3:s.sa.length≤n
theorem StOk.mono {n m:Nat} {s:Sta} (h:StOk n s) (l:n≤m):StOk m s:=⟨h.so,h.wo,Nat.le_trans h.l1 l,Nat.le_trans h.l2 l,Nat.le_trans h.l3 l⟩
theorem Xr {kvs:List (Key × V)} (h:yt kvs) (k:Key) {i:Int} (hi:inW i=true):yt (yJ kvs k (.int i)):=fun k' v e=>by
 rw [qz] at e
 by_cases c:k'=k
 ·rw [if_pos c] at e
  exact ⟨i,(Option.some.inj e).symm,hi⟩
 ·rw [if_neg c] at e
  exact h k' v e
theorem ZV {P:Row→Prop} {p:Pl} {w:Int}:∀ {l:List Row},(∀ r∈l,P r)→zI l p=some w→P (p,w)
 | [],_,h=>by cases h
 | r :: t,hp,h=>by
  rw [zI] at h
  cases e:zI t p with
  | some w' =>
   rw [e] at h
   have:w'=w:=by simpa using h
   subst this
   exact ZV (fun r hr=>hp r (List.mem_cons_of_mem _ hr)) e
  | none =>
   rw [e] at h
   by_cases c:r.1=p
   ·rw [if_pos c] at h
    have:r.2=w:=by simpa using h
    rw [← c,← this];exact hp r List.mem_cons_self
   ·rw [if_neg c] at h;cases h
mutual
def ZB (P:Pl→Prop):Rw→Prop
 | .give sh e _=>∀ kvs n,rk kvs e=.ok n→P (sh,n)
 | .iff _ a b=>wI P a∧wI P b
 | _=>True
def wI (P:Pl→Prop):Rws→Prop
 | .nil=>True
 | .cons r rs=>ZB P r∧wI P rs
end
inductive Oc where
 | done (sa:List Int)
 | off (why:Str)
def jB:Er→Str
 | .great=>"great"
 | _=>"nought"
def zbk (rws:Rws) (tab:List Row) (oc:Oc) (out:List Row):Prop:=match zam rws ⟨[],tab,[]⟩ with
 | .go s=>oc=.done s.sa∧zbR s.wo out
 | .off=>oc=.off "told"∧out=tab
 | .er e=>oc=.off (jB e)∧out=tab
inductive zbl:List Rws→List Row→List Oc→List Row→Prop
 | nil {tab:List Row}:zbl [] tab [] tab
 | cons {d:Rws} {ds:List Rws} {tab mid out:List Row} {oc:Oc} {ocs:List Oc}:zbk d tab oc mid→zbl ds mid ocs out→zbl (d :: ds) tab (oc :: ocs) out
def Zs:V→PyData
 | .int i=>.int i
 | .str x=>.str x
 | _=>.none
def plV (v:V):Prop:=(∃ i,v=.int i)∨∃ x,v=.str x∧PyData.strOk x=true
def Yy (e:List V):PyData:=.tuple (e.map Zs)
mutual
def rwD:Rw→PyData
 | .take sh e sl=>.tuple [.str "take",.str sh,Yy e,.str sl]
 | .give sh e f=>.tuple [.str "give",.str sh,Yy e,Yy f]
 | .lt sl e=>.tuple [.str "let",.str sl,Yy e]
 | .say e=>.tuple [.str "say",Yy e]
 | .off e=>.tuple [.str "off",Yy e]
 | .iff e a b=>.tuple [.str "if",Yy e,.list (zbm a),.list (zbm b)]
def zbm:Rws→List PyData
 | .nil=>[]
 | .cons r rs=>rwD r :: zbm rs
end
def tmP (e:List V):Prop:=∀ v∈e,plV v
mutual
def ZC:Rw→Prop
 | .take sh e sl=>PyData.strOk sh=true∧tmP e∧PyData.strOk sl=true
 | .give sh e f=>PyData.strOk sh=true∧tmP e∧tmP f
 | .lt sl e=>PyData.strOk sl=true∧tmP e
 | .say e=>tmP e
 | .off e=>tmP e
 | .iff e a b=>tmP e∧xA a∧xA b
def xA:Rws→Prop
 | .nil=>True
 | .cons r rs=>ZC r∧xA rs
end
section
variable {K:W.Frag} {H:Hp} {F:Addr→Prop}
theorem Qs {v:V} (h:plV v):Dat K H v (Zs v):=by
 rcases h with ⟨i,rfl⟩ | ⟨x,rfl,_⟩
 ·exact .int i
 ·exact .str x
theorem J4:∀ {e:List V},tmP e→DatAll K H e (e.map Zs)
 | [],_=>.nil
 | v :: r,h=>.cons (Qs (h v List.mem_cons_self)) (J4 fun u hu=>h u (List.mem_cons_of_mem _ hu))
end
theorem WR:∀ {e:List V},tmP e→yu (e.map Zs)=true
 | [],_=>by simp [yu]
 | v :: r,h=>by
  rw [List.map_cons,yu,WR fun u hu=>h u (List.mem_cons_of_mem _ hu),Bool.and_true]
  rcases h v List.mem_cons_self with ⟨i,rfl⟩ | ⟨x,rfl,hx⟩
  ·rw [Zs,zX]
  ·rw [Zs,zX];exact hx
theorem VX:∀ (e:List V),PyData.depthAll (e.map Zs)=0
 | []=>by simp [PyData.depthAll]
 | v :: r=>by
  rw [List.map_cons,PyData.depthAll,VX r]
  cases v <;> simp [Zs,PyData.depth]
theorem zar:PyData.strOk "off"=true:=by decide +kernel
def Rws.snoc:Rws→Rw→Rws
 | .nil,x=>.cons x .nil
 | .cons r rs,x=>.cons r (rs.snoc x)
def Rws.app:Rws→Rws→Rws
 | .nil,x=>x
 | .cons r rs,x=>.cons r (rs.app x)
theorem RwsAt.snoc {F:Addr→Prop} {H:Hp} {v:V} {x:Rw} (hx:RwAt F H v x):∀ (r:Rws) {vs:List V},RwsAt F H vs r→RwsAt F H (vs ++ [v]) (r.snoc x)
 | .nil,vs,h=>by
  unfold RwsAt at h
  subst h
  show RwsAt F H [v] (.cons x .nil)
  unfold RwsAt
  exact ⟨v,[],rfl,hx,by unfold RwsAt;rfl⟩
 | .cons r rs,vs,h=>by
  unfold RwsAt at h
  obtain ⟨u,ws,rfl,e2,e3⟩:=h
  show RwsAt F H (u :: (ws ++ [v])) (.cons r (rs.snoc x))
  unfold RwsAt
  exact ⟨u,ws ++ [v],rfl,e2,RwsAt.snoc hx rs e3⟩
theorem RwsAt.len {F:Addr→Prop} {H:Hp}:∀ (r:Rws) {vs:List V},RwsAt F H vs r→vs.length≤r.cnt
 | .nil,vs,h=>by
  unfold RwsAt at h
  subst h
  exact Nat.zero_le _
 | .cons r rs,vs,h=>by
  unfold RwsAt at h
  obtain ⟨u,ws,rfl,e2,e3⟩:=h
  have:=RwsAt.len rs e3
  have c:(Rws.cons r rs).cnt=r.cnt + rs.cnt:=by rw [Rws.cnt]
  have:1≤r.cnt:=by cases r <;> simp [Rw.cnt]
  rw [c,List.length_cons];lia
theorem RwsAt.get {F:Addr→Prop} {H:Hp}:∀ {r:Rws} {vs:List V} {i:Nat} {v:V},RwsAt F H (vs.drop i) r→vs[i]?=some v→∃ x rs,r=.cons x rs∧RwAt F H v x∧RwsAt F H (vs.drop (i + 1)) rs
 | .nil,vs,i,v,h,e=>by
  unfold RwsAt at h
  have:=(List.getElem?_eq_some_iff.mp e).1
  have:=congrArg List.length h
  rw [List.length_drop] at this
  simp at this
  lia
 | .cons x rs,vs,i,v,h,e=>by
  unfold RwsAt at h
  obtain ⟨u,ws,e1,e2,e3⟩:=h
  have hi:=(List.getElem?_eq_some_iff.mp e).1
  have d:=List.drop_eq_getElem_cons hi
  rw [e1] at d
  have e4:vs[i]=v:=(List.getElem?_eq_some_iff.mp e).2
  rw [e4] at d
  injection d with d1 d2
  subst d1 d2
  exact ⟨x,rs,rfl,e2,e3⟩
theorem RwsAt.none {F:Addr→Prop} {H:Hp} {r:Rws} {vs:List V} (h:RwsAt F H (vs.drop vs.length) r):r=.nil:=by
 rw [List.drop_length] at h
 cases r with
 | nil=>rfl
 | cons x rs =>
  unfold RwsAt at h
  obtain ⟨_,_,e,_⟩:=h
  cases e
theorem X0 {x:Rw} (hx:vN x):∀ (r:Rws),xj r→xj (r.snoc x)
 | .nil,_=>by show xj (.cons x .nil);unfold xj;exact ⟨hx,by unfold xj;trivial⟩
 | .cons y r,h=>by
  unfold xj at h
  show xj (.cons y (r.snoc x))
  unfold xj
  exact ⟨h.1,X0 hx r h.2⟩
theorem X1 {x:Rw} (hx:ZC x):∀ (r:Rws),xA r→xA (r.snoc x)
 | .nil,_=>by show xA (.cons x .nil);unfold xA;exact ⟨hx,by unfold xA;trivial⟩
 | .cons y r,h=>by
  unfold xA at h
  show xA (.cons y (r.snoc x))
  unfold xA
  exact ⟨h.1,X1 hx r h.2⟩
theorem X2 {P:Pl→Prop} {x:Rw} (hx:ZB P x):∀ (r:Rws),wI P r→wI P (r.snoc x)
 | .nil,_=>by show wI P (.cons x .nil);unfold wI;exact ⟨hx,by unfold wI;trivial⟩
 | .cons y r,h=>by
  unfold wI at h
  show wI P (.cons y (r.snoc x))
  unfold wI
  exact ⟨h.1,X2 hx r h.2⟩
theorem Zf (x:Rw):∀ (r:Rws),(r.snoc x).deep=max r.deep x.deep
 | .nil=>by show (Rws.cons x .nil).deep=_;simp [Rws.deep]
 | .cons y r=>by
  show (Rws.cons y (r.snoc x)).deep=_
  rw [Rws.deep,Rws.deep,Zf x r];lia
theorem Qt {v:V} (h:jj v) (j:isJ v=false):TermOk [v] :=
 ⟨fun kvs=>⟨_,J1 j⟩,fun u hu=>by rw [List.mem_singleton.mp hu];exact h,by simp⟩
theorem Paired.snocP {α β:Type} {F:α→β→Prop} {x:α} {y:β}:∀ {a:List α} {b:List β},Paired F a b→F x y→Paired F (a ++ [x]) (b ++ [y])
 | _,_,.nil,h=>.cons h .nil
 | _,_,.cons a r,h=>.cons a (Paired.snocP r h)
theorem Paired.getP {α β:Type} {F:α→β→Prop} {a:List α} {b:List β} {i:Nat} {x:α} (h:Paired F a b) (e:a[i]?=some x):∃ y,b[i]?=some y∧F x y:=by
 have hi:=(List.getElem?_eq_some_iff.mp e).1
 have l:=Paired.length h
 exact ⟨b[i],List.getElem?_eq_getElem (by lia),xm h e (List.getElem?_eq_getElem (by lia))⟩
end L2
namespace L2
open PySem PySem.Spec PyProof.Rows
abbrev zbn:RM:=fun x xs H Q=>∃ a b,x=.str a∧xs=[.str b]∧(b.length == 0)=false∧a.length≤100000∧(Txt.split a b).length≤100000∧∀ l,H l=none→Q (.ref l) (upd H l (.lst ((Txt.split a b).map V.str)))
section
variable {X:Cx}
end
def zcm (K:W.Frag) (p:Addr) (xs:List V):It:=⟨fun i H=>i < xs.length∧SqL K H p xs,fun i H x H'=>∃ T u,x=.ref T∧H T=none∧H'=upd H T (.tup [.int i,u])∧xs[i]?=some u,fun i H=>xs.length≤i∧SqL K H p xs⟩
def zdc (K:W.Frag) (ta:TA):TI:=fun σ H R=>ta σ H fun vs H1=>∃ p xs,vs=[.ref p]∧SqL K H1 p xs∧R (zcm K p xs) H1
section
variable {X:Cx}
end
section
variable {σ:St} {H:Hp} {nx:St→Hp→Prop} {B:V→St→Hp→(St→Hp→Prop)→Prop}
end
end L2
namespace L2
open PySem PySem.Spec PyProof.Rows
theorem zbo {c:Nat}:∀ {a b r s:List Nat},c ∉ a→c ∉ b→a ++ c :: r=b ++ c :: s→a=b∧r=s
 | [],[],r,s,_,_,h=>by simpa using h
 | [],y :: b,r,s,_,hb,h=>by
  simp only [List.nil_append,List.cons_append,List.cons.injEq] at h
  exact absurd h.1 (fun z=>hb (by rw [z];exact List.mem_cons_self))
 | x :: a,[],r,s,ha,_,h=>by
  simp only [List.nil_append,List.cons_append,List.cons.injEq] at h
  exact absurd h.1.symm (fun z=>ha (by rw [z];exact List.mem_cons_self))
 | x :: a,y :: b,r,s,ha,hb,h=>by
  simp only [List.cons_append,List.cons.injEq] at h
  obtain ⟨e1,e2⟩:=zbo (fun z=>ha (List.mem_cons_of_mem _ z)) (fun z=>hb (List.mem_cons_of_mem _ z)) h.2
  exact ⟨by rw [h.1,e1],e2⟩
end L2
namespace L2
open PySem PySem.Spec PyProof.Rows
abbrev Jx (K:W.Frag):RC:=fun xs H Q=>∃ (x:V) (p:Addr) (t:Value) (Ts:List String) (b:Bool),xs=[x,.ref p]∧qv K H x t∧H p=some (.tup (Ts.map V.ty))∧W.kitAny K t (Ts.map Value.type)=some b∧Q (.bl b) H
theorem WS:∀ {Ts:List String} {us:List Value},Vals (Ts.map V.ty) us→us=Ts.map Value.type
 | [],_,h=>by cases h;rfl
 | T :: r,_,h=>by
  cases h with
  | cons a t =>
   have a:_=Value.type T:=a
   rw [a,WS t];rfl
section
variable {X:Cx}
theorem Xs:kH X (.builtin "isinstance") (Jx X.K):=by
 intro pins s σ H xs us Q I r h
 obtain ⟨x,p,t,Ts,b,rfl,ty,hp,e,q⟩:=h
 obtain ⟨u,w',rfl,rx,r2⟩:=zaS r
 cases r2
 obtain ⟨_,its,rv,o,o1,o2,n,o3⟩:=(show ObjOk X.prog X.w H s.heap p (.tup (Ts.map V.ty)) from I.hok p _ hp)
 obtain rfl:=WS rv
 obtain ⟨oc,od,oda,osl⟩:=o
 obtain rfl:oc=.type "tuple":=o2
 obtain rfl:oda=.seq (Ts.map Value.type).toArray n:=o3
 have fin:∀ tk,EP X pins σ Q (.bool b) { s with toks:=tk }:=fun tk=>⟨.bl b,H,I.tok tk,rfl,q⟩
 cases ty with
 | non=>cases (show u=Value.none from rx);exact W.kia_tup W.kitx_none I.kIn True.intro o1 e (fun z=>nomatch z) fin
 | bl y=>cases (show u=Value.bool y from rx);exact W.kia_tup W.kitx_bool I.kIn True.intro o1 e (fun z=>nomatch z) fin
 | int i=>obtain ⟨t,q⟩:=(show ∃ t,u=Value.int i t from rx);cases q;exact W.kia_tup W.kitx_int I.kIn True.intro o1 e (fun z=>nomatch z) fin
 | str y=>obtain ⟨t,q⟩:=(show ∃ t,u=Value.str y t from rx);cases q;exact W.kia_tup W.kitx_str I.kIn True.intro o1 e (fun z=>nomatch z) fin
 | flt y=>obtain ⟨t,q⟩:=(show ∃ t,u=Value.float y t from rx);cases q;exact W.kia_tup W.kitx_float I.kIn True.intro o1 e (fun z=>nomatch z) fin
 | @lst a xs ea =>
  cases (show u=Value.ref a from rx)
  obtain ⟨_,_,n,_,h1⟩:=(show ObjOk X.prog X.w H s.heap a (.lst xs) from I.hok a _ ea)
  exact W.kia_tup W.kitx_list I.kIn ⟨_,h1,rfl⟩ o1 e (fun z=>nomatch z) fin
 | @frz a ob xs ea =>
  cases (show u=Value.ref a from rx)
  obtain ⟨h1,h2⟩:=(show ObjOk X.prog X.w H s.heap a (.frz ob (.lst xs)) from I.hok a _ ea)
  obtain ⟨_,_,n,_,h1⟩:=h2
  exact W.kia_tup W.kitx_list I.kIn ⟨_,h1,rfl⟩ o1 e (fun z=>nomatch z) fin
 | @tup a xs ea =>
  cases (show u=Value.ref a from rx)
  obtain ⟨_,its,_,o,h1,h2,_⟩:=(show ObjOk X.prog X.w H s.heap a (.tup xs) from I.hok a _ ea)
  exact W.kia_tup W.kitx_tuple I.kIn ⟨_,h1,h2⟩ o1 e (fun z=>nomatch z) fin
 | @dK a kvs ea =>
  cases (show u=Value.ref a from rx)
  obtain ⟨_,_,vs,_,p⟩:=(show ObjOk X.prog X.w H s.heap a (.dK kvs) from I.hok a _ ea)
  obtain ⟨o,es,ep,h1,h2,_⟩:=p
  exact W.kia_tup W.kitx_dict I.kIn ⟨o,h1,h2.1⟩ o1 e (fun z=>nomatch z) fin
 | @dT a kvs ea =>
  cases (show u=Value.ref a from rx)
  obtain ⟨_,_,xs,_,o,es,ep,h1,h2,_⟩:=(show ObjOk X.prog X.w H s.heap a (.dT kvs) from I.hok a _ ea)
  exact W.kia_tup W.kitx_dict I.kIn ⟨o,h1,h2.1⟩ o1 e (fun z=>nomatch z) fin
 | @ins a C dx fs ea cl ha hn htk hm =>
  cases (show u=Value.ref a from rx)
  obtain ⟨mA,O,_⟩:=qu I.hok ea
  obtain ⟨od,J,_⟩:=O.look
  exact W.kia_tup (W.kitx_own (cl.get _) cl.hd ha hn htk hm) I.kIn J o1 e (fun z=>nomatch z) fin
end
section
variable {prog:Program} {w:World} {A:Around} {E:Value→Shared→Prop} {s:Shared}
theorem WT {l:Addr} {items:Array Value} {n:Nat} {k:Int} {t:Tok} {v:Value} {Q:Unit→Shared→Prop} (hl:s.heap.get? l=some { cls:=.type "list",data:=.seq items n })
  (h0:k < 0) (h1:-(items.size:Int)≤k) (hfit:-(2 ^ 63)≤k) (hQ:Q () { s with heap:=s.heap.update l (Obj.mapSeq (·.setIfInBounds (k + items.size).toNat v)) }) :
  wpAny (model prog w) A (setItem (.ref l) (.int k t) v) Q E s:=by
 have hL:s.heap.IsList l items:=⟨_,hl,rfl,n,rfl⟩
 unfold setItem
 try with_reducible refine wpAny_holding ?_
 first | refine wpAny_bind (wpAny_pure ?_) | skip
 refine wpAny_bind (wpAny_sequenceKey hL.typeIs (by decide) ?_)
 refine wpAny_bind (wpAny_callSpecial?_slot (name:=Str.ofString "__setitem__") hL.typeIs slot_list_setitem
  (wpAny_call_entry slot_list_setitem hL.typeIs entry_list_setitem ?_ (args_list_setitem _ _ _)))
 show wpAny _ _ (Builtin.List.listSubscript? (.int k t) >>= _) _ _ s
 refine wpAny_bind (wpAny_listSubscript_int (fitsIndex_neg h0 hfit) ?_)
 clear hfit
 have hidx:=seqIndex_neg h0 h1
 have hx:items[(k + items.size).toNat]?=some (items[(k + items.size).toNat]'(by lia)):=Array.getElem?_eq_getElem (by lia)
 obtain ⟨j,rfl⟩:∃ j:Nat,k=Int.negSucc j:=by
  cases k with
  | ofNat n=>exact absurd h0 (Int.not_lt.mpr (Int.ofNat_nonneg n))
  | negSucc n=>exact ⟨n,rfl⟩
 show wpAny _ _ ((Builtin.List.listItems (.ref l) >>= fun xs=>pure ((seqIndex? (Int.negSucc j) xs.size).bind fun i=>xs[i]?.map (i,·))) >>= _) _ _ s
 refine wpAny_bind (wpAny_bind ?_)
 show wpAny _ _ (seqItems? (.ref l) >>= _) _ _ s
 refine wpAny_bind (wpAny_seqItems hl rfl (wpAny_pure (wpAny_pure ?_)))
 rw [hidx]
 simp only [Option.bind_some,hx,Option.map_some]
 refine wpAny_bind (wpAny_setSeqItemAt hl rfl ?_)
 first
  | exact wpAny_bind (wpAny_pure (wpAny_pure ⟨.none,rfl,wpAny_pure hQ⟩))
  | exact wpAny_pure ⟨.none,rfl,wpAny_pure hQ⟩
theorem WU {l:Addr} {items:Array Value} {n j:Nat} {k:Int} {t:Tok} {v:Value} {Q:Unit→Shared→Prop} (hl:s.heap.get? l=some { cls:=.type "list",data:=.seq items n })
  (h0:0≤k) (hfit:k < 2 ^ 63) (hkj:k.toNat=j) (hn:j < items.size) (hQ:Q () { s with heap:=s.heap.update l (Obj.mapSeq (·.setIfInBounds j v)) }) :
  wpAny (model prog w) A (setItem (.ref l) (.int k t) v) Q E s:=by
 have hL:s.heap.IsList l items:=⟨_,hl,rfl,n,rfl⟩
 unfold setItem
 try with_reducible refine wpAny_holding ?_
 first | refine wpAny_bind (wpAny_pure ?_) | skip
 refine wpAny_bind (wpAny_sequenceKey hL.typeIs (by decide) ?_)
 refine wpAny_bind (wpAny_callSpecial?_slot (name:=Str.ofString "__setitem__") hL.typeIs slot_list_setitem
  (wpAny_call_entry slot_list_setitem hL.typeIs entry_list_setitem ?_ (args_list_setitem _ _ _)))
 show wpAny _ _ (Builtin.List.listSubscript? (.int k t) >>= _) _ _ s
 refine wpAny_bind (wpAny_listSubscript_int (fitsIndex_of h0 hfit) ?_)
 clear hfit
 obtain ⟨j',rfl⟩:=Int.eq_ofNat_of_zero_le h0
 have hkj:j'=j:=hkj
 subst hkj
 have hx':items[j']?=some items[j']:=Array.getElem?_eq_getElem hn
 show wpAny _ _ ((seqItemAt l j' >>= fun r=>pure (r.map (j',·))) >>= _) _ _ s
 refine wpAny_bind (wpAny_bind (wpAny_seqItemAt hl rfl (wpAny_pure ?_)))
 rw [hx']
 refine wpAny_bind (wpAny_setSeqItemAt hl rfl ?_)
 first
  | exact wpAny_bind (wpAny_pure (wpAny_pure ⟨.none,rfl,wpAny_pure hQ⟩))
  | exact wpAny_pure ⟨.none,rfl,wpAny_pure hQ⟩
end
def Zt (td ty tv:TE):TS:=fun D σ H=>tv σ H fun v H1=>td σ H1 fun x H2=>ty σ H2 fun y H3=>∃ a xs i j,x=.ref a∧y=.int i∧H3 a=some (.lst xs)∧ixN xs.length i=some j∧(-1000≤i∧i≤1000)∧D.nx σ (upd H3 a (.lst (xs.set j v)))
theorem WV {v:V} {u:Value} (r:RelV v u):∀ {xs:List V} {us:List Value},Vals xs us→∀ j:Nat,Vals (xs.set j v) (us.set j u)
 | _,_,.nil,_=>.nil
 | _,_,.cons _ t,0=>.cons r t
 | _,_,.cons a t,j + 1=>.cons a (WV r t j)
section
variable {X:Cx} {o i value:Expr} {pos pos':Pos} {td ty tv:TE}
theorem Jy (ho:PE X o td) (hi:PE X i ty) (hv:PE X value tv) (hs:swapsWith value (some (.Subscript o i pos')) pos.line X.env=pure false) :
  PS X (.Assign [.Subscript o i pos'] value pos) (Zt td ty tv):=by
 intro pins s σ H D I h
 refine wpAny_Assign_Subscript (thn (hv pins s σ H _ I h) fun r s1 ⟨v,H1,I1,rv,q1⟩=>thn (ho pins s1 σ H1 _ I1 q1) fun u s2 ⟨x,H2,I2,rx,q2⟩=>thn (hi pins s2 σ H2 _ I2 q2) fun iv s3 ⟨y,H3,I3,ry,a,xs,k,j,ex,ey,ea,hj,hk,q3⟩=>?_) hs
 subst ex ey
 obtain rfl:u=Value.ref a:=rx
 obtain ⟨t,rfl⟩:=ry
 obtain ⟨z,its,n,rl,hl,e⟩:=I3.lstM ea
 have fin:SP X pins D .next { s3 with heap:=s3.heap.update a (Obj.mapSeq (·.setIfInBounds j r)) }:=⟨σ,_,I3.lset (its':=its.set j r) (t':=s3.toks) ea e (by simp) (WV rv rl _) (by rw [List.length_set];exact z),q3⟩
 unfold ixN at hj
 by_cases h0:0≤k
 ·rw [if_pos h0] at hj
  split at hj
  ·rename_i h1
   cases hj
   exact WU e h0 (by lia) rfl (by rw [List.size_toArray,← hl];lia) fin
  ·cases hj
 ·rw [if_neg h0] at hj
  split at hj
  ·rename_i h1
   cases hj
   refine WT e (by lia) (by rw [List.size_toArray,← hl];exact h1) (by lia) ?_
   rw [List.size_toArray,← hl]
   exact fin
  ·cases hj
end
section
variable {X:Cx} {st:Stmt} {hs:List ExceptHandler} {pos:Pos} {tb:TS}
end
end L2
namespace L2
open PySem PySem.Spec PyProof.Rows
def zcH (K:W.Frag) (ta:TA):TI:=fun σ H R=>ta σ H fun vs H1=>∃ p q xs ys,vs=[.ref p,.ref q]∧xs.length=ys.length∧((SqL K H1 p xs∧SqL K H1 q ys∧R (zbS K p q xs ys) H1)∨(SqT K H1 p xs∧SqT K H1 q ys∧R (Itz K p q xs ys) H1))
section
variable {X:Cx}
abbrev zcn (K:W.Frag):R2:=fun x y H Q=>∃ a b xs,x=.ref a∧y=.ref b∧SqL K H a xs∧SqL K H b []∧Q (.bl (!decide (xs=[]))) H
end
mutual
inductive Qu (H:Hp):V→PyData→Prop
 | int (i:Int):Qu H (.int i) (.int i)
 | str (x:Str):Qu H (.str x) (.str x)
 | lst {a:Addr} {xs:List V} {ds:List PyData}:H a=some (.lst xs)→WW H xs ds→Qu H (.ref a) (.list ds)
 | tup {a:Addr} {xs:List V} {ds:List PyData}:H a=some (.tup xs)→WW H xs ds→Qu H (.ref a) (.tuple ds)
inductive WW (H:Hp):List V→List PyData→Prop
 | nil:WW H [] []
 | cons {x:V} {d:PyData} {xs:List V} {ds:List PyData}:Qu H x d→WW H xs ds→WW H (x :: xs) (d :: ds)
end
end L2
namespace L2
open PySem
end L2
namespace L2
open PySem
abbrev jS:RM:=ZP
end L2
namespace L2
open PySem PySem.Spec PyProof.Rows
abbrev zbp:RM:=zbc
abbrev zcI (K:W.Frag):RC:=fun xs H Q=>∃ a,∃ ns:List Int,xs=[.ref a]∧SqL K H a (ns.map V.int)∧Q (.int ns.sum) H
abbrev zcJ (K:W.Frag):RC:=fun xs H Q=>∃ a,∃ ns:List Int,xs=[.ref a]∧SqL K H a (ns.map V.int)∧0 < ns.length∧∀ M,M∈ns→(∀ x∈ns,x≤M)→Q (.int M) H
section
variable {X:Cx}
end
end L2
namespace L2
open PySem PySem.Spec PyProof.Rows
abbrev zcK:RC:=fun xs H Q=>∃ i j,xs=[.int i,.int j]∧Q (.int (if j > i then j else i)) H
abbrev zdd (K:W.Frag) (neg:Bool):R2:=fun x y H Q=>∃ (p:Addr) (xs:List V) (d:PyData) (ds:List PyData),y=.ref p∧(SqL K H p xs∨SqT K H p xs)∧Dat K H x d∧DatAll K H xs ds∧(zX d=true∧d.depth≤50∧∀ e∈ds,zX e=true) ∧
 ∀ b:Bool,(b=true↔d∈ds)→Q (.bl (if neg then !b else b)) H
section
variable {X:Cx}
open Classical in
noncomputable def zde (K:PySem.W.Frag) (H:Hp) (d:PyData) (u:Value):Bool:=decide (∃ x,RelV x u∧Dat K H x d)
open Classical in
end
abbrev zcL (K:W.Frag):RC:=fun vs H Q=>∃ r xs its,vs=[.ref r]∧SqL K H r xs∧Paired (kC H) xs its∧(its.map (·.1)).Nodup∧its.length < 64 ∧
 ∀ l ys srt H',Same H H'→H l=none→H' l=some (.lst ys)→Paired (kC H') ys srt→qc srt→srt.Perm its→Q (.ref l) H'
section
variable {X:Cx}
end
def Cb (i:Int):Prop:=Builtin.Int.intBits i≤1048576
section
variable {X:Cx}
end
open Att PySem.W PySem.Calls in
theorem Qv {l:W.OpenLaw} {n k:Nat} {q:Program} {loose:List Str} {XP:(Str→Option Value)→Heap→Prop} {YP:World→Heap→Prop} {d:DefRec} {K:Params→W.Frag} {CX:World→CXT} {sp:World→Sp} {x:Str}
  (hn:l.most=some n) (hn2:n≤sizeLine) (hdf:d.params.defaults=[]) (hr:Room k callerA) (hY:∀ (w:World) (h:Heap),YP w h→(K w.params).In h)
  (F:∀ (w:World) (mg:Str→Option Value) (fa:Addr) (h:Heap),(K w.params).In h→h.Ns mainGlobals mg→mg d.name=some (.ref fa) →
   ∃ fd:FuncData,(∀ (s:Shared) (u:Value),BindsTo s fd ⟨[u],[]⟩ [(x,u)]) ∧
    ∀ base:Heap,(K w.params).In base→base.Ns mainGlobals mg→FnOk l.prog w (K w.params) mg base (CX w) k fa fd [x] (sp w))
  (hsp:∀ (w:World) (H:Hp) (a:Addr) (ns:List Int),ns.length≤n→(∀ i∈ns,Cb i)→VI H→SqL (K w.params) H a (ns.map V.int)→sp w [.ref a] H (fun v _=>v=.bl true) fun _ _ _=>False)
  (hCX:∀ (w:World) (H:Hp) (s:Shared) (e:Value) (s':Shared),CX w [] H s (fun _ _ _=>False) e s'→False) :
  W.WalkO q loose XP YP l.row.toRowW d [] (fun f vs=>PySem.call f vs):=by
 intro w s₀ s₁ mg mb G Y fa o pm cd doc dV kV ho hd hcd hD hmg hg args vals as hpre hlay hrd hwl hlo
 obtain rfl:dV=.none:=Dflts.none hD hdf
 obtain rfl:kV=.none:=Dflts.noKw hD
 obtain ⟨a,vs,ns,rfl,rfl,hobj,hints,hlen⟩:=Xf hn hpre hwl
 have hb:∀ i∈ns,Cb i:=fun i hi=>intBits_le_of_layable (layable_of_mem (lay0_int (layableW_item (layableW_arg hlay _ List.mem_cons_self) _ (List.mem_map.mpr ⟨i,hi,rfl⟩))) List.mem_cons_self)
 have KX:=hY w _ Y
 obtain ⟨fd,hbd,hF⟩:=F w mg fa _ KX G.T.g hmg
 refine enter_call (codeAny_mono (WA KX G.T.g G.T.b G.T.builtins G.T.nolimit hg hobj hints (Nat.le_trans hlen hn2) hr hF hbd (fun H hO hS=>hsp w H a ns hlen hb hO hS) fun H e s'=>hCX w H s₁ e s') fun r s' hq=>?_)
 obtain ⟨rfl,h2,h3,h4⟩:=hq
 exact ⟨.inl ⟨.bool true,.bool true,[],rfl,fun _=>rfl,.bool true,Xg l _,fun _=>⟨List.Pairwise.nil,fun _ hm=>(nomatch hm)⟩⟩,h2,h3,h4⟩
theorem zbF {l:W.OpenLaw} {n k:Nat} {q:Program} {loose:List Str} {XP:(Str→Option Value)→Heap→Prop} {YP:World→Heap→Prop} {d:DefRec} {K:Params→W.Frag} {sp:W.Frag→Sp} {x:Str}
  (hn:l.most=some n) (hn2:n≤sizeLine) (hdf:d.params.defaults=[]) (hr:Room k callerA) (hY:∀ (w:World) (h:Heap),YP w h→(K w.params).In h)
  (F:∀ (w:World) (mg:Str→Option Value) (fa:Addr) (h:Heap),(K w.params).In h→h.Ns mainGlobals mg→mg d.name=some (.ref fa) →
   ∃ fd:FuncData,(∀ (s:Shared) (u:Value),BindsTo s fd ⟨[u],[]⟩ [(x,u)]) ∧
    ∀ base:Heap,(K w.params).In base→base.Ns mainGlobals mg→FnOk l.prog w (K w.params) mg base (CX1 l.prog w) k fa fd [x] (sp (K w.params)))
  (hsp:∀ (K:W.Frag) (H:Hp) (a:Addr) (ns:List Int),ns.length≤n→(∀ i∈ns,Cb i)→VI H→SqL K H a (ns.map V.int)→sp K [.ref a] H (fun v _=>v=.bl true) fun _ _ _=>False) :
  W.WalkO q loose XP YP l.row.toRowW d [] (fun f vs=>PySem.call f vs) :=
 Qv (K:=K) (CX:=fun w=>CX1 l.prog w) (sp:=fun w=>sp (K w.params)) hn hn2 hdf hr hY F (fun w H a ns h1 hb h2 h3=>hsp (K w.params) H a ns h1 hb h2 h3) fun _ _ _ _ _ z=>by
  obtain ⟨_,_,_,_,_,_,_,_,_,y⟩:=z
  exact y
end L2
namespace L2
open PySem PySem.Spec PyProof.Rows
def Itk (a:Addr) (o:Obj) (kvs:List (Key × V)):It :=
 ⟨fun i H=>H a=some (.frz o (.dK kvs))∧i < kvs.length,fun i H x H'=>H'=H∧∃ k v,kvs[i]?=some (k,v)∧x=kV k,fun i H=>H a=some (.frz o (.dK kvs))∧kvs.length≤i⟩
section
variable {X:Cx}
def iDK (tl:TE):TI:=fun σ H R=>tl σ H fun x H1=>∃ a o kvs,x=.ref a∧H1 a=some (.frz o (.dK kvs))∧R (Itk a o kvs) H1
end
section
variable {σ:St} {H:Hp} {nx:St→Hp→Prop} {B:V→St→Hp→(St→Hp→Prop)→Prop}
end
end L2
namespace L2
open PySem PySem.Spec PyProof.Rows
def zbU (H:Hp) (v:V) (q:Pl):Prop:=∃ p,v=.ref p∧H p=some (.tup [.str q.1,.int q.2])
abbrev zcM (K:W.Frag):RC:=fun vs H Q=>∃ r xs its,vs=[.ref r]∧SqL K H r xs∧Paired (zbU H) xs its∧its.Nodup∧its.length < 64 ∧
 ∀ l ys srt H',Same H H'→H l=none→H' l=some (.lst ys)→Paired (zbU H') ys srt→srt.Pairwise (fun a b=>yp a b=true)→srt.Perm its→Q (.ref l) H'
section
variable {X:Cx}
end
end L2
namespace L2
open PySem PySem.Spec PyProof.Rows
section
variable {K:Type} [DecidableEq K]
end
section
variable {prog:Program} {w:World} {K:Type} [DecidableEq K] {knd:HeapKind prog w K} {A:Around} {E:Value→Shared→Prop} {s:Shared} {d a:Addr} {xs:List (K × Addr × Value)} {k:K}
end
section
variable {X:Cx} {pins:List (Addr × Obj)} {σ:St} {H:Hp} {s:Shared} {a b:Addr} {kvs:List (List Key × V)} {k:List Key} {A:Around} {E:Value→Shared→Prop}
end
def zco (td ty:TE):TE:=fun σ H Q=>td σ H fun x H1=>∃ a,x=.ref a∧IsD H1 a∧ty σ H1 fun y H2=>∃ kvs k b v,H2 a=some (.dT kvs)∧y=.ref b∧H2 b=some (.tup (k.map kV))∧yo kvs k=some v∧Q v (upd H2 a (.dT (Xd kvs k)))
def zcp (td ty tx:TE):TE:=fun σ H Q=>td σ H fun x H1=>∃ a,x=.ref a∧IsD H1 a∧ty σ H1 fun y H2=>tx σ H2 fun z H3=>∃ kvs k b,H3 a=some (.dT kvs)∧y=.ref b∧H3 b=some (.tup (k.map kV))∧kvs.length < sizeLine ∧
 (∀ v,yo kvs k=some v→Q v H3)∧(yo kvs k=none→Q z (upd H3 a (.dT (yJ kvs k z))))
section
variable {X:Cx} {o e f:Expr} {apos cpos:Pos} {td ty tx:TE}
end
abbrev zaY:RM:=fun x vs H Q=>∃ (l:Addr) (xs:List V) (k:Nat) (y:V),x=.ref l∧vs=[.int k,y]∧H l=some (.lst xs)∧k≤xs.length∧xs.length < 1000000∧Q .non (upd H l (.lst (xs.take k ++ y :: xs.drop k)))
abbrev zaZ:RM:=fun x vs H Q=>∃ (l:Addr) (ns:List Int) (i:Int),x=.ref l∧vs=[.int i]∧H l=some (.lst (ns.map V.int))∧i∈ns∧Q .non (upd H l (.lst ((ns.erase i).map V.int)))
section
variable {X:Cx}
end
def zcq (H:Hp) (y:V) (kv:List Key × V):Prop:=∃ p,y=.ref p∧H p=some (.tup (kv.1.map kV))
abbrev zcN:RC:=fun vs H Q=>∃ a kvs,vs=[.ref a]∧H a=some (.dT kvs)∧∀ l ys,H l=none→Paired (zcq H) ys kvs→Q (.ref l) (upd H l (.lst ys))
abbrev zcO:RC:=fun vs H Q=>∃ a kvs,vs=[.ref a]∧H a=some (.dT kvs)∧Q (.int (kvs.length:Nat)) H
section
variable {X:Cx}
end
end L2
namespace L2
open PySem PySem.Spec PyProof.Rows
section
variable {X:Cx} {c:Expr} {s₁ s₂:Stmt} {tc:TT} {t1 t2:EXK→TS} {pos:Pos}
end
section
variable {X:Cx} {e:Expr} {te:TE} {a b:Str} {j k:Nat} {p1 p2 p3 p4:Pos}
end
end L2
namespace L2
open PySem PySem.Spec PyProof.Rows
structure FunD (K:W.Frag) (x qual:Str) (st:Stmt) (f:Addr) (fd:FuncData):Prop where
 ex:∃ (oc:Value) (od:Option Addr) (dV kV doc pm:Value) (an:Option Addr) (cdv ct:Value) (osl:Array (Option Value)),fd=W.fnOf x qual (zK st) (zH st) (zj st) dV kV doc pm an cdv ct∧K.lookup f=some ⟨oc,od,.func fd,osl⟩∧W.codeIn K cdv qual=true
 kp:W.keepIn K (.ref f)=true
section
variable {P:Program} {w:World} {K:W.Frag} {mg:Str→Option Value} {base:Heap} {x qual:Str} {st:Stmt} {f:Addr} {fd:FuncData} {N ps:List Str} {k:Nat} {sp:Sp}
theorem FunD.ok1 (F:FunD K x qual st f fd) (S:zO N ps (zj st)) (len:∀ vs H Q E,sp vs H Q E→vs.length=ps.length)
  (hbody:∀ (cdv:Value) (A:Around) (outer:List Env) (s:Shared) (H:Hp) (vs:List V) (Q:VK) (E:XK),Room k (A.deeper (envOfC qual (zj st) s.heap.objs.size f cdv))→sp vs H Q E→∃ t,PSs (kB (CX1 P w) P w K mg base N qual (zj st) f cdv A outer s H E) (zH st) t∧t { nx:=fun _ H'=>Q .non H',rt:=Q } (start N vs) H):FnOk P w K mg base (CX1 P w) (k + 1) f fd ps sp:=by
 obtain ⟨oc,od,dV,kV,doc,pm,an,cdv,ct,osl,rfl,lk,hcd⟩:=F.ex
 exact zaT lk hcd S len fun A outer s H vs Q E hr hsp=>hbody cdv A outer s H vs Q E hr hsp
theorem FunD.ok0 (F:FunD K x qual st f fd) (S:zO N ps (zj st)) (len:∀ vs H Q E,sp vs H Q E→vs.length=ps.length)
  (hbody:∀ (cdv:Value) (A:Around) (outer:List Env) (s:Shared) (H:Hp) (vs:List V) (Q:VK) (E:XK),Room k (A.deeper (envOfC qual (zj st) s.heap.objs.size f cdv))→sp vs H Q E→∃ t,PSs (kB (CX1 P w) P w K mg base N qual (zj st) f cdv A outer s H E).nox (zH st) t∧t { nx:=fun _ H'=>Q .non H',rt:=Q } (start N vs) H):FnOk P w K mg base (CX1 P w) (k + 1) f fd ps sp :=
 F.ok1 S len fun cdv A outer s H vs Q E hr h=>let ⟨t,a,b⟩:=hbody cdv A outer s H vs Q E hr h;⟨t,a.nox,b⟩
theorem zas {oc:Value} {od an:Option Addr} {osl:Array (Option Value)} {dV kV doc pm cdv ct:Value} (l:K.lookup f=some ⟨oc,od,.func (W.fnOf x qual (zK st) (zH st) (zj st) dV kV doc pm an cdv ct),osl⟩)
  (c:W.codeIn K cdv qual=true) (k:W.keepIn K (.ref f)=true):FunD K x qual st f (W.fnOf x qual (zK st) (zH st) (zj st) dV kV doc pm an cdv ct):=⟨⟨oc,od,dV,kV,doc,pm,an,cdv,ct,osl,rfl,l,c⟩,k⟩
end
section
variable {X:Cx} {o value:Expr} {f:Str} {pos pos':Pos} {ta:TE} {tx:EXK→TE}
def Qw (K:W.Frag) (ta:TE) (tx:EXK→TE) (f:Str) (EX:EXK):TS:=jD K ta (tx EX) f
theorem zat (ha:PE X.nox o ta) (hv:PEX X value tx) (hs:swapsWith value (some (.Attribute o f pos')) pos.line X.env=pure false):PSX X (.Assign [.Attribute o f pos'] value pos) (Qw X.K ta tx f):=by
 intro pins s σ H D EX I h
 refine plainObj_wpAny_Assign_Attribute (thn (hv pins s σ H _ EX I h) fun u s1 ⟨y,H1,I1,ry,q⟩=>wpAny_mono (ha pins s1 σ H1 _ (I1.wish _) q) (fun ov s2 ⟨x,H2,I2',rx,a,C,dx,fs,ex,ea,c,n,l,q2⟩=>?_) fun _ _ z=>False.elim z) hs
 subst ex
 obtain rfl:ov=Value.ref a:=rx
 exact Z6 I2'.unwish ea c n l ry fun s3 I3=>⟨σ,_,I3,q2⟩
end
def Jz (K:W.Frag) (tb:EXK→TS) (C1 C2:Addr) (th:TS):TS:=fun D σ H=>tb (fun cls σ1 H1=>∃ C,cls=.ref C∧W.exmAny K (.ref C) [.ref C1,.ref C2]=some true∧th D σ1 H1) D σ H
theorem Qx {base h:Heap} {l:List Env} {e:Addr} {cls a0:Value} (x:Heap.FlyingW base l e cls a0 h) (o:Obj):Heap.FlyingW base l e cls a0 (h.push o):=by
 obtain ⟨f1,f2,f3,oe,vs,T,oT,ts,a1,a2,a3,a4,a5,a6,a7,a8,a9⟩:=x
 exact ⟨fun b u q=>Heap.get?_push_of_some _ (f1 b u q),f2,f3.of_keeps (fun b u q _=>⟨u,Heap.get?_push_of_some _ q,rfl⟩),oe,vs,T,oT,ts,Heap.get?_push_of_some _ a1,a2,a3,a4,a5,a6,Heap.get?_push_of_some _ a7,a8,a9⟩
section
variable {X:Cx} {st b₀:Stmt} {suite:List Stmt} {tb:EXK→TS} {th:TS} {c1 c2:Str} {C1 C2:Addr} {np np2 hpos tpos pos:Pos} {x1:Nat}
theorem zau (hst:X.stack=X.env :: X.outer∧X.env.frame=some X.env.locals) (hex:X.ex=[]) (hb:PSX X st tb) (hg1:Gl X c1) (hm1:X.mg c1=some (.ref C1)) (hg2:Gl X c2) (hm2:X.mg c2=some (.ref C2))
  (hs:∀ e,PSs (X.sub e) (b₀ :: suite) th) (hdb1:(c1 == ("__debug__":Str))=false:=by decide) (hdb2:(c2 == ("__debug__":Str))=false:=by decide) :
  PS X (.Try [st] [.ExceptHandler (some (.Tuple [.Name c1 np,.Name c2 np2] x1 tpos)) none (b₀ :: suite) hpos] [] [] pos) (Jz X.K tb C1 C2 th):=by
 intro pins s σ H D I h
 refine wpAny_Try_except (wpAny_execs_cons (wpAny_mono (hb pins s σ H D _ I h) (fun f s1 q=>?_) fun ev s1 q=>?_))
 ·cases f with
  | next=>exact wpAny_execs_nil (wpAny_execs_nil q)
  | ret v=>exact q
  | brk=>exact q
  | cont=>exact q
 obtain ⟨e,cls,σ1,s0,H0,H1,rfl,I0,I1,xf,C,rfl,hx,hth⟩:=q
 obtain ⟨oe,vs,a0,T,oT,ts,h1,h2,h3,h4,h5,h6,h7,h8,h9,h10,h11,h12⟩:=xf
 have fr:s1.heap.FunFrames (W.hideAll s1.heap (frs X.stack ++ [e,T])) (X.env :: X.outer):=by
  have q:=W.funFrames_hide (as:=frs X.stack ++ [e,T]) I1.stack fun env he a ha=>List.mem_append_left _ (List.mem_filterMap.mpr ⟨env,he,ha⟩)
  rw [hst.1] at q ⊢
  exact q
 have two:∀ b∈[e,T],s0.heap.get? b=none∧H1 b=none:=fun b z=>by
  have z':b=e∨b=T:=by simpa using z
  rcases z' with rfl | rfl
  ·exact ⟨h9,h11⟩
  ·exact ⟨h10,h12⟩
 have hcs:∀ b∈[e,T],H1 b=none∧X.s₀.heap.get? b=none:=fun b z=>⟨(two b z).2,v9 (I0.there0 hex) (two b z).1⟩
 have hcp:∀ b∈[e,T],∀ p∈X.pn ++ pins,p.1≠b:=fun b z p hp q=>by
  have:=(I0.pin p hp).1
  rw [q,(two b z).1] at this;cases this
 refine wpAny_looks_onW (base:=W.hideAll s1.heap (frs X.stack ++ [e,T])) (a0:=a0) (cls:=.ref C) (by rw [I1.ok.frames,hst.1]) hst.2
  ⟨fun b o q=>W.of_hideAll _ q,W.hideAll_none _ (List.mem_append_right _ (by simp)),fr,oe,vs,T,oT,ts,h1,h2,h3,h4,W.hideAll_none _ (List.mem_append_right _ (by simp)),h5,h6,h7,h8⟩ fun g4 held4 sm4=>?_
 refine wpAny_landsW held4 fun g5 fly5 sm5=>?_
 have hB:∀ {g:Heap},(W.hideAll s1.heap (frs X.stack ++ [e,T])).StaysIn g→∀ b o,s1.heap.get? b=some o→b ∉ frs X.stack→b ∉ [e,T]→g.get? b=some o :=
  fun {g} k b o q n1 n2=>k b o (W.hideAll_get _ q fun z=>(List.mem_append.mp z).elim n1 n2)
 have I5:Inv X pins σ1 H1 { s1 with heap:=g5 }:=I1.land hex hcs hcp (hB fly5.1) (sm4.trans sm5)
 refine wpAny_handleBy_cons (codeAny_handlers_test ?_) (by intro q;cases q)
 refine wpAny_Tuple_spliced (Calls.spliced_cons (vF (X:=X.sub e) (I5.toSub (e:=e)) hg1 hm1 (Calls.spliced_cons (vF (X:=X.sub e) (I5.toSub (e:=e)) hg2 hm2 (Calls.spliced_nil ⟨(by show 2≤sizeLine;decide),?_⟩) hdb2)) hdb1))
 have fly6:=Qx fly5 { cls:=.type "tuple",data:=.seq [Value.ref C1,Value.ref C2].toArray }
 have kp:∀ b o,g5.get? b=some o→(g5.push { cls:=.type "tuple",data:=.seq [Value.ref C1,Value.ref C2].toArray }).get? b=some o:=fun b o q=>Heap.get?_push_of_some _ q
 have hp:(g5.push { cls:=.type "tuple",data:=.seq [Value.ref C1,Value.ref C2].toArray }).get? g5.objs.size=some { cls:=.type "tuple",data:=.seq [Value.ref C1,Value.ref C2].toArray }:=Heap.get?_push_size _ rfl
 have K6:X.K.In (g5.push { cls:=.type "tuple",data:=.seq [Value.ref C1,Value.ref C2].toArray }):=(I5.kept (t':=s1.toks) kp).kIn
 have ty6:W.Looks (model X.prog X.w) (g5.push { cls:=.type "tuple",data:=.seq [Value.ref C1,Value.ref C2].toArray }) (typeOf (.ref e)) (.ref C):=by
  obtain ⟨o,p1,p2⟩:=fly6.there
  exact p2 ▸ (W.Looks.ld p1).andThen .now
 refine (W.exm_tup2 K6 ty6 hp hx).here ?_
 refine codeAny_handlers_suite (lands_againW fly6 fun g7 fly7 sm7=>?_)
 have I7:Inv X pins σ1 H1 { s1 with heap:=g7 }:=I1.land hex hcs hcp (hB fly7.1) (((sm4.trans sm5).trans (Heap.UpToSlots.of_keeps kp)).trans sm7)
 refine wpAny_mono (hs e pins _ σ1 H1 D I7.toSub hth) (fun f s9 q=>?_) fun _ _ z=>False.elim z
 cases f with
 | next=>obtain ⟨σ9,H9,J,z⟩:=q;exact ⟨σ9,H9,Inv.ofSub (J:=I) J,z⟩
 | brk=>obtain ⟨σ9,H9,J,z⟩:=q;exact ⟨σ9,H9,Inv.ofSub (J:=I) J,z⟩
 | cont=>obtain ⟨σ9,H9,J,z⟩:=q;exact ⟨σ9,H9,Inv.ofSub (J:=I) J,z⟩
 | ret u=>obtain ⟨v,σ9,H9,J,r,z⟩:=q;exact ⟨v,σ9,H9,Inv.ofSub (J:=I) J,r,z⟩
end
section
variable {X:Cx} {CX:CXT} {k:Nat} {f C:Addr} {fd:FuncData} {ps:List Str} {sp:Sp} {dvs:List V} {E:XK} {m:Str} {pos apos:Pos} {o:Expr} {ta:TE}
end
end L2
namespace L2
open PySem PySem.Spec PyProof.Rows
abbrev zdf:R2:=fun x y H Q=>∃ a b p r,x=.ref a∧y=.ref b∧H a=some (.tup [.str p.1,.int p.2])∧H b=some (.tup [.str r.1,.int r.2])∧Q (.bl (yp p r)) H
section
variable {X:Cx}
open PySem.SeqAt
open PySem.AutoSeq1 (wpAny_loadPart')
open PySem.MeetsSeq PySem.MeetsSeq2 PySem.MeetsSeq3
end
end L2
namespace L2
open PySem PySem.Spec PyProof.Rows
def zcr (C:Addr):TE:=fun _ H Q=>∀ x dx,H x=none→H dx=none→dx≠x→Q (.ref x) (upd (upd H dx (.own x)) x (.ins C dx []))
section
variable {X:Cx} {C:Addr} {x:Str} {p pos:Pos}
end
def zcs (L:List (Addr × Sp)) (m:Str) (E:XK) (ta:TE) (t:TA):TE:=fun σ H Q=>ta σ H fun x H1=>∃ a dx fs C sp,x=.ref a∧H1 a=some (.ins C dx fs)∧fs.lookup m=none∧(C,sp)∈L∧t σ H1 fun vs H2=>sp (x :: vs) H2 Q E
section
variable {X:Cx} {CX:CXT} {E:XK} {m:Str} {pos apos:Pos} {e o:Expr} {es:List Expr} {ta:TE} {t:TA} {L:List (Addr × Sp)} {C:Addr} {sp:Sp}
end
structure zct (K:W.Frag) (C:Addr):Prop where
 cl:Cls K C
 ha:W.findIn K (.ref C) "__class__"=some (some (.builtin "object.__class__"))
 hn:W.specialIn K (.builtin "object.__class__") "__get__"=some (some (.builtin "getset_descriptor.__get__"))
 tk:W.takesIn K (.builtin "object.__class__")=some true
 hm:W.mroIn K C (.type "object")=some true
abbrev zdg (K:W.Frag):RC:=fun xs H Q=>∃ a C dx fs D b,xs=[.ref a,.ref D]∧H a=some (.ins C dx fs)∧zct K C∧W.kitOne K (.ref C) (.ref D)=some b∧Q (.bl b) H
section
variable {X:Cx}
end
end L2
namespace L2
open PySem PySem.Spec PyProof.Rows
abbrev zdh (K:W.Frag):RC:=fun xs H Q=>∃ (a:Addr) (bs:List Bool),xs=[.ref a]∧SqL K H a (bs.map V.bl)∧Q (.bl (bs.any id)) H
section
variable {X:Cx}
end
def zcP (te ts:TE):TE:=fun σ H Q=>te σ H fun x H1=>ts σ H1 fun k H2=>∃ z y,x=.str z∧k=.int (-1)∧z.length≤sizeLine∧(∀ u,Txt.sliceBy z none none (-1,u)=y)∧Q (.str y) H2
section
variable {X:Cx} {e st:Expr} {p2 pos:Pos} {te ts:TE}
end
section
variable {P:Program} {w:World} {A:Around} {E:Value→Shared→Prop} {s:Shared}
end
def zcQ (K:W.Frag) (ta:TA):TE:=fun σ H Q=>ta σ H fun vs H1=>∃ a xs,vs=[.ref a]∧SqL K H1 a xs∧∀ l,H1 l=none→Q (.ref l) (upd H1 l (.lst xs.reverse))
section
variable {X:Cx} {a:Expr} {ta:TA} {p p2 pos pos2:Pos}
end
end L2
namespace L2
open PySem PySem.Spec PyProof.Rows
abbrev zcR:RC:=fun vs H Q=>∃ a kvs,vs=[.ref a]∧H a=some (.dK kvs)∧Q (.int (kvs.length:Nat)) H
section
variable {X:Cx}
end
end L2
namespace L2
open PySem PySem.Spec PyProof.Rows
section
variable {X:Cx} {CX:CXT} {k:Nat} {f C:Addr} {fd:FuncData} {ps:List Str} {sp:Sp} {dvs:List V} {E:XK} {x:Str} {p pos:Pos} {e:Expr} {es:List Expr} {t:TA}
end
section
variable {X:Cx} {e:Expr} {te:TE} {a:Str} {j:Nat} {p1 p2 p3:Pos}
end
section
variable {X:Cx} {st b₀:Stmt} {suite:List Stmt} {tb:EXK→TS} {th1:TS} {c1:Str} {C1:Addr} {np hpos pos:Pos}
end
end L2
namespace L2
open PySem PySem.Spec PyProof.Rows
section
variable {X:Cx} {tg:Expr}
def zbq (K:W.Frag) (tl:TE):TI:=fun σ H R=>tl σ H fun x H1=>∃ a,x=.ref a∧(((∃ xs,SqL K H1 a xs)∧R (Itl K a) H1)∨((∃ xs,SqT K H1 a xs)∧R (Itt K a) H1))
theorem zbr {l:Expr} {tl:TE} (hl:PE X l tl):PI X tg l (zbq X.K tl):=by
 intro pins s σ H R I h
 refine thn (hl pins s σ H _ I h) fun v s1 ⟨x,H1,I1,r1,q1⟩=>?_
 obtain ⟨a,e,q⟩:=q1
 subst e
 cases r1
 rcases q with ⟨⟨xs,hq⟩,q⟩ | ⟨⟨xs,hq⟩,q⟩
 ·obtain ⟨its,rv,p,hz⟩:=I1.list hq
  refine wpAny_pyIter_list p.isList ?_
  refine ⟨s1.heap.objs.size,[s1.heap.objs.size],_,_,H1,rfl,I1.kept (t':=s1.toks) fun b o e=>Heap.get?_push_of_some _ e,Y6 a _,⟨_,Heap.get?_push_size _ rfl,rfl,rfl⟩,fun b hb=>?_,q⟩
  have e:b=s1.heap.objs.size:=by simpa using hb
  subst e
  exact I1.fpOk (Nat.le_refl _) (I1.hok.fresh (Nat.le_refl _))
 ·obtain ⟨its,rv,p,hz⟩:=I1.tuple hq
  refine wpAny_pyIter_tuple (show s1.heap.IsTuple a its.toArray from p) ?_
  refine ⟨s1.heap.objs.size,[s1.heap.objs.size],_,_,H1,rfl,I1.kept (t':=s1.toks) fun b o e=>Heap.get?_push_of_some _ e,Z4 a _,⟨_,Heap.get?_push_size _ rfl,rfl,rfl⟩,fun b hb=>?_,q⟩
  have e:b=s1.heap.objs.size:=by simpa using hb
  subst e
  exact I1.fpOk (Nat.le_refl _) (I1.hok.fresh (Nat.le_refl _))
end
end L2
namespace HT
open PySem PySem.Spec PyProof.Rows
section
variable {prog:Program} {w:World} {A:Around} {E:Value→Shared→Prop} {s:Shared}
end
end HT
namespace L2
open PySem PySem.Spec PyProof.Rows
section
variable {X:Cx}
def zcS (K:W.Frag):V→Option Int→Option Int→Hp→VK→Prop:=fun x lo hi H Q=>∃ a xs,x=.ref a∧SqT K H a xs ∧
 ((HT.sIx xs.length 0 lo=0∧HT.sIx xs.length xs.length hi=xs.length)→Q (.ref a) H)∧(¬ (HT.sIx xs.length 0 lo=0∧HT.sIx xs.length xs.length hi=xs.length)→∀ p,H p=none→Q (.ref p) (upd H p (.tup (XE xs lo hi))))
end
end L2
namespace K30
open PySem L2
theorem jqa {α:Type} {a:α} {l m:List α}:a :: l ++ m=a :: (l ++ m):=rfl
theorem jqb {α:Type} (l:List α):[] ++ l=l:=rfl
theorem jqc {α:Type} (l:List α):l ++ []=l:=List.append_nil l
theorem jqd {α:Type} {a:α} {l:List α}:(a :: l)[0]?=some a:=rfl
theorem jqe {α:Type} {a:α} {l:List α} {i:Nat}:(a :: l)[i + 1]?=l[i]?:=rfl
theorem jqf {α:Type} (a b:α):(some a=some b)=(a=b):=Option.some.injEq a b
theorem jqg {α:Sort _} {p:α→Prop} {a:α}:(∃ x,a=x∧p x)↔p a:=exists_eq_left'
theorem jqh {α:Sort _} {p:α→Prop} {a:α}:(∃ x,x=a∧p x)↔p a:=exists_eq_left
theorem jqi (a b:Int):(V.int a=V.int b)=(a=b):=V.int.injEq a b
theorem jqj (a b:Addr):(V.ref a=V.ref b)=(a=b):=V.ref.injEq a b
theorem jqk (a b:Str):(V.str a=V.str b)=(a=b):=V.str.injEq a b
theorem jql (a b:Bool):(V.bl a=V.bl b)=(a=b):=V.bl.injEq a b
theorem jqm (a b:String):(V.ty a=V.ty b)=(a=b):=V.ty.injEq a b
theorem jqn {α:Type} (a:α) (l:List α) (b:α) (m:List α):(a :: l=b :: m)=(a=b∧l=m):=List.cons.injEq a l b m
theorem jqo {α:Sort _} {p:α→Prop} {b:Prop}:(∃ x,b∧p x)↔b∧(∃ x,p x):=exists_and_left
theorem jqp {α:Type} {x:α} {l:List α} {a:α}:(x :: l).set 0 a=a :: l:=rfl
theorem jqq {α:Type} {x:α} {l:List α} {i:Nat} {a:α}:(x :: l).set (i + 1) a=x :: l.set i a:=rfl
theorem jqr {p:Prop} [Decidable p]:(decide p=true)=p:=decide_eq_true_eq
theorem jqs (b:Bool):((!b)=true)=(b=false):=Bool.not_eq_true' b
theorem jqt {p:Prop} {_:Decidable p}:decide p=false↔¬p:=decide_eq_false_iff_not
theorem jqu:(false=true)=False:=Bool.false_eq_true
def top (i:Nat):Stmt:=PySem.Challenge.pw_forerun_k30_a_run_walked.main.body.getD i (.Pass ⟨0,0,0,0⟩)
abbrev xJ:Stmt:=top 20
abbrev yZ:Stmt:=top 21
abbrev yS:Stmt:=top 19
abbrev wc:Stmt:=wC (top 13) 0
abbrev wd:Stmt:=wC (top 13) 1
abbrev xK:Stmt:=wC (top 13) 4
abbrev y9:Stmt:=top 22
abbrev we:Stmt:=top 29
abbrev xu:Stmt:=top 30
abbrev xv:Stmt:=top 32
abbrev xa:Stmt:=top 33
abbrev xw:Stmt:=top 35
abbrev va:Stmt:=top 8
abbrev vb:Stmt:=top 9
abbrev wf:Stmt:=top 5
abbrev jb:Stmt:=top 10
abbrev wg:Stmt:=top 11
abbrev yT:Stmt:=wC (top 13) 5
abbrev yU:Stmt:=wC (top 13) 6
abbrev wj:Stmt:=wC (top 13) 2
abbrev xb:Stmt:=top 31
abbrev xL:Stmt:=wC (top 13) 9
abbrev wm:Stmt:=wC (top 13) 8
abbrev xx:Stmt:=wC (top 13) 7
abbrev wp:Stmt:=wC (top 13) 3
abbrev wq:Stmt:=top 34
abbrev wr:Stmt:=top 36
abbrev xc:Stmt:=top 16
abbrev wt:Stmt:=top 15
abbrev vc:Stmt:=top 17
abbrev xg:Stmt:=top 27
abbrev xM:Stmt:=top 23
abbrev xN:Stmt:=top 24
abbrev xO:Stmt:=top 25
abbrev wu:Stmt:=top 26
abbrev xP:Stmt:=top 28
abbrev Xt:Stmt:=top 37
theorem sc__law_draw:zO ["cell","j","far"] ["cell","j"] (zj xJ):=⟨rfl,rfl,rfl,by decide +kernel,rfl,by decide +kernel,by decide +kernel⟩
theorem sc__law_names:zO ["cell","many","size","signs","stem","k","at","turn"] ["cell","many"] (zj yZ):=⟨rfl,rfl,rfl,by decide +kernel,rfl,by decide +kernel,by decide +kernel⟩
theorem ZD:zO ["script","k"] ["script","k"] (zj yS):=⟨rfl,rfl,rfl,by decide +kernel,rfl,by decide +kernel,by decide +kernel⟩
theorem WX:zO ["self","code"] ["self","code"] (zj wc):=⟨rfl,rfl,rfl,by decide +kernel,rfl,by decide +kernel,by decide +kernel⟩
theorem WY:zO ["self"] ["self"] (zj wd):=⟨rfl,rfl,rfl,by decide +kernel,rfl,by decide +kernel,by decide +kernel⟩
theorem sc_Run_paper:zO ["self","notes"] ["self"] (zj xK):=⟨rfl,rfl,rfl,by decide +kernel,rfl,by decide +kernel,by decide +kernel⟩
theorem Yz:zO ["cell","j"] ["cell","j"] (zj y9):=⟨rfl,rfl,rfl,by decide +kernel,rfl,by decide +kernel,by decide +kernel⟩
theorem sc__law_two:zO ["one","other","word","made"] ["one","other","word"] (zj we):=⟨rfl,rfl,rfl,by decide +kernel,rfl,by decide +kernel,by decide +kernel⟩
theorem sc__law_worth:zO ["term","slots","parts","part","other","made"] ["term","slots"] (zj xu):=⟨rfl,rfl,rfl,by decide +kernel,rfl,by decide +kernel,by decide +kernel⟩
theorem sc__law_moved:zO ["step","first","second","state","answer","place"] ["step","first","second","state","answer"] (zj xv):=⟨rfl,rfl,rfl,by decide +kernel,rfl,by decide +kernel,by decide +kernel⟩
theorem sc__law_walked:zO ["step","state","answer","first","second"] ["step","state","answer"] (zj xa):=⟨rfl,rfl,rfl,by decide +kernel,rfl,by decide +kernel,by decide +kernel⟩
theorem sc__law_plain:zO ["found","part"] ["found"] (zj xw):=⟨rfl,rfl,rfl,by decide +kernel,rfl,by decide +kernel,by decide +kernel⟩
theorem VY:zO ["word","first","second"] ["word","first","second"] (zj va):=⟨rfl,rfl,rfl,by decide +kernel,rfl,by decide +kernel,by decide +kernel⟩
theorem VZ:zO ["word","first","second"] ["word","first","second"] (zj vb):=⟨rfl,rfl,rfl,by decide +kernel,rfl,by decide +kernel,by decide +kernel⟩
theorem WZ:zO ["thing"] ["thing"] (zj wf):=⟨rfl,rfl,rfl,by decide +kernel,rfl,by decide +kernel,by decide +kernel⟩
theorem sc_joined:zO ["word","first","second","worth"] ["word","first","second"] (zj jb):=⟨rfl,rfl,rfl,by decide +kernel,rfl,by decide +kernel,by decide +kernel⟩
theorem sc_reckoned:zO ["term","slots","worths","part","second","first"] ["term","slots"] (zj wg):=⟨rfl,rfl,rfl,by decide +kernel,rfl,by decide +kernel,by decide +kernel⟩
theorem ZE:zO ["self","term"] ["self","term"] (zj yT):=⟨rfl,rfl,rfl,by decide +kernel,rfl,by decide +kernel,by decide +kernel⟩
theorem ZF:zO ["self","due"] ["self","due"] (zj yU):=⟨rfl,rfl,rfl,by decide +kernel,rfl,by decide +kernel,by decide +kernel⟩
theorem sc_Run_asks:zO ["self","place"] ["self"] (zj wj):=⟨rfl,rfl,rfl,by decide +kernel,rfl,by decide +kernel,by decide +kernel⟩
theorem sc__law_wanted:zO ["step","state","number"] ["step","state"] (zj xb):=⟨rfl,rfl,rfl,by decide +kernel,rfl,by decide +kernel,by decide +kernel⟩
theorem X3:zO ["self","place","worth"] ["self","place","worth"] (zj xL):=⟨rfl,rfl,rfl,by decide +kernel,rfl,by decide +kernel,by decide +kernel⟩
theorem sc_Run_does:zO ["self","due","worth","place"] ["self","due","worth"] (zj wm):=⟨rfl,rfl,rfl,by decide +kernel,rfl,by decide +kernel,by decide +kernel⟩
theorem YT:zO ["self","due","worth"] ["self","due","worth"] (zj xx):=⟨rfl,rfl,rfl,by decide +kernel,rfl,by decide +kernel,by decide +kernel⟩
theorem W0:zO ["self","worth"] ["self","worth"] (zj wp):=⟨rfl,rfl,rfl,by decide +kernel,rfl,by decide +kernel,by decide +kernel⟩
theorem W1:zO ["state"] ["state"] (zj wq):=⟨rfl,rfl,rfl,by decide +kernel,rfl,by decide +kernel,by decide +kernel⟩
theorem sc__law_run:zO ["code","cells","run","state","k","step","answer","paper"] ["code","cells"] (zj wr):=⟨rfl,rfl,rfl,by decide +kernel,rfl,by decide +kernel,by decide +kernel⟩
theorem sc_block_steps:zO ["row","at","steps","to","others"] ["row","at"] (zj xc):=⟨rfl,rfl,rfl,by decide +kernel,rfl,by decide +kernel,by decide +kernel⟩
theorem sc_steps_of:zO ["rows","first","steps","row"] ["rows","first"] (zj wt):=⟨rfl,rfl,rfl,by decide +kernel,rfl,by decide +kernel,by decide +kernel⟩
theorem V0:zO ["rows"] ["rows"] (zj vc):=⟨rfl,rfl,rfl,by decide +kernel,rfl,by decide +kernel,by decide +kernel⟩
theorem sc__law_closed:zO ["frames","frame"] ["frames"] (zj xg):=⟨rfl,rfl,rfl,by decide +kernel,rfl,by decide +kernel,by decide +kernel⟩
theorem X4:zO ["cell","j","slots"] ["cell","j","slots"] (zj xM):=⟨rfl,rfl,rfl,by decide +kernel,rfl,by decide +kernel,by decide +kernel⟩
theorem sc__law_term:zO ["cell","j","slots","words","word","one","two","kind"] ["cell","j","slots"] (zj xN):=⟨rfl,rfl,rfl,by decide +kernel,rfl,by decide +kernel,by decide +kernel⟩
theorem X5:zO ["cell","j","slots"] ["cell","j","slots"] (zj xO):=⟨rfl,rfl,rfl,by decide +kernel,rfl,by decide +kernel,by decide +kernel⟩
theorem sc__law_row:zO ["cell","slots","shelves","kind","shelf","slot","bad"] ["cell","slots","shelves"] (zj wu):=⟨rfl,rfl,rfl,by decide +kernel,rfl,by decide +kernel,by decide +kernel⟩
theorem sc__law_rows:zO ["cells","slots","shelves","frames","cell","kind"] ["cells","slots","shelves"] (zj xP):=⟨rfl,rfl,rfl,by decide +kernel,rfl,by decide +kernel,by decide +kernel⟩
theorem sc_law:zO ["script","slots","shelves","many","cells","at","part"] ["script"] (zj Xt):=⟨rfl,rfl,rfl,by decide +kernel,rfl,by decide +kernel,by decide +kernel⟩
set_option genSizeOf false in
set_option genInjectivity false in
structure Adr where
 a__law_draw:Addr
 d__law_draw:FuncData
 a__law_names:Addr
 d__law_names:FuncData
 a__law_cell_at:Addr
 d__law_cell_at:FuncData
 a_Run_init:Addr
 d_Run_init:FuncData
 a_Run_over:Addr
 d_Run_over:FuncData
 a_Run_paper:Addr
 d_Run_paper:FuncData
 a__law_number:Addr
 d__law_number:FuncData
 a__law_two:Addr
 d__law_two:FuncData
 a__law_worth:Addr
 d__law_worth:FuncData
 a__law_moved:Addr
 d__law_moved:FuncData
 a__law_walked:Addr
 d__law_walked:FuncData
 a__law_plain:Addr
 d__law_plain:FuncData
 a_divided:Addr
 d_divided:FuncData
 a_come_to:Addr
 d_come_to:FuncData
 a_is_worth:Addr
 d_is_worth:FuncData
 a_joined:Addr
 d_joined:FuncData
 a_reckoned:Addr
 d_reckoned:FuncData
 a_Run_worth_of:Addr
 d_Run_worth_of:FuncData
 a_Run_place_in:Addr
 d_Run_place_in:FuncData
 a_Run_asks:Addr
 d_Run_asks:FuncData
 a__law_wanted:Addr
 d__law_wanted:FuncData
 a_Run_taken:Addr
 d_Run_taken:FuncData
 a_Run_does:Addr
 d_Run_does:FuncData
 a_Run_led_by:Addr
 d_Run_led_by:FuncData
 a_Run_step:Addr
 d_Run_step:FuncData
 a__law_due:Addr
 d__law_due:FuncData
 a__law_run:Addr
 d__law_run:FuncData
 a_block_steps:Addr
 d_block_steps:FuncData
 a_steps_of:Addr
 d_steps_of:FuncData
 a_code_of:Addr
 d_code_of:FuncData
 a__law_closed:Addr
 d__law_closed:FuncData
 a__law_part:Addr
 d__law_part:FuncData
 a__law_term:Addr
 d__law_term:FuncData
 a__law_spot:Addr
 d__law_spot:FuncData
 a__law_row:Addr
 d__law_row:FuncData
 a__law_rows:Addr
 d__law_rows:FuncData
 a_law:Addr
 d_law:FuncData
 c_JOINING:Addr
 c_Great:Addr
 c_Nought:Addr
 c_Run:Addr
structure Txt (K:W.Frag) (mg:Str→Option Value) (t:Adr):Prop where
 f__law_draw:Fun K "_law_draw" "_law_draw" xJ t.a__law_draw t.d__law_draw
 b__law_draw:Binds K t.d__law_draw ["cell","j"] []
 m__law_draw:mg "_law_draw"=some (.ref t.a__law_draw)
 f__law_names:Fun K "_law_names" "_law_names" yZ t.a__law_names t.d__law_names
 b__law_names:Binds K t.d__law_names ["cell","many"] []
 m__law_names:mg "_law_names"=some (.ref t.a__law_names)
 f__law_cell_at:Fun K "_law_cell_at" "_law_cell_at" yS t.a__law_cell_at t.d__law_cell_at
 b__law_cell_at:Binds K t.d__law_cell_at ["script","k"] []
 m__law_cell_at:mg "_law_cell_at"=some (.ref t.a__law_cell_at)
 f_Run_init:Fun K "__init__" "Run.__init__" wc t.a_Run_init t.d_Run_init
 b_Run_init:Binds K t.d_Run_init ["self","code"] []
 f_Run_over:Fun K "over" "Run.over" wd t.a_Run_over t.d_Run_over
 b_Run_over:Binds K t.d_Run_over ["self"] []
 me_Run_over:qU K t.c_Run "over" t.a_Run_over
 f_Run_paper:Fun K "paper" "Run.paper" xK t.a_Run_paper t.d_Run_paper
 b_Run_paper:Binds K t.d_Run_paper ["self"] []
 me_Run_paper:qU K t.c_Run "paper" t.a_Run_paper
 f__law_number:Fun K "_law_number" "_law_number" y9 t.a__law_number t.d__law_number
 b__law_number:Binds K t.d__law_number ["cell","j"] []
 m__law_number:mg "_law_number"=some (.ref t.a__law_number)
 f__law_two:Fun K "_law_two" "_law_two" we t.a__law_two t.d__law_two
 b__law_two:Binds K t.d__law_two ["one","other","word"] []
 m__law_two:mg "_law_two"=some (.ref t.a__law_two)
 f__law_worth:Fun K "_law_worth" "_law_worth" xu t.a__law_worth t.d__law_worth
 b__law_worth:Binds K t.d__law_worth ["term","slots"] []
 m__law_worth:mg "_law_worth"=some (.ref t.a__law_worth)
 f__law_moved:Fun K "_law_moved" "_law_moved" xv t.a__law_moved t.d__law_moved
 b__law_moved:Binds K t.d__law_moved ["step","first","second","state","answer"] []
 m__law_moved:mg "_law_moved"=some (.ref t.a__law_moved)
 f__law_walked:Fun K "_law_walked" "_law_walked" xa t.a__law_walked t.d__law_walked
 b__law_walked:Binds K t.d__law_walked ["step","state","answer"] []
 m__law_walked:mg "_law_walked"=some (.ref t.a__law_walked)
 f__law_plain:Fun K "_law_plain" "_law_plain" xw t.a__law_plain t.d__law_plain
 b__law_plain:Binds K t.d__law_plain ["found"] []
 m__law_plain:mg "_law_plain"=some (.ref t.a__law_plain)
 f_divided:Fun K "divided" "divided" va t.a_divided t.d_divided
 b_divided:Binds K t.d_divided ["word","first","second"] []
 m_divided:mg "divided"=some (.ref t.a_divided)
 f_come_to:Fun K "come_to" "come_to" vb t.a_come_to t.d_come_to
 b_come_to:Binds K t.d_come_to ["word","first","second"] []
 m_come_to:mg "come_to"=some (.ref t.a_come_to)
 f_is_worth:Fun K "is_worth" "is_worth" wf t.a_is_worth t.d_is_worth
 b_is_worth:Binds K t.d_is_worth ["thing"] []
 m_is_worth:mg "is_worth"=some (.ref t.a_is_worth)
 f_joined:Fun K "joined" "joined" jb t.a_joined t.d_joined
 b_joined:Binds K t.d_joined ["word","first","second"] []
 m_joined:mg "joined"=some (.ref t.a_joined)
 f_reckoned:Fun K "reckoned" "reckoned" wg t.a_reckoned t.d_reckoned
 b_reckoned:Binds K t.d_reckoned ["term","slots"] []
 m_reckoned:mg "reckoned"=some (.ref t.a_reckoned)
 f_Run_worth_of:Fun K "worth_of" "Run.worth_of" yT t.a_Run_worth_of t.d_Run_worth_of
 b_Run_worth_of:Binds K t.d_Run_worth_of ["self","term"] []
 me_Run_worth_of:qU K t.c_Run "worth_of" t.a_Run_worth_of
 f_Run_place_in:Fun K "place_in" "Run.place_in" yU t.a_Run_place_in t.d_Run_place_in
 b_Run_place_in:Binds K t.d_Run_place_in ["self","due"] []
 me_Run_place_in:qU K t.c_Run "place_in" t.a_Run_place_in
 f_Run_asks:Fun K "asks" "Run.asks" wj t.a_Run_asks t.d_Run_asks
 b_Run_asks:Binds K t.d_Run_asks ["self"] []
 me_Run_asks:qU K t.c_Run "asks" t.a_Run_asks
 f__law_wanted:Fun K "_law_wanted" "_law_wanted" xb t.a__law_wanted t.d__law_wanted
 b__law_wanted:Binds K t.d__law_wanted ["step","state"] []
 m__law_wanted:mg "_law_wanted"=some (.ref t.a__law_wanted)
 f_Run_taken:Fun K "taken" "Run.taken" xL t.a_Run_taken t.d_Run_taken
 b_Run_taken:Binds K t.d_Run_taken ["self","place","worth"] []
 me_Run_taken:qU K t.c_Run "taken" t.a_Run_taken
 f_Run_does:Fun K "does" "Run.does" wm t.a_Run_does t.d_Run_does
 b_Run_does:Binds K t.d_Run_does ["self","due","worth"] []
 me_Run_does:qU K t.c_Run "does" t.a_Run_does
 f_Run_led_by:Fun K "led_by" "Run.led_by" xx t.a_Run_led_by t.d_Run_led_by
 b_Run_led_by:Binds K t.d_Run_led_by ["self","due","worth"] []
 me_Run_led_by:qU K t.c_Run "led_by" t.a_Run_led_by
 f_Run_step:FunD K "step" "Run.step" wp t.a_Run_step t.d_Run_step
 b_Run_step:Binds K t.d_Run_step ["self","worth"] []
 me_Run_step:qU K t.c_Run "step" t.a_Run_step
 f__law_due:Fun K "_law_due" "_law_due" wq t.a__law_due t.d__law_due
 b__law_due:Binds K t.d__law_due ["state"] []
 m__law_due:mg "_law_due"=some (.ref t.a__law_due)
 f__law_run:Fun K "_law_run" "_law_run" wr t.a__law_run t.d__law_run
 b__law_run:Binds K t.d__law_run ["code","cells"] []
 m__law_run:mg "_law_run"=some (.ref t.a__law_run)
 f_block_steps:Fun K "block_steps" "block_steps" xc t.a_block_steps t.d_block_steps
 b_block_steps:Binds K t.d_block_steps ["row","at"] []
 m_block_steps:mg "block_steps"=some (.ref t.a_block_steps)
 f_steps_of:Fun K "steps_of" "steps_of" wt t.a_steps_of t.d_steps_of
 b_steps_of:Binds K t.d_steps_of ["rows","first"] []
 m_steps_of:mg "steps_of"=some (.ref t.a_steps_of)
 f_code_of:Fun K "code_of" "code_of" vc t.a_code_of t.d_code_of
 b_code_of:Binds K t.d_code_of ["rows"] []
 m_code_of:mg "code_of"=some (.ref t.a_code_of)
 f__law_closed:Fun K "_law_closed" "_law_closed" xg t.a__law_closed t.d__law_closed
 b__law_closed:Binds K t.d__law_closed ["frames"] []
 m__law_closed:mg "_law_closed"=some (.ref t.a__law_closed)
 f__law_part:Fun K "_law_part" "_law_part" xM t.a__law_part t.d__law_part
 b__law_part:Binds K t.d__law_part ["cell","j","slots"] []
 m__law_part:mg "_law_part"=some (.ref t.a__law_part)
 f__law_term:Fun K "_law_term" "_law_term" xN t.a__law_term t.d__law_term
 b__law_term:Binds K t.d__law_term ["cell","j","slots"] []
 m__law_term:mg "_law_term"=some (.ref t.a__law_term)
 f__law_spot:Fun K "_law_spot" "_law_spot" xO t.a__law_spot t.d__law_spot
 b__law_spot:Binds K t.d__law_spot ["cell","j","slots"] []
 m__law_spot:mg "_law_spot"=some (.ref t.a__law_spot)
 f__law_row:Fun K "_law_row" "_law_row" wu t.a__law_row t.d__law_row
 b__law_row:Binds K t.d__law_row ["cell","slots","shelves"] []
 m__law_row:mg "_law_row"=some (.ref t.a__law_row)
 f__law_rows:Fun K "_law_rows" "_law_rows" xP t.a__law_rows t.d__law_rows
 b__law_rows:Binds K t.d__law_rows ["cells","slots","shelves"] []
 m__law_rows:mg "_law_rows"=some (.ref t.a__law_rows)
 f_law:Fun K "law" "law" Xt t.a_law t.d_law
 b_law:Binds K t.d_law ["script"] []
 m_law:mg "law"=some (.ref t.a_law)
 w_law:∀ (s:Shared) (v:Value),BindsTo s t.d_law ⟨[v],[]⟩ [("script",v)]
 b_bool:mg "bool"=none
 b_int:mg "int"=none
 b_isinstance:mg "isinstance"=none
 b_len:mg "len"=none
 b_list:mg "list"=none
 b_range:mg "range"=none
 b_sorted:mg "sorted"=none
 b_str:mg "str"=none
 b_tuple:mg "tuple"=none
 g_JOINING:mg "JOINING"=some (.ref t.c_JOINING)
 v_JOINING:∀ H:Hp,SqT K H t.c_JOINING [.str "plus",.str "minus",.str "times",.str "over",.str "rest",.str "under",.str "same"]
 g_Great:mg "Great"=some (.ref t.c_Great)
 g_Nought:mg "Nought"=some (.ref t.c_Nought)
 g_Run:mg "Run"=some (.ref t.c_Run)
 cl_Run:Cls K t.c_Run
 mk_Run:Mk K t.c_Run t.a_Run_init
 na_Run_at:NoAttr K t.c_Run "at"
 na_Run_code:NoAttr K t.c_Run "code"
 na_Run_gifts:NoAttr K t.c_Run "gifts"
 na_Run_notes:NoAttr K t.c_Run "notes"
 na_Run_sayings:NoAttr K t.c_Run "sayings"
 na_Run_slots:NoAttr K t.c_Run "slots"
 na_Run_why:NoAttr K t.c_Run "why"
 x_Nought:W.excIn K t.c_Nought WE Za=true
 y_Nought:ExK K t.c_Nought
 e_Nought_Great:W.exmOne K (.ref t.c_Nought) (.ref t.c_Great)=some false
 e_Nought_Nought:W.exmOne K (.ref t.c_Nought) (.ref t.c_Nought)=some true
 m_Nought_Great_Nought:W.exmAny K (.ref t.c_Nought) [.ref t.c_Great,.ref t.c_Nought]=some true
 x_Great:W.excIn K t.c_Great WE Za=true
 y_Great:ExK K t.c_Great
 e_Great_Great:W.exmOne K (.ref t.c_Great) (.ref t.c_Great)=some true
 e_Great_Nought:W.exmOne K (.ref t.c_Great) (.ref t.c_Nought)=some false
 m_Great_Great_Nought:W.exmAny K (.ref t.c_Great) [.ref t.c_Great,.ref t.c_Nought]=some true
theorem txt_mk {K:W.Frag} {h:Heap} {mg:Str→Option Value} (X:K.In h) (G:h.Ns mainGlobals mg)
  {f0:Addr} {od0 an0:Option Addr} {sl0:Array (Option Value)} {oc0 kV0 dc0 pm0 cd0 ct0:Value}
  {f1:Addr} {od1 an1:Option Addr} {sl1:Array (Option Value)} {oc1 kV1 dc1 pm1 cd1 ct1:Value}
  {f2:Addr} {od2 an2:Option Addr} {sl2:Array (Option Value)} {oc2 kV2 dc2 pm2 cd2 ct2:Value}
  {f3:Addr} {od3 an3:Option Addr} {sl3:Array (Option Value)} {oc3 kV3 dc3 pm3 cd3 ct3:Value}
  {f4:Addr} {od4 an4:Option Addr} {sl4:Array (Option Value)} {oc4 kV4 dc4 pm4 cd4 ct4:Value}
  {f5:Addr} {od5 an5:Option Addr} {sl5:Array (Option Value)} {oc5 kV5 dc5 pm5 cd5 ct5:Value}
  {f6:Addr} {od6 an6:Option Addr} {sl6:Array (Option Value)} {oc6 kV6 dc6 pm6 cd6 ct6:Value}
  {f7:Addr} {od7 an7:Option Addr} {sl7:Array (Option Value)} {oc7 kV7 dc7 pm7 cd7 ct7:Value}
  {f8:Addr} {od8 an8:Option Addr} {sl8:Array (Option Value)} {oc8 kV8 dc8 pm8 cd8 ct8:Value}
  {f9:Addr} {od9 an9:Option Addr} {sl9:Array (Option Value)} {oc9 kV9 dc9 pm9 cd9 ct9:Value}
  {f10:Addr} {od10 an10:Option Addr} {sl10:Array (Option Value)} {oc10 kV10 dc10 pm10 cd10 ct10:Value}
  {f11:Addr} {od11 an11:Option Addr} {sl11:Array (Option Value)} {oc11 kV11 dc11 pm11 cd11 ct11:Value}
  {f12:Addr} {od12 an12:Option Addr} {sl12:Array (Option Value)} {oc12 kV12 dc12 pm12 cd12 ct12:Value}
  {f13:Addr} {od13 an13:Option Addr} {sl13:Array (Option Value)} {oc13 kV13 dc13 pm13 cd13 ct13:Value}
  {f14:Addr} {od14 an14:Option Addr} {sl14:Array (Option Value)} {oc14 kV14 dc14 pm14 cd14 ct14:Value}
  {f15:Addr} {od15 an15:Option Addr} {sl15:Array (Option Value)} {oc15 kV15 dc15 pm15 cd15 ct15:Value}
  {f16:Addr} {od16 an16:Option Addr} {sl16:Array (Option Value)} {oc16 kV16 dc16 pm16 cd16 ct16:Value}
  {f17:Addr} {od17 an17:Option Addr} {sl17:Array (Option Value)} {oc17 kV17 dc17 pm17 cd17 ct17:Value}
  {f18:Addr} {od18 an18:Option Addr} {sl18:Array (Option Value)} {oc18 kV18 dc18 pm18 cd18 ct18:Value}
  {f19:Addr} {od19 an19:Option Addr} {sl19:Array (Option Value)} {oc19 kV19 dc19 pm19 cd19 ct19:Value}
  {f20:Addr} {od20 an20:Option Addr} {sl20:Array (Option Value)} {oc20 kV20 dc20 pm20 cd20 ct20:Value}
  {f21:Addr} {od21 an21:Option Addr} {sl21:Array (Option Value)} {oc21 kV21 dc21 pm21 cd21 ct21:Value}
  {f22:Addr} {od22 an22:Option Addr} {sl22:Array (Option Value)} {oc22 kV22 dc22 pm22 cd22 ct22:Value}
  {f23:Addr} {od23 an23:Option Addr} {sl23:Array (Option Value)} {oc23 kV23 dc23 pm23 cd23 ct23:Value}
  {f24:Addr} {od24 an24:Option Addr} {sl24:Array (Option Value)} {oc24 kV24 dc24 pm24 cd24 ct24:Value} {dA24:Addr} {dn24:Nat} {dt24_0:Tok}
  {f25:Addr} {od25 an25:Option Addr} {sl25:Array (Option Value)} {oc25 kV25 dc25 pm25 cd25 ct25:Value}
  {f26:Addr} {od26 an26:Option Addr} {sl26:Array (Option Value)} {oc26 kV26 dc26 pm26 cd26 ct26:Value}
  {f27:Addr} {od27 an27:Option Addr} {sl27:Array (Option Value)} {oc27 kV27 dc27 pm27 cd27 ct27:Value}
  {f28:Addr} {od28 an28:Option Addr} {sl28:Array (Option Value)} {oc28 kV28 dc28 pm28 cd28 ct28:Value}
  {f29:Addr} {od29 an29:Option Addr} {sl29:Array (Option Value)} {oc29 kV29 dc29 pm29 cd29 ct29:Value}
  {f30:Addr} {od30 an30:Option Addr} {sl30:Array (Option Value)} {oc30 kV30 dc30 pm30 cd30 ct30:Value}
  {f31:Addr} {od31 an31:Option Addr} {sl31:Array (Option Value)} {oc31 kV31 dc31 pm31 cd31 ct31:Value}
  {f32:Addr} {od32 an32:Option Addr} {sl32:Array (Option Value)} {oc32 kV32 dc32 pm32 cd32 ct32:Value}
  {f33:Addr} {od33 an33:Option Addr} {sl33:Array (Option Value)} {oc33 kV33 dc33 pm33 cd33 ct33:Value}
  {f34:Addr} {od34 an34:Option Addr} {sl34:Array (Option Value)} {oc34 kV34 dc34 pm34 cd34 ct34:Value}
  {f35:Addr} {od35 an35:Option Addr} {sl35:Array (Option Value)} {oc35 kV35 dc35 pm35 cd35 ct35:Value}
  {f36:Addr} {od36 an36:Option Addr} {sl36:Array (Option Value)} {oc36 kV36 dc36 pm36 cd36 ct36:Value}
  {ga0:Addr} {gn0:Nat} {gt0_0:Tok} {gt0_1:Tok} {gt0_2:Tok} {gt0_3:Tok} {gt0_4:Tok} {gt0_5:Tok} {gt0_6:Tok}
  {ca0:Addr}
  {ca1:Addr}
  {ca2:Addr}
  {cl0:ClassData}
  {cl1:ClassData}
  (qa0:W.nsIn K mainGlobals "_law_draw"=some (some (.ref f0))) (ql0:K.lookup f0=some ⟨oc0,od0,.func (W.fnOf "_law_draw" "_law_draw" (zK xJ) (zH xJ) (zj xJ) .none kV0 dc0 pm0 an0 cd0 ct0),sl0⟩) (qc0:W.codeIn K cd0 "_law_draw"=true) (qk0:W.keepIn K (.ref f0)=true)
  (qa1:W.nsIn K mainGlobals "_law_names"=some (some (.ref f1))) (ql1:K.lookup f1=some ⟨oc1,od1,.func (W.fnOf "_law_names" "_law_names" (zK yZ) (zH yZ) (zj yZ) .none kV1 dc1 pm1 an1 cd1 ct1),sl1⟩) (qc1:W.codeIn K cd1 "_law_names"=true) (qk1:W.keepIn K (.ref f1)=true)
  (qa2:W.nsIn K mainGlobals "_law_cell_at"=some (some (.ref f2))) (ql2:K.lookup f2=some ⟨oc2,od2,.func (W.fnOf "_law_cell_at" "_law_cell_at" (zK yS) (zH yS) (zj yS) .none kV2 dc2 pm2 an2 cd2 ct2),sl2⟩) (qc2:W.codeIn K cd2 "_law_cell_at"=true) (qk2:W.keepIn K (.ref f2)=true)
  (qa3:W.findIn K (.ref ca2) "__init__"=some (some (.ref f3))) (qi3:W.isFn K (.ref f3)=true) (ql3:K.lookup f3=some ⟨oc3,od3,.func (W.fnOf "__init__" "Run.__init__" (zK wc) (zH wc) (zj wc) .none kV3 dc3 pm3 an3 cd3 ct3),sl3⟩) (qc3:W.codeIn K cd3 "Run.__init__"=true) (qk3:W.keepIn K (.ref f3)=true)
  (qa4:W.findIn K (.ref ca2) "over"=some (some (.ref f4))) (qi4:W.isFn K (.ref f4)=true) (ql4:K.lookup f4=some ⟨oc4,od4,.func (W.fnOf "over" "Run.over" (zK wd) (zH wd) (zj wd) .none kV4 dc4 pm4 an4 cd4 ct4),sl4⟩) (qc4:W.codeIn K cd4 "Run.over"=true) (qk4:W.keepIn K (.ref f4)=true)
  (qa5:W.findIn K (.ref ca2) "paper"=some (some (.ref f5))) (qi5:W.isFn K (.ref f5)=true) (ql5:K.lookup f5=some ⟨oc5,od5,.func (W.fnOf "paper" "Run.paper" (zK xK) (zH xK) (zj xK) .none kV5 dc5 pm5 an5 cd5 ct5),sl5⟩) (qc5:W.codeIn K cd5 "Run.paper"=true) (qk5:W.keepIn K (.ref f5)=true)
  (qa6:W.nsIn K mainGlobals "_law_number"=some (some (.ref f6))) (ql6:K.lookup f6=some ⟨oc6,od6,.func (W.fnOf "_law_number" "_law_number" (zK y9) (zH y9) (zj y9) .none kV6 dc6 pm6 an6 cd6 ct6),sl6⟩) (qc6:W.codeIn K cd6 "_law_number"=true) (qk6:W.keepIn K (.ref f6)=true)
  (qa7:W.nsIn K mainGlobals "_law_two"=some (some (.ref f7))) (ql7:K.lookup f7=some ⟨oc7,od7,.func (W.fnOf "_law_two" "_law_two" (zK we) (zH we) (zj we) .none kV7 dc7 pm7 an7 cd7 ct7),sl7⟩) (qc7:W.codeIn K cd7 "_law_two"=true) (qk7:W.keepIn K (.ref f7)=true)
  (qa8:W.nsIn K mainGlobals "_law_worth"=some (some (.ref f8))) (ql8:K.lookup f8=some ⟨oc8,od8,.func (W.fnOf "_law_worth" "_law_worth" (zK xu) (zH xu) (zj xu) .none kV8 dc8 pm8 an8 cd8 ct8),sl8⟩) (qc8:W.codeIn K cd8 "_law_worth"=true) (qk8:W.keepIn K (.ref f8)=true)
  (qa9:W.nsIn K mainGlobals "_law_moved"=some (some (.ref f9))) (ql9:K.lookup f9=some ⟨oc9,od9,.func (W.fnOf "_law_moved" "_law_moved" (zK xv) (zH xv) (zj xv) .none kV9 dc9 pm9 an9 cd9 ct9),sl9⟩) (qc9:W.codeIn K cd9 "_law_moved"=true) (qk9:W.keepIn K (.ref f9)=true)
  (qa10:W.nsIn K mainGlobals "_law_walked"=some (some (.ref f10))) (ql10:K.lookup f10=some ⟨oc10,od10,.func (W.fnOf "_law_walked" "_law_walked" (zK xa) (zH xa) (zj xa) .none kV10 dc10 pm10 an10 cd10 ct10),sl10⟩) (qc10:W.codeIn K cd10 "_law_walked"=true) (qk10:W.keepIn K (.ref f10)=true)
  (qa11:W.nsIn K mainGlobals "_law_plain"=some (some (.ref f11))) (ql11:K.lookup f11=some ⟨oc11,od11,.func (W.fnOf "_law_plain" "_law_plain" (zK xw) (zH xw) (zj xw) .none kV11 dc11 pm11 an11 cd11 ct11),sl11⟩) (qc11:W.codeIn K cd11 "_law_plain"=true) (qk11:W.keepIn K (.ref f11)=true)
  (qa12:W.nsIn K mainGlobals "divided"=some (some (.ref f12))) (ql12:K.lookup f12=some ⟨oc12,od12,.func (W.fnOf "divided" "divided" (zK va) (zH va) (zj va) .none kV12 dc12 pm12 an12 cd12 ct12),sl12⟩) (qc12:W.codeIn K cd12 "divided"=true) (qk12:W.keepIn K (.ref f12)=true)
  (qa13:W.nsIn K mainGlobals "come_to"=some (some (.ref f13))) (ql13:K.lookup f13=some ⟨oc13,od13,.func (W.fnOf "come_to" "come_to" (zK vb) (zH vb) (zj vb) .none kV13 dc13 pm13 an13 cd13 ct13),sl13⟩) (qc13:W.codeIn K cd13 "come_to"=true) (qk13:W.keepIn K (.ref f13)=true)
  (qa14:W.nsIn K mainGlobals "is_worth"=some (some (.ref f14))) (ql14:K.lookup f14=some ⟨oc14,od14,.func (W.fnOf "is_worth" "is_worth" (zK wf) (zH wf) (zj wf) .none kV14 dc14 pm14 an14 cd14 ct14),sl14⟩) (qc14:W.codeIn K cd14 "is_worth"=true) (qk14:W.keepIn K (.ref f14)=true)
  (qa15:W.nsIn K mainGlobals "joined"=some (some (.ref f15))) (ql15:K.lookup f15=some ⟨oc15,od15,.func (W.fnOf "joined" "joined" (zK jb) (zH jb) (zj jb) .none kV15 dc15 pm15 an15 cd15 ct15),sl15⟩) (qc15:W.codeIn K cd15 "joined"=true) (qk15:W.keepIn K (.ref f15)=true)
  (qa16:W.nsIn K mainGlobals "reckoned"=some (some (.ref f16))) (ql16:K.lookup f16=some ⟨oc16,od16,.func (W.fnOf "reckoned" "reckoned" (zK wg) (zH wg) (zj wg) .none kV16 dc16 pm16 an16 cd16 ct16),sl16⟩) (qc16:W.codeIn K cd16 "reckoned"=true) (qk16:W.keepIn K (.ref f16)=true)
  (qa17:W.findIn K (.ref ca2) "worth_of"=some (some (.ref f17))) (qi17:W.isFn K (.ref f17)=true) (ql17:K.lookup f17=some ⟨oc17,od17,.func (W.fnOf "worth_of" "Run.worth_of" (zK yT) (zH yT) (zj yT) .none kV17 dc17 pm17 an17 cd17 ct17),sl17⟩) (qc17:W.codeIn K cd17 "Run.worth_of"=true) (qk17:W.keepIn K (.ref f17)=true)
  (qa18:W.findIn K (.ref ca2) "place_in"=some (some (.ref f18))) (qi18:W.isFn K (.ref f18)=true) (ql18:K.lookup f18=some ⟨oc18,od18,.func (W.fnOf "place_in" "Run.place_in" (zK yU) (zH yU) (zj yU) .none kV18 dc18 pm18 an18 cd18 ct18),sl18⟩) (qc18:W.codeIn K cd18 "Run.place_in"=true) (qk18:W.keepIn K (.ref f18)=true)
  (qa19:W.findIn K (.ref ca2) "asks"=some (some (.ref f19))) (qi19:W.isFn K (.ref f19)=true) (ql19:K.lookup f19=some ⟨oc19,od19,.func (W.fnOf "asks" "Run.asks" (zK wj) (zH wj) (zj wj) .none kV19 dc19 pm19 an19 cd19 ct19),sl19⟩) (qc19:W.codeIn K cd19 "Run.asks"=true) (qk19:W.keepIn K (.ref f19)=true)
  (qa20:W.nsIn K mainGlobals "_law_wanted"=some (some (.ref f20))) (ql20:K.lookup f20=some ⟨oc20,od20,.func (W.fnOf "_law_wanted" "_law_wanted" (zK xb) (zH xb) (zj xb) .none kV20 dc20 pm20 an20 cd20 ct20),sl20⟩) (qc20:W.codeIn K cd20 "_law_wanted"=true) (qk20:W.keepIn K (.ref f20)=true)
  (qa21:W.findIn K (.ref ca2) "taken"=some (some (.ref f21))) (qi21:W.isFn K (.ref f21)=true) (ql21:K.lookup f21=some ⟨oc21,od21,.func (W.fnOf "taken" "Run.taken" (zK xL) (zH xL) (zj xL) .none kV21 dc21 pm21 an21 cd21 ct21),sl21⟩) (qc21:W.codeIn K cd21 "Run.taken"=true) (qk21:W.keepIn K (.ref f21)=true)
  (qa22:W.findIn K (.ref ca2) "does"=some (some (.ref f22))) (qi22:W.isFn K (.ref f22)=true) (ql22:K.lookup f22=some ⟨oc22,od22,.func (W.fnOf "does" "Run.does" (zK wm) (zH wm) (zj wm) .none kV22 dc22 pm22 an22 cd22 ct22),sl22⟩) (qc22:W.codeIn K cd22 "Run.does"=true) (qk22:W.keepIn K (.ref f22)=true)
  (qa23:W.findIn K (.ref ca2) "led_by"=some (some (.ref f23))) (qi23:W.isFn K (.ref f23)=true) (ql23:K.lookup f23=some ⟨oc23,od23,.func (W.fnOf "led_by" "Run.led_by" (zK xx) (zH xx) (zj xx) .none kV23 dc23 pm23 an23 cd23 ct23),sl23⟩) (qc23:W.codeIn K cd23 "Run.led_by"=true) (qk23:W.keepIn K (.ref f23)=true)
  (qa24:W.findIn K (.ref ca2) "step"=some (some (.ref f24))) (qi24:W.isFn K (.ref f24)=true) (ql24:K.lookup f24=some ⟨oc24,od24,.func (W.fnOf "step" "Run.step" (zK wp) (zH wp) (zj wp) (.ref dA24) kV24 dc24 pm24 an24 cd24 ct24),sl24⟩) (qc24:W.codeIn K cd24 "Run.step"=true) (qk24:W.keepIn K (.ref f24)=true) (qd24:K.lookup dA24=some ⟨.type "tuple",none,.seq #[.int 0 dt24_0] dn24,#[]⟩)
  (qa25:W.nsIn K mainGlobals "_law_due"=some (some (.ref f25))) (ql25:K.lookup f25=some ⟨oc25,od25,.func (W.fnOf "_law_due" "_law_due" (zK wq) (zH wq) (zj wq) .none kV25 dc25 pm25 an25 cd25 ct25),sl25⟩) (qc25:W.codeIn K cd25 "_law_due"=true) (qk25:W.keepIn K (.ref f25)=true)
  (qa26:W.nsIn K mainGlobals "_law_run"=some (some (.ref f26))) (ql26:K.lookup f26=some ⟨oc26,od26,.func (W.fnOf "_law_run" "_law_run" (zK wr) (zH wr) (zj wr) .none kV26 dc26 pm26 an26 cd26 ct26),sl26⟩) (qc26:W.codeIn K cd26 "_law_run"=true) (qk26:W.keepIn K (.ref f26)=true)
  (qa27:W.nsIn K mainGlobals "block_steps"=some (some (.ref f27))) (ql27:K.lookup f27=some ⟨oc27,od27,.func (W.fnOf "block_steps" "block_steps" (zK xc) (zH xc) (zj xc) .none kV27 dc27 pm27 an27 cd27 ct27),sl27⟩) (qc27:W.codeIn K cd27 "block_steps"=true) (qk27:W.keepIn K (.ref f27)=true)
  (qa28:W.nsIn K mainGlobals "steps_of"=some (some (.ref f28))) (ql28:K.lookup f28=some ⟨oc28,od28,.func (W.fnOf "steps_of" "steps_of" (zK wt) (zH wt) (zj wt) .none kV28 dc28 pm28 an28 cd28 ct28),sl28⟩) (qc28:W.codeIn K cd28 "steps_of"=true) (qk28:W.keepIn K (.ref f28)=true)
  (qa29:W.nsIn K mainGlobals "code_of"=some (some (.ref f29))) (ql29:K.lookup f29=some ⟨oc29,od29,.func (W.fnOf "code_of" "code_of" (zK vc) (zH vc) (zj vc) .none kV29 dc29 pm29 an29 cd29 ct29),sl29⟩) (qc29:W.codeIn K cd29 "code_of"=true) (qk29:W.keepIn K (.ref f29)=true)
  (qa30:W.nsIn K mainGlobals "_law_closed"=some (some (.ref f30))) (ql30:K.lookup f30=some ⟨oc30,od30,.func (W.fnOf "_law_closed" "_law_closed" (zK xg) (zH xg) (zj xg) .none kV30 dc30 pm30 an30 cd30 ct30),sl30⟩) (qc30:W.codeIn K cd30 "_law_closed"=true) (qk30:W.keepIn K (.ref f30)=true)
  (qa31:W.nsIn K mainGlobals "_law_part"=some (some (.ref f31))) (ql31:K.lookup f31=some ⟨oc31,od31,.func (W.fnOf "_law_part" "_law_part" (zK xM) (zH xM) (zj xM) .none kV31 dc31 pm31 an31 cd31 ct31),sl31⟩) (qc31:W.codeIn K cd31 "_law_part"=true) (qk31:W.keepIn K (.ref f31)=true)
  (qa32:W.nsIn K mainGlobals "_law_term"=some (some (.ref f32))) (ql32:K.lookup f32=some ⟨oc32,od32,.func (W.fnOf "_law_term" "_law_term" (zK xN) (zH xN) (zj xN) .none kV32 dc32 pm32 an32 cd32 ct32),sl32⟩) (qc32:W.codeIn K cd32 "_law_term"=true) (qk32:W.keepIn K (.ref f32)=true)
  (qa33:W.nsIn K mainGlobals "_law_spot"=some (some (.ref f33))) (ql33:K.lookup f33=some ⟨oc33,od33,.func (W.fnOf "_law_spot" "_law_spot" (zK xO) (zH xO) (zj xO) .none kV33 dc33 pm33 an33 cd33 ct33),sl33⟩) (qc33:W.codeIn K cd33 "_law_spot"=true) (qk33:W.keepIn K (.ref f33)=true)
  (qa34:W.nsIn K mainGlobals "_law_row"=some (some (.ref f34))) (ql34:K.lookup f34=some ⟨oc34,od34,.func (W.fnOf "_law_row" "_law_row" (zK wu) (zH wu) (zj wu) .none kV34 dc34 pm34 an34 cd34 ct34),sl34⟩) (qc34:W.codeIn K cd34 "_law_row"=true) (qk34:W.keepIn K (.ref f34)=true)
  (qa35:W.nsIn K mainGlobals "_law_rows"=some (some (.ref f35))) (ql35:K.lookup f35=some ⟨oc35,od35,.func (W.fnOf "_law_rows" "_law_rows" (zK xP) (zH xP) (zj xP) .none kV35 dc35 pm35 an35 cd35 ct35),sl35⟩) (qc35:W.codeIn K cd35 "_law_rows"=true) (qk35:W.keepIn K (.ref f35)=true)
  (qa36:W.nsIn K mainGlobals "law"=some (some (.ref f36))) (ql36:K.lookup f36=some ⟨oc36,od36,.func (W.fnOf "law" "law" (zK Xt) (zH Xt) (zj Xt) .none kV36 dc36 pm36 an36 cd36 ct36),sl36⟩) (qc36:W.codeIn K cd36 "law"=true) (qk36:W.keepIn K (.ref f36)=true)
  (qz0:W.nsIn K mainGlobals "bool"=some none)
  (qz1:W.nsIn K mainGlobals "int"=some none)
  (qz2:W.nsIn K mainGlobals "isinstance"=some none)
  (qz3:W.nsIn K mainGlobals "len"=some none)
  (qz4:W.nsIn K mainGlobals "list"=some none)
  (qz5:W.nsIn K mainGlobals "range"=some none)
  (qz6:W.nsIn K mainGlobals "sorted"=some none)
  (qz7:W.nsIn K mainGlobals "str"=some none)
  (qz8:W.nsIn K mainGlobals "tuple"=some none)
  (qg0:W.nsIn K mainGlobals "JOINING"=some (some (.ref ga0))) (qh0:K.lookup ga0=some ⟨.type "tuple",none,.seq #[.str "plus" gt0_0,.str "minus" gt0_1,.str "times" gt0_2,.str "over" gt0_3,.str "rest" gt0_4,.str "under" gt0_5,.str "same" gt0_6] gn0,#[]⟩)
  (qv0:W.nsIn K mainGlobals "Great"=some (some (.ref ca0)))
  (qv1:W.nsIn K mainGlobals "Nought"=some (some (.ref ca1)))
  (qv2:W.nsIn K mainGlobals "Run"=some (some (.ref ca2)))
  (pg2:W.plainGet K ca2 Str.empty=true) (pd2:W.hasDictIn K ca2=true) (po2:W.plainOver K ca2=true) (pe2:W.findIn K (.ref ca2) "__setattr__"=some (some (.builtin "object.__setattr__"))) (pm2_:W.makesIn K ca2=true) (pk2:W.keepIn K (.ref ca2)=true)
  (pn2_0:W.findIn K (.ref ca2) "at"=some none)
  (pn2_1:W.findIn K (.ref ca2) "code"=some none)
  (pn2_2:W.findIn K (.ref ca2) "gifts"=some none)
  (pn2_3:W.findIn K (.ref ca2) "notes"=some none)
  (pn2_4:W.findIn K (.ref ca2) "sayings"=some none)
  (pn2_5:W.findIn K (.ref ca2) "slots"=some none)
  (pn2_6:W.findIn K (.ref ca2) "why"=some none)
  (rx0:W.excIn K ca1 WE Za=true)
  (ry0_0:W.findIn K (.ref ca1) "__getattribute__"=some (some (.builtin "BaseException.__getattribute__")))
  (ry0_1:W.findIn K (.ref ca1) "__getattr__"=some none)
  (ry0_2:W.findIn K (.ref ca1) "__class__"=some (some (.builtin "object.__class__")))
  (ry0_3:W.mroIn K ca1 (.type "object")=some true)
  (ry0_4:W.mroIn K ca1 (.type "BaseException")=some true)
  (ry0_5:W.specialIn K (.builtin "object.__class__") "__get__"=some (some (.builtin "getset_descriptor.__get__")))
  (ry0_6:W.takesIn K (.builtin "object.__class__")=some true)
  (ry0_7:W.clsIn K ca1=some cl0)
  (re0_0:W.exmOne K (.ref ca1) (.ref ca0)=some false)
  (re0_1:W.exmOne K (.ref ca1) (.ref ca1)=some true)
  (rm0_0:W.exmAny K (.ref ca1) [(.ref ca0),(.ref ca1)]=some true)
  (rx1:W.excIn K ca0 WE Za=true)
  (ry1_0:W.findIn K (.ref ca0) "__getattribute__"=some (some (.builtin "BaseException.__getattribute__")))
  (ry1_1:W.findIn K (.ref ca0) "__getattr__"=some none)
  (ry1_2:W.findIn K (.ref ca0) "__class__"=some (some (.builtin "object.__class__")))
  (ry1_3:W.mroIn K ca0 (.type "object")=some true)
  (ry1_4:W.mroIn K ca0 (.type "BaseException")=some true)
  (ry1_5:W.specialIn K (.builtin "object.__class__") "__get__"=some (some (.builtin "getset_descriptor.__get__")))
  (ry1_6:W.takesIn K (.builtin "object.__class__")=some true)
  (ry1_7:W.clsIn K ca0=some cl1)
  (re1_0:W.exmOne K (.ref ca0) (.ref ca0)=some true)
  (re1_1:W.exmOne K (.ref ca0) (.ref ca1)=some false)
  (rm1_0:W.exmAny K (.ref ca0) [(.ref ca0),(.ref ca1)]=some true):∃ t,Txt K mg t:=by
 have F0:=z7 (st:=xJ) ql0 qc0 qk0
 have F1:=z7 (st:=yZ) ql1 qc1 qk1
 have F2:=z7 (st:=yS) ql2 qc2 qk2
 have F3:=z7 (st:=wc) ql3 qc3 qk3
 have F4:=z7 (st:=wd) ql4 qc4 qk4
 have F5:=z7 (st:=xK) ql5 qc5 qk5
 have F6:=z7 (st:=y9) ql6 qc6 qk6
 have F7:=z7 (st:=we) ql7 qc7 qk7
 have F8:=z7 (st:=xu) ql8 qc8 qk8
 have F9:=z7 (st:=xv) ql9 qc9 qk9
 have F10:=z7 (st:=xa) ql10 qc10 qk10
 have F11:=z7 (st:=xw) ql11 qc11 qk11
 have F12:=z7 (st:=va) ql12 qc12 qk12
 have F13:=z7 (st:=vb) ql13 qc13 qk13
 have F14:=z7 (st:=wf) ql14 qc14 qk14
 have F15:=z7 (st:=jb) ql15 qc15 qk15
 have F16:=z7 (st:=wg) ql16 qc16 qk16
 have F17:=z7 (st:=yT) ql17 qc17 qk17
 have F18:=z7 (st:=yU) ql18 qc18 qk18
 have F19:=z7 (st:=wj) ql19 qc19 qk19
 have F20:=z7 (st:=xb) ql20 qc20 qk20
 have F21:=z7 (st:=xL) ql21 qc21 qk21
 have F22:=z7 (st:=wm) ql22 qc22 qk22
 have F23:=z7 (st:=xx) ql23 qc23 qk23
 have F24:=zas (st:=wp) ql24 qc24 qk24
 have F25:=z7 (st:=wq) ql25 qc25 qk25
 have F26:=z7 (st:=wr) ql26 qc26 qk26
 have F27:=z7 (st:=xc) ql27 qc27 qk27
 have F28:=z7 (st:=wt) ql28 qc28 qk28
 have F29:=z7 (st:=vc) ql29 qc29 qk29
 have F30:=z7 (st:=xg) ql30 qc30 qk30
 have F31:=z7 (st:=xM) ql31 qc31 qk31
 have F32:=z7 (st:=xN) ql32 qc32 qk32
 have F33:=z7 (st:=xO) ql33 qc33 qk33
 have F34:=z7 (st:=wu) ql34 qc34 qk34
 have F35:=z7 (st:=xP) ql35 qc35 qk35
 have F36:=z7 (st:=Xt) ql36 qc36 qk36
 exact ⟨⟨f0,_,f1,_,f2,_,f3,_,f4,_,f5,_,f6,_,f7,_,f8,_,f9,_,f10,_,f11,_,f12,_,f13,_,f14,_,f15,_,f16,_,f17,_,f18,_,f19,_,f20,_,f21,_,f22,_,f23,_,f24,_,f25,_,f26,_,f27,_,f28,_,f29,_,f30,_,f31,_,f32,_,f33,_,f34,_,f35,_,f36,_,ga0,ca0,ca1,ca2⟩,⟨F0,F0.binds (ps:=["cell","j"]) (fun _ _ _ _ _ _ us hl=>match us,hl with | [_,_],_=>rfl),W.mg_of X G qa0,
  F1,F1.binds (ps:=["cell","many"]) (fun _ _ _ _ _ _ us hl=>match us,hl with | [_,_],_=>rfl),W.mg_of X G qa1,
  F2,F2.binds (ps:=["script","k"]) (fun _ _ _ _ _ _ us hl=>match us,hl with | [_,_],_=>rfl),W.mg_of X G qa2,
  F3,F3.binds (ps:=["self","code"]) (fun _ _ _ _ _ _ us hl=>match us,hl with | [_,_],_=>rfl),
  F4,F4.binds (ps:=["self"]) (fun _ _ _ _ _ _ us hl=>match us,hl with | [_],_=>rfl),⟨qa4,qi4,qk4⟩,
  F5,F5.binds (ps:=["self"]) (fun _ _ _ _ _ _ us hl=>match us,hl with | [_],_=>rfl),⟨qa5,qi5,qk5⟩,
  F6,F6.binds (ps:=["cell","j"]) (fun _ _ _ _ _ _ us hl=>match us,hl with | [_,_],_=>rfl),W.mg_of X G qa6,
  F7,F7.binds (ps:=["one","other","word"]) (fun _ _ _ _ _ _ us hl=>match us,hl with | [_,_,_],_=>rfl),W.mg_of X G qa7,
  F8,F8.binds (ps:=["term","slots"]) (fun _ _ _ _ _ _ us hl=>match us,hl with | [_,_],_=>rfl),W.mg_of X G qa8,
  F9,F9.binds (ps:=["step","first","second","state","answer"]) (fun _ _ _ _ _ _ us hl=>match us,hl with | [_,_,_,_,_],_=>rfl),W.mg_of X G qa9,
  F10,F10.binds (ps:=["step","state","answer"]) (fun _ _ _ _ _ _ us hl=>match us,hl with | [_,_,_],_=>rfl),W.mg_of X G qa10,
  F11,F11.binds (ps:=["found"]) (fun _ _ _ _ _ _ us hl=>match us,hl with | [_],_=>rfl),W.mg_of X G qa11,
  F12,F12.binds (ps:=["word","first","second"]) (fun _ _ _ _ _ _ us hl=>match us,hl with | [_,_,_],_=>rfl),W.mg_of X G qa12,
  F13,F13.binds (ps:=["word","first","second"]) (fun _ _ _ _ _ _ us hl=>match us,hl with | [_,_,_],_=>rfl),W.mg_of X G qa13,
  F14,F14.binds (ps:=["thing"]) (fun _ _ _ _ _ _ us hl=>match us,hl with | [_],_=>rfl),W.mg_of X G qa14,
  F15,F15.binds (ps:=["word","first","second"]) (fun _ _ _ _ _ _ us hl=>match us,hl with | [_,_,_],_=>rfl),W.mg_of X G qa15,
  F16,F16.binds (ps:=["term","slots"]) (fun _ _ _ _ _ _ us hl=>match us,hl with | [_,_],_=>rfl),W.mg_of X G qa16,
  F17,F17.binds (ps:=["self","term"]) (fun _ _ _ _ _ _ us hl=>match us,hl with | [_,_],_=>rfl),⟨qa17,qi17,qk17⟩,
  F18,F18.binds (ps:=["self","due"]) (fun _ _ _ _ _ _ us hl=>match us,hl with | [_,_],_=>rfl),⟨qa18,qi18,qk18⟩,
  F19,F19.binds (ps:=["self"]) (fun _ _ _ _ _ _ us hl=>match us,hl with | [_],_=>rfl),⟨qa19,qi19,qk19⟩,
  F20,F20.binds (ps:=["step","state"]) (fun _ _ _ _ _ _ us hl=>match us,hl with | [_,_],_=>rfl),W.mg_of X G qa20,
  F21,F21.binds (ps:=["self","place","worth"]) (fun _ _ _ _ _ _ us hl=>match us,hl with | [_,_,_],_=>rfl),⟨qa21,qi21,qk21⟩,
  F22,F22.binds (ps:=["self","due","worth"]) (fun _ _ _ _ _ _ us hl=>match us,hl with | [_,_,_],_=>rfl),⟨qa22,qi22,qk22⟩,
  F23,F23.binds (ps:=["self","due","worth"]) (fun _ _ _ _ _ _ us hl=>match us,hl with | [_,_,_],_=>rfl),⟨qa23,qi23,qk23⟩,
  F24,(fun s us hK hl=>match us,(show us.length=2 by simpa using hl) with | [_,_],_=>.of_defaults (T:=dA24) rfl (hK _ _ qd24) rfl rfl rfl),⟨qa24,qi24,qk24⟩,
  F25,F25.binds (ps:=["state"]) (fun _ _ _ _ _ _ us hl=>match us,hl with | [_],_=>rfl),W.mg_of X G qa25,
  F26,F26.binds (ps:=["code","cells"]) (fun _ _ _ _ _ _ us hl=>match us,hl with | [_,_],_=>rfl),W.mg_of X G qa26,
  F27,F27.binds (ps:=["row","at"]) (fun _ _ _ _ _ _ us hl=>match us,hl with | [_,_],_=>rfl),W.mg_of X G qa27,
  F28,F28.binds (ps:=["rows","first"]) (fun _ _ _ _ _ _ us hl=>match us,hl with | [_,_],_=>rfl),W.mg_of X G qa28,
  F29,F29.binds (ps:=["rows"]) (fun _ _ _ _ _ _ us hl=>match us,hl with | [_],_=>rfl),W.mg_of X G qa29,
  F30,F30.binds (ps:=["frames"]) (fun _ _ _ _ _ _ us hl=>match us,hl with | [_],_=>rfl),W.mg_of X G qa30,
  F31,F31.binds (ps:=["cell","j","slots"]) (fun _ _ _ _ _ _ us hl=>match us,hl with | [_,_,_],_=>rfl),W.mg_of X G qa31,
  F32,F32.binds (ps:=["cell","j","slots"]) (fun _ _ _ _ _ _ us hl=>match us,hl with | [_,_,_],_=>rfl),W.mg_of X G qa32,
  F33,F33.binds (ps:=["cell","j","slots"]) (fun _ _ _ _ _ _ us hl=>match us,hl with | [_,_,_],_=>rfl),W.mg_of X G qa33,
  F34,F34.binds (ps:=["cell","slots","shelves"]) (fun _ _ _ _ _ _ us hl=>match us,hl with | [_,_,_],_=>rfl),W.mg_of X G qa34,
  F35,F35.binds (ps:=["cells","slots","shelves"]) (fun _ _ _ _ _ _ us hl=>match us,hl with | [_,_,_],_=>rfl),W.mg_of X G qa35,
  F36,F36.binds (ps:=["script"]) (fun _ _ _ _ _ _ us hl=>match us,hl with | [_],_=>rfl),W.mg_of X G qa36,
  fun s v=>.of_eq rfl,
  W.mg_none_of X G qz0,
  W.mg_none_of X G qz1,
  W.mg_none_of X G qz2,
  W.mg_none_of X G qz3,
  W.mg_none_of X G qz4,
  W.mg_none_of X G qz5,
  W.mg_none_of X G qz6,
  W.mg_none_of X G qz7,
  W.mg_none_of X G qz8,
  W.mg_of X G qg0,fun _=>.inr ⟨_,_,_,qh0,rfl,rfl,(by show 7≤sizeLine;decide),(.cons ⟨_,rfl⟩ (.cons ⟨_,rfl⟩ (.cons ⟨_,rfl⟩ (.cons ⟨_,rfl⟩ (.cons ⟨_,rfl⟩ (.cons ⟨_,rfl⟩ (.cons ⟨_,rfl⟩ .nil)))))))⟩,
  W.mg_of X G qv0,
  W.mg_of X G qv1,
  W.mg_of X G qv2,
  ⟨pg2,pd2,po2,pe2⟩,
  ⟨pm2_,qa3,qi3,pk2⟩,
  pn2_0,
  pn2_1,
  pn2_2,
  pn2_3,
  pn2_4,
  pn2_5,
  pn2_6,
  rx0,
  ⟨⟨ry0_0,ry0_1,ry0_2,ry0_3,ry0_4,ry0_5,ry0_6⟩,by rw [ry0_7];rfl⟩,
  re0_0,
  re0_1,
  rm0_0,
  rx1,
  ⟨⟨ry1_0,ry1_1,ry1_2,ry1_3,ry1_4,ry1_5,ry1_6⟩,by rw [ry1_7];rfl⟩,
  re1_0,
  re1_1,
  rm1_0⟩⟩
structure KF (K:W.Frag):Prop where
 i_b:W.kitOne K (.type "int") (.type "bool")=some false
 i_s:W.kitOne K (.type "int") (.type "str")=some false
 s_i:W.kitOne K (.type "str") (.type "int")=some false
 s_b:W.kitOne K (.type "str") (.type "bool")=some false
 a1:W.kitAny K (.type "tuple") [.type "list",.type "tuple"]=some true
 a2:W.kitAny K (.type "list") [.type "list",.type "tuple"]=some true
 a3:W.kitAny K (.type "int") [.type "list",.type "tuple"]=some false
 a4:W.kitAny K (.type "str") [.type "list",.type "tuple"]=some false
 a5:W.kitAny K (.type "int") [.type "int",.type "str"]=some true
 a6:W.kitAny K (.type "str") [.type "int",.type "str"]=some true
def fin (t:Adr) (r:Except Er Int) (Q:VK) (E:XK) (H:Hp):Prop:=match r with
 | .ok i=>Q (.int i) H
 | .error .nought=>E (.ref t.c_Nought) none H
 | .error .great=>E (.ref t.c_Great) none H
 | .error .stuck=>True
def V1 (t:Adr) (e:Er) (E:XK) (H:Hp):Prop:=match e with
 | .nought=>E (.ref t.c_Nought) none H
 | .great=>E (.ref t.c_Great) none H
 | .stuck=>True
def zav (K:W.Frag):Prop:=W.kitOne K (.type "int") (.type "bool")=some false
def NamesAt (H:Hp) (nm:Addr) (ws:List Str):Prop:=H nm=some (.lst (ws.map V.str))∧∀ w∈ws,xz w=true
def jT:Rw→Prop
 | .off _=>False
 | .iff _ _ _=>False
 | _=>True
def jU:Sp:=fun vs H Q _=>∃ i,vs=[.int i]∧∀ H',Same H H'→Q (.bl (inW i)) H'
def qe (t:Adr):Sp:=fun vs H Q E=>∃ w a b,vs=[.str w,.int a,.int b]∧w.length≤1000∧inW a=true∧inW b=true∧∀ H',Same H H'→if b=0 then E (.ref t.c_Nought) none H' else Q (.int (if w="over" then a.fdiv b else a.fmod b)) H'
def qf (t:Adr):Sp:=fun vs H Q E=>∃ w a b,vs=[.str w,.int a,.int b]∧w.length≤1000∧inW a=true∧inW b=true∧∀ H',Same H H'→if kM w∧b=0 then E (.ref t.c_Nought) none H' else Q (.int (yE w a b)) H'
def Zg (t:Adr):Sp:=fun vs H Q E=>∃ w a b,vs=[.str w,.int a,.int b]∧w.length≤1000∧inW a=true∧inW b=true∧∀ H',Same H H'→fin t (yM w a b) Q E H'
def jV (t:Adr):Sp:=fun vs H Q E=>∃ kvs tm sl ps r,vs=[.ref tm,.ref sl]∧H tm=some (.tup ps)∧H sl=some (.dK kvs)∧Good kvs ps r∧(∀ v∈ps,jj v)∧ps.length≤1000∧yt kvs∧∀ H',Same H H'→fin t r Q E H'
inductive Cs where
 | row (r:Rw)
 | skip (e:List V) (to:Nat)
 | go (en:Nat)
def Rws.isNil:Rws→Bool
 | .nil=>true
 | .cons _ _=>false
def blk (e:List V) (k:Nat) (A:List Cs) (nl:Bool) (B:List Cs):List Cs :=
 if nl=true then .skip e (k + 1 + A.length) :: A else .skip e (k + 2 + A.length) :: (A ++ (.go (k + 2 + A.length + B.length) :: B))
mutual
def xk:Rw→Nat→List Cs
 | .iff e a b,k=>blk e k (zD a (k + 1)) (Rws.isNil b) (zD b (k + 2 + (zD a (k + 1)).length))
 | r,_=>[.row r]
def zD:Rws→Nat→List Cs
 | .nil,_=>[]
 | .cons r rs,k=>xk r k ++ zD rs (k + (xk r k).length)
end
def W2:Rw→Prop
 | .iff _ _ _=>False
 | _=>True
def CsAt (H:Hp) (v:V):Cs→Prop
 | .row r=>RwAt Yw H v r∧W2 r
 | .skip e to=>∃ p te,v=.ref p∧H p=some (.tup [.str "skip",.ref te,.int (to:Nat)])∧H te=some (.tup e)
 | .go en=>∃ p,v=.ref p∧H p=some (.tup [.str "go",.int (en:Nat)])
structure qJ (n:Nat) (r:Rws):Prop where
 dp:r.deep < n
 ct:r.cnt≤500
 pl:xA r
def vj (n:Nat):Sp:=fun vs H Q _=>∃ (v:V) (e:List V) (a b:Rws) (k:Nat),vs=[v,.int k]∧RwAt Yw H v (.iff e a b)∧qJ n a∧qJ n b∧k + (xk (.iff e a b) k).length≤500∧∀ l xs H',Same H H'→H' l=some (.lst xs)→Paired (CsAt H') xs (xk (.iff e a b) k)→Q (.ref l) H'
def yY (n:Nat):Sp:=fun vs H Q _=>∃ (v:V) (r:Rws) (k:Nat),vs=[v,.int k]∧RlAt Yw H v r∧qJ n r∧k + (zD r k).length≤500∧∀ l xs H',Same H H'→H l=none→H' l=some (.lst xs)→Paired (CsAt H') xs (zD r k)→Q (.ref l) H'
def qg:Sp:=fun vs H Q _=>∃ (v:V) (r:Rws),vs=[v]∧RlAt Yw H v r∧qJ 6 r∧(zD r 0).length≤500∧∀ l xs H',Same H H'→H l=none→H' l=some (.lst xs)→Paired (CsAt H') xs (zD r 0)→Q (.ref l) H'
structure RSt where
 n:Nat
 why:Option Str
 sl:List (Key × V)
 gi:List Row
 no:List Row
 sa:List Int
structure RAd where
 dx:Addr
 co:Addr
 sl:Addr
 gi:Addr
 no:Addr
 sa:Addr
def zbV:Option Str→V
 | none=>.non
 | some w=>.str w
def zbW (a:RAd) (s:RSt):List (Str × V):=[(Str.ofString "code",.ref a.co),(Str.ofString "at",.int s.n),(Str.ofString "why",zbV s.why),(Str.ofString "slots",.ref a.sl),(Str.ofString "gifts",.ref a.gi),(Str.ofString "notes",.ref a.no),(Str.ofString "sayings",.ref a.sa)]
structure RnAt (t:Adr) (H:Hp) (x:Addr) (a:RAd) (C:List Cs) (s:RSt):Prop where
 ix:H x=some (.ins t.c_Run a.dx (zbW a s))
 hc:∃ xs,H a.co=some (.lst xs)∧Paired (CsAt H) xs C
 hs:H a.sl=some (.dK s.sl)
 hg:H a.gi=some (.dT (dOf s.gi))
 hn:H a.no=some (.dT (dOf s.no))
 ha:H a.sa=some (.lst (s.sa.map V.int))
 ng:a.gi≠a.no
 nc:a.co≠a.sa
def Ow (x:Addr) (a:RAd) (b:Addr):Prop:=b=x∨b=a.sl∨b=a.gi∨b=a.no∨b=a.sa
def OwA (x:Addr) (a:RAd) (b:Addr):Prop:=Ow x a b∨b=a.co
def Kp (x:Addr) (a:RAd) (H H':Hp):Prop:=∀ b o,¬ Ow x a b→H b=some o→H' b=some o
def Zu (x:Addr) (H H':Hp):Prop:=∀ b o,b≠x→H b=some o→H' b=some o
structure RnOk (m:Nat) (s:RSt):Prop where
 so:yt s.sl
 gw:∀ r∈s.gi,inW r.2=true
 nw:∀ r∈s.no,inW r.2=true
 l1:s.sl.length≤m
 l2:s.gi.length≤m
 l3:s.no.length≤m
 l4:s.sa.length≤m
 nd:(s.no.map (·.1)).Nodup
def jW:Cs→Prop
 | .row r=>vN r
 | .skip e _=>TermOk e
 | .go _=>True
def yy (C:List Cs) (s:RSt):Bool:=s.why.isSome || decide (C.length≤s.n)
def yV (p:Pl) (w:Int) (s:RSt):RSt:=if (zI s.gi p).isSome=true∨(zI s.no p).isSome=true then s else { s with no:=s.no ++ [(p,w)] }
def xG (p:Pl) (w:Int) (s:RSt):Int:=(zI s.gi p).getD ((zI s.no p).getD w)
def doR:Rw→Int→RSt→Except Er RSt
 | .take sh e x,w,s=>match rk s.sl e with
  | .error er=>.error er
  | .ok n=>.ok { yV (sh,n) w s with sl:=yJ s.sl (.inr x) (.int (xG (sh,n) w s)) }
 | .give sh e f,_,s=>match rk s.sl e with
  | .error er=>.error er
  | .ok n=>match rk s.sl f with
   | .error er=>.error er
   | .ok i=>.ok { s with gi:=s.gi ++ [((sh,n),i)] }
 | .lt x e,_,s=>match rk s.sl e with
  | .error er=>.error er
  | .ok i=>.ok { s with sl:=yJ s.sl (.inr x) (.int i) }
 | .say e,_,s=>match rk s.sl e with
  | .error er=>.error er
  | .ok i=>.ok { s with sa:=s.sa ++ [i] }
 | _,_,s=>.ok s
def yX:Cs→Int→RSt→Except Er (Nat × RSt)
 | .go k,_,s=>.ok (k,s)
 | .skip e to,_,s=>match rk s.sl e with
  | .error er=>.error er
  | .ok i=>.ok (if i=0 then to else s.n + 1,s)
 | .row (.off e),_,s=>match rk s.sl e with
  | .error er=>.error er
  | .ok i=>.ok (s.n + 1,if i=0 then s else { s with why:=some (Str.ofString "told") })
 | .row r,w,s=>match doR r w s with
  | .error er=>.error er
  | .ok s'=>.ok (s.n + 1,s')
def z0 (c:Cs) (w:Int) (s:RSt):RSt:=match yX c w s with
 | .ok (k,s')=>{ s' with n:=k }
 | .error er=>{ s with why:=some (jB er) }
def vh (C:List Cs) (w:Int) (s:RSt):RSt:=if yy C s=true then s else match C[s.n]? with
 | none=>s
 | some c=>z0 c w s
def wJ (c:Cs) (s:RSt):Option Pl:=match c with
 | .row (.take sh e _)=>match rk s.sl e with
  | .error _=>none
  | .ok n=>if (zI s.gi (sh,n)).isSome=true∨(zI s.no (sh,n)).isSome=true then none else some (sh,n)
 | _=>none
def jX (C:List Cs) (s:RSt):Option Pl:=if yy C s=true then none else (C[s.n]?).bind fun c=>wJ c s
def kD (H:Hp) (a:Addr) (rows:List Row):Prop:=∃ xs,H a=some (.lst xs)∧Paired (kC H) xs rows
def X6 (H:Hp) (v:V):Oc→Prop
 | .done sa=>∃ o y,v=.ref o∧H o=some (.tup [.str "done",.ref y])∧H y=some (.tup (sa.map V.int))
 | .off w=>∃ o,v=.ref o∧H o=some (.tup [.str "off",.str w])
def qh (s:RSt):Oc:=match s.why with
 | some w=>.off w
 | none=>.done s.sa
def Zh (s:RSt) (out:List Row):Prop:=match s.why with
 | some _=>out=[]
 | none=>qc out∧∀ p w,(p,w)∈out↔zI s.gi p=some w
structure RnF (K:W.Frag) (t:Adr):Prop where
 cl:Cls K t.c_Run
 n1:NoAttr K t.c_Run "code"
 n2:NoAttr K t.c_Run "at"
 n3:NoAttr K t.c_Run "why"
 n4:NoAttr K t.c_Run "slots"
 n5:NoAttr K t.c_Run "gifts"
 n6:NoAttr K t.c_Run "notes"
 n7:NoAttr K t.c_Run "sayings"
def st0:RSt:=⟨0,none,[],[],[],[]⟩
def jY (t:Adr):Sp:=fun vs H Q _=>∃ (x l dx:Addr) (xs:List V) (C:List Cs),vs=[.ref x,.ref l]∧H x=some (.ins t.c_Run dx [])∧H l=some (.lst xs)∧Paired (CsAt H) xs C∧∀ H' a,Zu x H H'→RnAt t H' x a C st0→(∀ b,OwA x a b→b=x∨H b=none)→Q .non H'
def yq (t:Adr):Sp:=fun vs H Q _=>∃ (x:Addr) (a:RAd) (C:List Cs) (s:RSt),vs=[.ref x]∧RnAt t H x a C s∧∀ H',Same H H'→Q (.bl (yy C s)) H'
def zN (t:Adr):Sp:=fun vs H Q E=>∃ (x tm:Addr) (e:List V) (a:RAd) (C:List Cs) (s:RSt),vs=[.ref x,.ref tm]∧RnAt t H x a C s∧yt s.sl∧H tm=some (.tup e)∧TermOk e∧∀ H',Same H H'→fin t (rk s.sl e) Q E H'
def z9 (t:Adr):Sp:=fun vs H Q E=>∃ (x p:Addr) (xs:List V) (sh:Str) (te:Addr) (e:List V) (a:RAd) (C:List Cs) (s:RSt),vs=[.ref x,.ref p]∧RnAt t H x a C s∧yt s.sl∧H p=some (.tup xs)∧atI xs 1=some (.str sh)∧atI xs 2=some (.ref te)∧H te=some (.tup e)∧TermOk e ∧
 (∀ i q H',rk s.sl e=.ok i→Same H H'→H' q=some (.tup [.str sh,.int i])→Q (.ref q) H')∧∀ er H',rk s.sl e=.error er→Same H H'→V1 t er E H'
def xy (t:Adr):Sp:=fun vs H Q _=>∃ (x q:Addr) (p:Pl) (w:Int) (a:RAd) (C:List Cs) (s:RSt),vs=[.ref x,.ref q,.int w]∧RnAt t H x a C s∧H q=some (.tup [.str p.1,.int p.2])∧s.no.length≤900∧∀ H',Kp x a H H'→RnAt t H' x a C (yV p w s)→Q (.int (xG p w s)) H'
def xQ (t:Adr):Sp:=fun vs H Q E=>∃ (x:Addr) (v:V) (r:Rw) (w:Int) (m:Nat) (a:RAd) (C:List Cs) (s:RSt),vs=[.ref x,v,.int w]∧RnAt t H x a C s∧RwAt Yw H v r∧jT r∧vN r∧RnOk m s∧m≤900 ∧
 (∀ H' s',doR r w s=.ok s'→Kp x a H H'→RnAt t H' x a C s'→Q .non H')∧∀ H' er,doR r w s=.error er→Same H H'→V1 t er E H'
def vO (t:Adr):Sp:=fun vs H Q E=>∃ (x:Addr) (v:V) (c:Cs) (w:Int) (m:Nat) (a:RAd) (C:List Cs) (s:RSt),vs=[.ref x,v,.int w]∧RnAt t H x a C s∧CsAt H v c∧jW c∧RnOk m s∧m≤900 ∧
 (∀ H' s' k,yX c w s=.ok (k,s')→Kp x a H H'→RnAt t H' x a C s'→Q (.int (k:Nat)) H')∧∀ H' er,yX c w s=.error er→Same H H'→V1 t er E H'
def jZ (t:Adr):Sp:=fun vs H Q _=>∃ (x:Addr) (w:Int) (m:Nat) (a:RAd) (C:List Cs) (s:RSt),vs=[.ref x,.int w]∧RnAt t H x a C s∧(∀ c∈C,jW c)∧RnOk m s∧m≤900∧∀ H',Kp x a H H'→RnAt t H' x a C (vh C w s)→Q .non H'
def wK (t:Adr):Sp:=fun vs H Q _=>∃ (x:Addr) (a:RAd) (C:List Cs) (s:RSt),vs=[.ref x]∧RnAt t H x a C s∧(∀ c∈C,jW c)∧yt s.sl∧(∀ H',jX C s=none→Same H H'→Q .non H')∧∀ p q H',jX C s=some p→Same H H'→H' q=some (.tup [.str p.1,.int p.2])→Q (.ref q) H'
def xX (t:Adr):Sp:=fun vs H Q _=>∃ (x:Addr) (a:RAd) (C:List Cs) (s:RSt),vs=[.ref x]∧RnAt t H x a C s∧s.no.length≤900∧(s.no.map (·.1)).Nodup∧s.gi.length≤63∧(∀ H',yy C s=false→Same H H'→Q .non H') ∧
 ∀ r o nl gl out H',yy C s=true→Same H H'→H nl=none→H gl=none→nl≠gl→H' r=some (.tup [o,.ref nl,.ref gl])→X6 H' o (qh s)→kD H' nl s.no→kD H' gl out→Zh s out→Q (.ref r) H'
def y8 (K:W.Frag):Sp:=fun vs H Q _=>∃ (a:Addr) (ns:List Int) (k:Nat),vs=[.ref a,.int k]∧SqL K H a (ns.map V.int)∧ns.length≤63∧∀ c H',Same H H'→Q (.int c) H'
def zq:Sp:=fun vs H Q _=>∃ c j,vs=[.int c,.int j]∧0≤j∧j≤1000∧∀ r H',0≤r→r < 2147483648→Same H H'→Q (.int r) H'
def wD:Sp:=fun vs H Q _=>∃ c m,vs=[.int c,.int m]∧0≤m∧m≤6∧∀ nm ws H',Same H H'→NamesAt H' nm ws→(ws.length:Int)=m→Q (.ref nm) H'
def nmP (p:Pl):Prop:=xz p.1=true
structure rwV (r:Rw):Prop where
 ni:W2 r
 pl:ZC r
 ok:vN r
 nm:ZB nmP r
def yk:Sp:=fun vs H Q _=>∃ c j,vs=[.int c,.int j]∧0≤j∧j≤900∧∀ w H',inW w=true→Same H H'→Q (.int w) H'
def lfV (v:V):Prop:=(∃ i,v=.int i∧inW i=true)∨∃ x,v=.str x∧xz x=true
def wZ:Sp:=fun vs H Q _=>∃ c j a ws,vs=[.int c,.int j,.ref a]∧0≤j∧j≤800∧NamesAt H a ws∧ws.length=2∧∀ v H',lfV v→Same H H'→Q v H'
def wdJ (w:Str):Prop:=isJ (.str w)=true∧w.length≤1000∧PyData.strOk w=true
def yx:Sp:=fun vs H Q _=>∃ c j a ws,vs=[.int c,.int j,.ref a]∧0≤j∧j≤700∧NamesAt H a ws∧ws.length=2∧∀ p e H',Same H H'→H p=none→H' p=some (.tup e)→TermOk e→tmP e→Q (.ref p) H'
def xY:Sp:=fun vs H Q _=>∃ c j a ws,vs=[.int c,.int j,.ref a]∧0≤j∧j≤600∧NamesAt H a ws∧ws.length=2∧∀ p e H',Same H H'→H p=none→H' p=some (.tup e)→TermOk e→tmP e→Q (.ref p) H'
def j0:Sp:=fun vs H Q _=>∃ c a b ws us,vs=[.int c,.ref a,.ref b]∧NamesAt H a ws∧ws.length=2∧NamesAt H b us∧us.length=2∧∀ v r H',Same H H'→RwAt (fun b=>H b=none) H' v r→rwV r→Q v H'
structure Gm where
 e:List V
 a:Option Rws
 D:Rws
def FsAt (F:Addr→Prop) (H:Hp):List Gm→List V→List Addr→Prop
 | [],fs,sp=>fs=[]∧sp=[]
 | g :: gs,fs,sp=>∃ f tv fi c xs fs' sp',fs=.ref f :: fs'∧sp=f :: c :: sp'∧H f=some (.lst [tv,fi,.ref c])∧H c=some (.lst xs)∧RwsAt F H xs g.D∧(gs≠[]→∃ te,tv=.ref te∧F te∧H te=some (.tup g.e)∧tmP g.e) ∧
  ((g.a=none∧fi=.non)∨∃ a ys A,g.a=some A∧fi=.ref a∧F a∧H a=some (.lst ys)∧RwsAt F H ys A)∧FsAt F H gs fs' sp'
def Fz (H0:Hp) (sp:List Addr) (FR:Addr) (b:Addr):Prop:=b ∉ sp∧b≠FR∧H0 b=none
structure FZ (H0 H:Hp) (FR:Addr) (gs:List Gm) (fs:List V) (sp:List Addr):Prop where
 sm:Same H0 H
 hf:H FR=some (.lst fs.reverse)
 fa:FsAt (Fz H0 sp FR) H gs fs sp
 nd:sp.Nodup
 nf:FR ∉ sp
 fr:∀ a∈sp,H0 a=none
 f0:H0 FR=none
def qi (g h:Gm):Gm:={ h with D:=h.D.snoc (match g.a with | none=>.iff g.e g.D .nil | some A=>.iff g.e A g.D) }
def xn:Sp:=fun vs H Q _=>∃ FR H0 g h gs fs sp,vs=[.ref FR]∧FZ H0 H FR (g :: h :: gs) fs sp∧h.D.cnt≤500∧∀ fs' sp' H',FZ H0 H' FR (qi g h :: gs) fs' sp'→Q .non H'
def jl:Sp:=fun vs H Q _=>∃ (p:Addr) (ns:List Int) (a b:Addr) (ws us:List Str),vs=[.ref p,.ref a,.ref b]∧H p=some (.lst (ns.map V.int))∧ns.length≤16∧NamesAt H a ws∧ws.length=2∧NamesAt H b us∧us.length=2∧∀ v r H',Same H H'→RlAt (fun b=>H b=none) H' v r→qJ 6 r→xj r→(zD r 0).length≤40→Q v H'
def zaw:Cs→Prop
 | .row r=>ZC r
 | _=>True
structure X7 (C:List Cs):Prop where
 ok:∀ c∈C,jW c
 pl:∀ c∈C,zaw c
 fw:∀ (i to:Nat) (e:List V),C[i]?=some (Cs.skip e to)→i < to
 fg:∀ (i to:Nat),C[i]?=some (Cs.go to)→i < to
 le:C.length≤40
structure RnI (C:List Cs) (m:Nat) (s:RSt):Prop where
 ok:RnOk m s
 ng:∀ r∈s.gi,PyData.strOk r.1.1=true
 nn:∀ r∈s.no,PyData.strOk r.1.1=true
 at_:s.why=none→m≤s.n
 wy:∀ w,s.why=some w→PyData.strOk w=true
def YA:Except Er Int→V
 | .ok i=>.int i
 | .error e=>.str (jB e)
def vK:Sp:=fun vs H Q _=>∃ a b w,vs=[.int a,.int b,.str w]∧isJ (.str w)=true∧inW a=true∧inW b=true∧∀ H',Same H H'→Q (YA (yM w a b)) H'
def yz:Sp:=fun vs H Q _=>∃ tm sl e kvs,vs=[.ref tm,.ref sl]∧H tm=some (.tup e)∧H sl=some (.dK kvs)∧TermOk e∧yt kvs∧∀ H',Same H H'→Q (YA (rk kvs e)) H'
structure LAd where
 sl:Addr
 kn:Addr
 gi:Addr
 no:Addr
 sa:Addr
def J5:Option Str→Str
 | none=>Str.ofString ""
 | some w=>w
def lwK (a:LAd) (n:Nat) (w:Option Str):List (Key × V):=[(.inr (Str.ofString "at"),.int n),(.inr (Str.ofString "slots"),.ref a.sl),(.inr (Str.ofString "known"),.ref a.kn),(.inr (Str.ofString "given"),.ref a.gi),(.inr (Str.ofString "notes"),.ref a.no),(.inr (Str.ofString "said"),.ref a.sa),(.inr (Str.ofString "why"),.str (J5 w))]
structure LwAt (H:Hp) (d:Addr) (a:LAd) (s:RSt) (kn:List Row):Prop where
 id:H d=some (.dK (lwK a s.n s.why))
 hs:H a.sl=some (.dK s.sl)
 hk:H a.kn=some (.dT (dOf kn))
 hg:H a.gi=some (.dT (dOf s.gi))
 hn:kD H a.no s.no
 ha:H a.sa=some (.lst (s.sa.map V.int))
 n1:a.kn≠a.gi
 n2:a.no≠a.sa
 n3:d≠a.sl
 kk:∀ p,zI kn p=(zI s.gi p).or (zI s.no p)
 kl:kn.length≤s.gi.length + s.no.length
def LOw (d:Addr) (a:LAd) (b:Addr):Prop:=b=d∨b=a.sl∨b=a.kn∨b=a.gi∨b=a.no∨b=a.sa
def LKp (d:Addr) (a:LAd) (H H':Hp):Prop:=∀ b o,¬ LOw d a b→H b=some o→H' b=some o
def ZG:Cs→Int→Int→Int→RSt→RSt
 | .row (.take sh _ x),i,_,w,s=>{ yV (sh,i) w s with sl:=yJ s.sl (.inr x) (.int (xG (sh,i) w s)) }
 | .row (.give sh _ _),i,j,_,s=>{ s with gi:=s.gi ++ [((sh,i),j)] }
 | .row (.lt x _),i,_,_,s=>{ s with sl:=yJ s.sl (.inr x) (.int i) }
 | .row (.say _),i,_,_,s=>{ s with sa:=s.sa ++ [i] }
 | _,_,_,_,s=>s
def vm:Sp:=fun vs H Q _=>∃ (v:V) (d:Addr) (c:Cs) (a:LAd) (s:RSt) (kn:List Row),vs=[v,.ref d]∧CsAt H v c∧jW c∧LwAt H d a s kn∧yt s.sl ∧
 (∀ H',wJ c s=none→Same H H'→Q .non H')∧∀ p q H',wJ c s=some p→Same H H'→H' q=some (.tup [.str p.1,.int p.2])→Q (.ref q) H'
def vP:Sp:=fun vs H Q _=>∃ (v:V) (i j:Int) (d:Addr) (w:Int) (c:Cs) (a:LAd) (s:RSt) (kn:List Row) (m:Nat),vs=[v,.int i,.int j,.ref d,.int w]∧CsAt H v c∧LwAt H d a s kn∧RnOk m s∧m≤40∧∀ kn' H',LKp d a H H'→LwAt H' d a (ZG c i j w s) kn'→Q .non H'
def vn:Sp:=fun vs H Q _=>∃ (v:V) (d:Addr) (w:Int) (c:Cs) (a:LAd) (s:RSt) (kn:List Row) (m:Nat),vs=[v,.ref d,.int w]∧CsAt H v c∧jW c∧LwAt H d a s kn∧RnOk m s∧m≤40∧s.why=none∧∀ kn' H',LKp d a H H'→LwAt H' d a { z0 c w s with n:=s.n } kn'→Q (.int (z0 c w s).n) H'
def j2:Sp:=fun vs H Q _=>∃ (d:Addr) (a:LAd) (s:RSt) (kn:List Row),vs=[.ref d]∧LwAt H d a s kn∧s.why≠some (Str.ofString "")∧s.gi.length≤60∧∀ r o gl out H',Same H H'→H' r=some (.tup [o,.ref a.no,.ref gl])→X6 H' o (qh s)→kD H' gl out→Zh s out→Q (.ref r) H'
inductive PlV (H:Hp):Nat→V→Prop
 | int {n:Nat} (i:Int):PlV H (n + 1) (.int i)
 | str {n:Nat} (x:Str):PlV H (n + 1) (.str x)
 | lst {n:Nat} {a:Addr} {xs:List V}:H a=some (.lst xs)→(∀ x∈xs,PlV H n x)→PlV H (n + 1) (.ref a)
 | tup {n:Nat} {a:Addr} {xs:List V}:H a=some (.tup xs)→(∀ x∈xs,PlV H n x)→PlV H (n + 1) (.ref a)
def xh (n:Nat):Sp:=fun vs H Q _=>∃ (v:V),vs=[v]∧PlV H n v∧∀ H',Same H H'→Q (.bl true) H'
def j3:Sp:=fun vs H Q _=>∃ (l p:Addr) (xs:List V) (C:List Cs) (ns:List Int),vs=[.ref l,.ref p]∧H l=some (.lst xs)∧Paired (CsAt H) xs C∧X7 C∧H p=some (.lst (ns.map V.int))∧0 < ns.length∧ns.length≤63∧∀ H',Same H H'→Q (.bl true) H'
def sp_law (K:W.Frag):Sp:=fun vs H Q _=>∃ (a:Addr) (ns:List Int),vs=[.ref a]∧SqL K H a (ns.map V.int)∧ns.length≤63∧∀ H',Q (.bl true) H'
def jm (K:W.Frag) (t:Adr):TS:=(zo (zQ (tOp (rI (fun _ j=>0 < j) fun i j=>.int (i % j)) (tOp (rI0 fun i j=>.int (i + j)) (tOp (rI CMulB fun i j=>.int (i * j)) (tOp (rI (fun _ j=>0 < j) fun i j=>.int (i % j)) (zc 0) (tC (.int 1000000007))) (tC (.int 6700417))) (tOp (rI CMulB fun i j=>.int (i * j)) (tOp (rI CMulB fun i j=>.int (i * j)) (tOp (rI0 fun i j=>.int (i + j)) (zc 1) (tC (.int 1))) (tC (.int 104729))) (tC (.int 65537)))) (tC (.int 1000000009))) (zr 2))
  (zB (tOp (rI KK fun i j=>.int (i / j)) (tOp (rI (fun _ j=>0 < j) fun i j=>.int (i % j)) (tOp (rI CMulB fun i j=>.int (i * j)) (tOp (rI (fun _ j=>0 < j) fun i j=>.int (i % j)) (tOp (rI CMulB fun i j=>.int (i * j)) (zc 2) (zc 2)) (tC (.int 1000000009))) (zc 2)) (tC (.int 1000000009))) (tC (.int 32)))))
def wO (K:W.Frag) (t:Adr):TS:=(zB (qC (v6 (zb (zc 1) zi)) (zr 0) WC (tOp kL (tOp kL (tSl Yi (zc 1) xr (x8 (zc 2))) (tOp XH (zc 3) (zc 0))) (tSl Yi (zc 1) (x8 (tOp (rI0 fun i j=>.int (i + j)) (zc 2) (tC (.int 1)))) xr)) 1 [4,6,3]))
def wP (K:W.Frag) (t:Adr):TS:=(zo (zQ (tOp (rI (fun _ j=>0 < j) fun i j=>.int (i % j)) (zp zq [] E0 (zb (zc 0) (zb (tC (.int 8)) zi))) (zc 2)) (zr 6))
  (zo (zQ (tOp (rI (fun _ j=>0 < j) fun i j=>.int (i % j)) (zp zq [] E0 (zb (zc 0) (zb (tC (.int 9)) zi))) (tCB (yN K) (zb (zc 3) zi))) (zr 7))
  (zo (zQ (tOp kL (tSl Yi (zc 3) (x8 (zc 7)) xr) (tSl Yi (zc 3) xr (x8 (zc 7)))) (zr 3))
  (wO K t))))
def wQ (K:W.Frag) (t:Adr):TS:=(zo (zQ (tC (.str "")) (zr 4))
  (zo (xD (v6 (zb (zc 2) zi)) (zr 5)
    (zQ (tOp kL (zc 4) (tOp XH (zc 3) (tOp (rI (fun _ j=>0 < j) fun i j=>.int (i % j)) (zp zq [] E0 (zb (zc 0) (zb (tOp (rI0 fun i j=>.int (i + j)) (tC (.int 2)) (zc 5)) zi))) (tCB (yN K) (zb (zc 3) zi))))) (zr 4)))
  (wP K t)))
def vQ (K:W.Frag) (t:Adr):TS:=(zo (zQ (tOp (rI0 fun i j=>.int (i + j)) (tC (.int 1)) (tOp (rI (fun _ j=>0 < j) fun i j=>.int (i % j)) (zp zq [] E0 (zb (zc 0) (zb (tC (.int 1)) zi))) (tC (.int 6)))) (zr 2))
  (zo (zQ (tC (.str "zyxwvtsrqpnmlkjhgfdcb")) (zr 3))
  (zo (zE (zm (tOp rEq (zc 2) (tC (.int 6))))
    (zQ (tC (.str "zyxwvutsrqponmlkjihgfedcba")) (zr 3))
    zv)
  (wQ K t))))
def wR (K:W.Frag) (t:Adr):TS:=(zo (zE (zm (tOp (rI0 fun i j=>.bl (decide (i < j))) (zc 1) (tCB (yN K) (zb (zc 0) zi))))
   (zB (tOp (ye K) (zc 0) (zc 1)))
   zv)
  (zB (tC (.int 0))))
def j4 (K:W.Frag) (t:Adr):TS:=(zo (jD K (zc 0) (tCB (zag K) (zb (zc 1) zi)) "code")
  (zo (jD K (zc 0) (tC (.int 0)) "at")
  (zo (jD K (zc 0) (tC .non) "why")
  (zo (jD K (zc 0) Yc "slots")
  (zo (jD K (zc 0) kW "gifts")
  (zo (jD K (zc 0) kW "notes")
  (jD K (zc 0) (yB zi) "sayings")))))))
def j5 (K:W.Frag) (t:Adr):TS:=(zB (za8 (tOp jA (yF K (zc 0) "why") (tC .non)) (tOp (rI0 fun i j=>.bl (decide (j≤i))) (yF K (zc 0) "at") (tCB (yN K) (zb (yF K (zc 0) "code") zi)))))
def j6 (K:W.Frag) (t:Adr):TS:=(zo (zE (zm (tOp jA (yF K (zc 0) "why") (tC .non)))
   (zB (yb (zb (yb (zb (tC (.str "off")) (zb (yF K (zc 0) "why") zi))) (zb (zc 1) (zb (yB zi) zi)))))
   zv)
  (zB (yb (zb (yb (zb (tC (.str "done")) (zb (tCB (K7 K) (zb (yF K (zc 0) "sayings") zi)) zi))) (zb (zc 1) (zb (tCB Xp (zb (qd (yF K (zc 0) "gifts")) zi)) zi))))))
def j7 (K:W.Frag) (t:Adr):TS:=(zo (zQ (tCB Jw (zb (qd (yF K (zc 0) "notes")) zi)) (zr 1))
  (j6 K t))
def jn (K:W.Frag) (t:Adr):TS:=(zo (zE (jc (tB (yg t.c_Run "over" (yq t) [] E0 (zc 0) zi)))
   (zB (tC .non))
   zv)
  (j7 K t))
def vo (K:W.Frag) (t:Adr):TS:=(zo (zE (zm (tOp rEq (tOp (rI (fun _ j=>0 < j) fun i j=>.int (i % j)) (zp zq [] E0 (zb (zc 0) (zb (zc 1) zi))) (tC (.int 10))) (tC (.int 3))))
   (zB (tOp (rI0 fun i j=>.int (i - j)) (tOp (rI (fun _ j=>0 < j) fun i j=>.int (i % j)) (tOp (rI0 fun i j=>.int (i + j)) (tOp (rI CMulB fun i j=>.int (i * j)) (tOp (rI CMulB fun i j=>.int (i * j)) (tOp (rI (fun _ j=>0 < j) fun i j=>.int (i % j)) (zc 0) (tOp (rI Zy fun i j=>.int (i ^ j.toNat)) (tC (.int 10)) (tC (.int 40)))) (tOp (rI0 fun i j=>.int (i + j)) (zc 1) (tC (.int 2)))) (tC (.int 1000003))) (zc 1)) (tOp (rI0 fun i j=>.int (i + j)) (tOp (rI CMulB fun i j=>.int (i * j)) (tC (.int 2)) (tOp (rI Zy fun i j=>.int (i ^ j.toNat)) (tC (.int 10)) (tC (.int 30)))) (tC (.int 1)))) (tOp (rI Zy fun i j=>.int (i ^ j.toNat)) (tC (.int 10)) (tC (.int 30)))))
   zv)
  (zB (tOp (rI0 fun i j=>.int (i - j)) (tOp (rI (fun _ j=>0 < j) fun i j=>.int (i % j)) (zp zq [] E0 (zb (zc 0) (zb (tOp (rI0 fun i j=>.int (i + j)) (zc 1) (tC (.int 1))) zi))) (tC (.int 6))) (tC (.int 2)))))
def vR (K:W.Frag) (t:Adr):TS:=(zo (zQ (tOp (rI CMulB fun i j=>.int (i * j)) (zc 0) (zc 1)) (zr 3))
  (zo (zE (zm (tOp rEq (zc 2) (tC (.str "plus"))))
    (zQ (tOp (rI0 fun i j=>.int (i + j)) (zc 0) (zc 1)) (zr 3))
    zv)
  (zo (zE (zm (tOp rEq (zc 2) (tC (.str "minus"))))
    (zQ (tOp (rI0 fun i j=>.int (i - j)) (zc 0) (zc 1)) (zr 3))
    zv)
  (zo (zE (tOr (zm (tOp (rI0 fun i j=>.bl (decide (j < i))) (zc 3) (tOp (rI Zy fun i j=>.int (i ^ j.toNat)) (tC (.int 10)) (tC (.int 30))))) (zm (tOp (rI0 fun i j=>.bl (decide (i < j))) (zc 3) (tUn (rU fun i=>.int (-i)) (tOp (rI Zy fun i j=>.int (i ^ j.toNat)) (tC (.int 10)) (tC (.int 30)))))))
    (zB (tC (.str "great")))
    zv)
  (zB (zc 3))))))
def j8 (K:W.Frag) (t:Adr):TS:=(zo (zE (wN (zm (tOp (rIn K false) (zc 2) (yb (zb (tC (.str "over")) (zb (tC (.str "rest")) zi))))) (zm (tOp rEq (zc 1) (tC (.int 0)))))
   (zB (tC (.str "nought")))
   zv)
  (zo (zE (zm (tOp rEq (zc 2) (tC (.str "over"))))
    (zB (tOp (rI Jp fun i j=>.int (i.fdiv j)) (zc 0) (zc 1)))
    zv)
  (zo (zE (zm (tOp rEq (zc 2) (tC (.str "rest"))))
    (zB (tOp (rI0 fun i j=>.int (i - j)) (zc 0) (tOp (rI CMulB fun i j=>.int (i * j)) (tOp (rI Jp fun i j=>.int (i.fdiv j)) (zc 0) (zc 1)) (zc 1))))
    zv)
  (zo (zE (zm (tOp rEq (zc 2) (tC (.str "under"))))
    (zB (tCB Yo (zb (tOp (rI0 fun i j=>.bl (decide (i < j))) (zc 0) (zc 1)) zi)))
    zv)
  (zo (zE (zm (tOp rEq (zc 2) (tC (.str "same"))))
    (zB (tCB Yo (zb (tOp rEq (zc 0) (zc 1)) zi)))
    zv)
  (vR K t))))))
def jC (K:W.Frag) (t:Adr):TS:=(zB (tOp (ye K) (zc 2) (tC (.int 0))))
def vS (K:W.Frag) (t:Adr):TS:=(zo (zQ (yB zi) (zr 2))
  (zo (xD (XC K (zc 0)) (zr 3)
    (zE (zm (tOp (rIn K false) (zc 3) (yb (zb (tC (.str "plus")) (zb (tC (.str "minus")) (zb (tC (.str "times")) (zb (tC (.str "over")) (zb (tC (.str "rest")) (zb (tC (.str "under")) (zb (tC (.str "same")) zi))))))))))
    (zo (zQ (qy K "list" yR (zc 2)) (zr 4))
  (zo (zQ (zp vK [] E0 (zb (qy K "list" yR (zc 2)) (zb (zc 4) (zb (zc 3) zi)))) (zr 5))
  (zo (zE (tB (tCB (wX K) (zb (zc 5) (zb (tC (.ty "str")) zi))))
    (zB (zc 5))
    zv)
  (zY (tBM K "list" zu (zc 2) (zb (zc 5) zi))))))
   (zE (tB (tCB (wX K) (zb (zc 3) (zb (tC (.ty "int")) zi))))
   (zY (tBM K "list" zu (zc 2) (zb (zc 3) zi)))
   (zY (tBM K "list" zu (zc 2) (zb (xE (zc 1) (zc 3) (tC (.int 0))) zi))))))
  (jC K t)))
def vT (K:W.Frag) (t:Adr):TS:=(zE (zm (tOp rEq (tOp (zT K) (zc 0) (tC (.int 0))) (tC (.str "take"))))
   (zo (zQ (yb (zb (tOp (zT K) (zc 0) (tC (.int 1))) (zb (zc 1) zi))) (zr 5))
  (zo (zE (zm (tOp (Zd true) (zc 5) (yh (zc 3) (tC (.str "known")))))
    (zo (yK (yh (zc 3) (tC (.str "known"))) (zc 5) (zc 4))
  (zY (tBM K "list" zu (yh (zc 3) (tC (.str "notes"))) (zb (yb (zb (zc 5) (zb (zc 4) zi))) zi))))
   zv)
  (yK (yh (zc 3) (tC (.str "slots"))) (tOp (zT K) (zc 0) (tC (.int 3))) (yh (yh (zc 3) (tC (.str "known"))) (zc 5)))))
   (zE (zm (tOp rEq (tOp (zT K) (zc 0) (tC (.int 0))) (tC (.str "give"))))
   (zo (yK (yh (zc 3) (tC (.str "known"))) (yb (zb (tOp (zT K) (zc 0) (tC (.int 1))) (zb (zc 1) zi))) (zc 2))
  (yK (yh (zc 3) (tC (.str "given"))) (yb (zb (tOp (zT K) (zc 0) (tC (.int 1))) (zb (zc 1) zi))) (zc 2)))
   (zE (zm (tOp rEq (tOp (zT K) (zc 0) (tC (.int 0))) (tC (.str "let"))))
   (yK (yh (zc 3) (tC (.str "slots"))) (tOp (zT K) (zc 0) (tC (.int 1))) (zc 1))
   (zE (zm (tOp rEq (tOp (zT K) (zc 0) (tC (.int 0))) (tC (.str "say"))))
   (zY (tBM K "list" zu (yh (zc 3) (tC (.str "said"))) (zb (zc 1) zi)))
   zv))))
def ww (K:W.Frag) (t:Adr):TS:=(zo (zY (zp vP [] E0 (zb (zc 0) (zb (zc 3) (zb (zc 4) (zb (zc 1) (zb (zc 2) zi)))))))
  (zB (tOp (rI0 fun i j=>.int (i + j)) (yh (zc 1) (tC (.str "at"))) (tC (.int 1)))))
def yW (K:W.Frag) (t:Adr):TS:=(zo (zE (tB (tCB (wX K) (zb (zc 4) (zb (tC (.ty "str")) zi))))
   (zo (yK (zc 1) (tC (.str "why")) (zc 4))
  (zB (yh (zc 1) (tC (.str "at")))))
   zv)
  (zo (zE (wN (zm (tOp rEq (tOp (zT K) (zc 0) (tC (.int 0))) (tC (.str "off")))) (zm (tOp rNe (zc 3) (tC (.int 0)))))
    (yK (zc 1) (tC (.str "why")) (tC (.str "told")))
    zv)
  (zo (zE (wN (zm (tOp rEq (tOp (zT K) (zc 0) (tC (.int 0))) (tC (.str "skip")))) (zm (tOp rEq (zc 3) (tC (.int 0)))))
    (zB (tOp (zT K) (zc 0) (tC (.int 2))))
    zv)
  (ww K t))))
def wx (K:W.Frag) (t:Adr):TS:=(zo (zQ (zc 3) (zr 4))
  (zo (zE (wN (zm (tOp rEq (tOp (zT K) (zc 0) (tC (.int 0))) (tC (.str "give")))) (jc (tB (tCB (wX K) (zb (zc 3) (zb (tC (.ty "str")) zi))))))
    (zQ (zp yz [] E0 (zb (tOp (zT K) (zc 0) (tC (.int 3))) (zb (yh (zc 1) (tC (.str "slots"))) zi))) (zr 4))
    zv)
  (yW K t)))
def xZ (K:W.Frag) (t:Adr):TS:=(zo (zE (zm (tOp rEq (tOp (zT K) (zc 0) (tC (.int 0))) (tC (.str "go"))))
   (zB (tOp (zT K) (zc 0) (tC (.int 1))))
   zv)
  (zo (zQ (zp yz [] E0 (zb (tOp (zT K) (zc 0) (tOp (rI0 fun i j=>.int (i + j)) (tC (.int 1)) (tCB Yo (zb (tOp (rIn K false) (tOp (zT K) (zc 0) (tC (.int 0))) (yb (zb (tC (.str "take")) (zb (tC (.str "give")) (zb (tC (.str "let")) zi))))) zi)))) (zb (yh (zc 1) (tC (.str "slots"))) zi))) (zr 3))
  (wx K t)))
def vU (K:W.Frag) (t:Adr) (n:Nat):TS:=(zo (zE (tB (tCB (Jx K) (zb (zc 0) (zb (yb (zb (tC (.ty "list")) (zb (tC (.ty "tuple")) zi))) zi))))
   (zo (xD (zbq K (zc 0)) (zr 1)
   (zE (jc (tB (zp (xh  n) [] E0 (zb (zc 1) zi))))
   (zB (tC (.bl false)))
   zv))
  (zB (tC (.bl true))))
   zv)
  (zB (kG (tCB (Jx K) (zb (zc 0) (zb (yb (zb (tC (.ty "int")) (zb (tC (.ty "str")) zi))) zi))) (Kh (tCB (wX K) (zb (zc 0) (zb (tC (.ty "bool")) zi)))))))
def qj (K:W.Frag) (t:Adr) (E:XK):TS:=(zo (zE (zm (tOp rEq (zc 2) (tC (.int 0))))
   (Yj t.c_Nought (zb (WG (zc 0)) zi) E)
   zv)
  (zB (tIf (zm (tOp rEq (zc 0) (tC (.str "over")))) (tOp (rI Jp fun i j=>.int (i.fdiv j)) (zc 1) (zc 2)) (tOp (rI (fun _ j=>j≠0) fun i j=>.int (i.fmod j)) (zc 1) (zc 2)))))
def qk (K:W.Frag) (t:Adr) (E:XK):TS:=(zo (zE (zm (tOp rEq (zc 0) (tC (.str "plus"))))
   (zB (tOp (rI0 fun i j=>.int (i + j)) (zc 1) (zc 2)))
   zv)
  (zo (zE (zm (tOp rEq (zc 0) (tC (.str "minus"))))
    (zB (tOp (rI0 fun i j=>.int (i - j)) (zc 1) (zc 2)))
    zv)
  (zo (zE (zm (tOp rEq (zc 0) (tC (.str "times"))))
    (zB (tOp (rI CMulB fun i j=>.int (i * j)) (zc 1) (zc 2)))
    zv)
  (zo (zE (zm (tOp rEq (zc 0) (tC (.str "under"))))
    (zB (tIf (zm (tOp (rI0 fun i j=>.bl (decide (i < j))) (zc 1) (zc 2))) (tC (.int 1)) (tC (.int 0))))
    zv)
  (zo (zE (zm (tOp rEq (zc 0) (tC (.str "same"))))
    (zB (tIf (zm (tOp rEq (zc 1) (zc 2))) (tC (.int 1)) (tC (.int 0))))
    zv)
  (zB (zp (qe t) [] E (zb (zc 0) (zb (zc 1) (zb (zc 2) zi))))))))))
def j9 (K:W.Frag) (t:Adr):TS:=(zo (zE (tOr (jc (tB (tCB (wX K) (zb (zc 0) (zb (tC (.ty "int")) zi))))) (tB (tCB (wX K) (zb (zc 0) (zb (tC (.ty "bool")) zi)))))
   (zB (tC (.bl false)))
   zv)
  (zB (VA (rI0 fun i j=>.bl (decide (i≤j))) (rI0 fun i j=>.bl (decide (i≤j))) (tUn (rU fun i=>.int (-i)) (tOp (rI Zy fun i j=>.int (i ^ j.toNat)) (tC (.int 10)) (tC (.int 30)))) (zc 0) (tOp (rI Zy fun i j=>.int (i ^ j.toNat)) (tC (.int 10)) (tC (.int 30))))))
def Zi (K:W.Frag) (t:Adr) (E:XK):TS:=(zo (zQ (zp (qf t) [] E (zb (zc 0) (zb (zc 1) (zb (zc 2) zi)))) (zr 3))
  (zo (zE (jc (tB (zp jU [] E (zb (zc 3) zi))))
    (Yj t.c_Great (zb (WG (zc 0)) zi) E)
    zv)
  (zB (zc 3))))
def ka (K:W.Frag) (t:Adr) (E:XK):TS:=(zo (zQ (yB zi) (zr 2))
  (zo (xD (XC K (zc 0)) (zr 3)
    (zE (zm (tOp (rIn K false) (zc 3) (tC (.ref t.c_JOINING))))
    (zo (zQ (qy K "list" yR (zc 2)) (zr 4))
  (zo (zQ (qy K "list" yR (zc 2)) (zr 5))
  (zY (tBM K "list" zu (zc 2) (zb (zp (Zg t) [] E (zb (zc 3) (zb (zc 5) (zb (zc 4) zi)))) zi)))))
   (zY (tBM K "list" zu (zc 2) (zb (tIf (tB (tCB (wX K) (zb (zc 3) (zb (tC (.ty "str")) zi)))) (xE (zc 1) (zc 3) (tC (.int 0))) (zc 3)) zi)))))
  (zB (qy K "list" yR (zc 2)))))
def wS (K:W.Frag) (t:Adr) (E:XK):TS:=(zB (zp (jV t) [] E (zb (zc 1) (zb (yF K (zc 0) "slots") zi))))
def wT (K:W.Frag) (t:Adr) (E:XK):TS:=(zB (yb (zb (tOp (zT K) (zc 1) (tC (.int 1))) (zb (yg t.c_Run "worth_of" (zN t) [] E (zc 0) (zb (tOp (zT K) (zc 1) (tC (.int 2))) zi)) zi))))
def kO (K:W.Frag) (t:Adr):TS:=(zo (zE (tOr (zm (tOp (Zd false) (zc 1) (yF K (zc 0) "gifts"))) (zm (tOp (Zd false) (zc 1) (yF K (zc 0) "notes"))))
   (zB (tC .non))
   zv)
  (zB (zc 1)))
def kP (K:W.Frag) (t:Adr):TS:=(zo (Jz K (Jo (Ze t.c_Run "place_in" (z9 t) (zc 0) (zb (tOp (ye K) (yF K (zc 0) "code") (yF K (zc 0) "at")) zi)) 1) t.c_Great t.c_Nought (zB (tC .non)))
  (kO K t))
def kc (K:W.Frag) (t:Adr):TS:=(zo (zE (tOr (tB (yg t.c_Run "over" (yq t) [] E0 (zc 0) zi)) (zm (tOp rNe (tOp (zT K) (tOp (ye K) (yF K (zc 0) "code") (yF K (zc 0) "at")) (tC (.int 0))) (tC (.str "take")))))
   (zB (tC .non))
   zv)
  (kP K t))
def vp (K:W.Frag) (t:Adr):TS:=(zo (zE (zm (tOp rNe (tOp (zT K) (zc 0) (tC (.int 0))) (tC (.str "take"))))
   (zB (tC .non))
   zv)
  (zo (zQ (zp yz [] E0 (zb (tOp (zT K) (zc 0) (tC (.int 2))) (zb (yh (zc 1) (tC (.str "slots"))) zi))) (zr 2))
  (zo (zE (tOr (tB (tCB (wX K) (zb (zc 2) (zb (tC (.ty "str")) zi)))) (zm (tOp (Zd false) (yb (zb (tOp (zT K) (zc 0) (tC (.int 1))) (zb (zc 2) zi))) (yh (zc 1) (tC (.str "known"))))))
    (zB (tC .non))
    zv)
  (zB (yb (zb (tOp (zT K) (zc 0) (tC (.int 1))) (zb (zc 2) zi)))))))
def jo (K:W.Frag) (t:Adr):TS:=(zo (zE (zm (tOp (Zd false) (zc 1) (yF K (zc 0) "gifts")))
   (zB (yh (yF K (zc 0) "gifts") (zc 1)))
   zv)
  (zo (zE (zm (tOp (Zd true) (zc 1) (yF K (zc 0) "notes")))
    (yK (yF K (zc 0) "notes") (zc 1) (zc 2))
    zv)
  (zB (yh (yF K (zc 0) "notes") (zc 1)))))
def xR (K:W.Frag) (t:Adr) (E:XK):TS:=(zE (zm (tOp rEq (tOp (zT K) (zc 1) (tC (.int 0))) (tC (.str "take"))))
   (yK (yF K (zc 0) "slots") (tOp (zT K) (zc 1) (tC (.int 3))) (yg t.c_Run "taken" (xy t) [] E (zc 0) (zb (yg t.c_Run "place_in" (z9 t) [] E (zc 0) (zb (zc 1) zi)) (zb (zc 2) zi))))
   (zE (zm (tOp rEq (tOp (zT K) (zc 1) (tC (.int 0))) (tC (.str "give"))))
   (zo (zQ (yg t.c_Run "place_in" (z9 t) [] E (zc 0) (zb (zc 1) zi)) (zr 3))
  (yK (yF K (zc 0) "gifts") (zc 3) (yg t.c_Run "worth_of" (zN t) [] E (zc 0) (zb (tOp (zT K) (zc 1) (tC (.int 3))) zi))))
   (zE (zm (tOp rEq (tOp (zT K) (zc 1) (tC (.int 0))) (tC (.str "let"))))
   (yK (yF K (zc 0) "slots") (tOp (zT K) (zc 1) (tC (.int 1))) (yg t.c_Run "worth_of" (zN t) [] E (zc 0) (zb (tOp (zT K) (zc 1) (tC (.int 2))) zi)))
   (zY (tBM K "list" zu (yF K (zc 0) "sayings") (zb (yg t.c_Run "worth_of" (zN t) [] E (zc 0) (zb (tOp (zT K) (zc 1) (tC (.int 1))) zi)) zi))))))
def xi (K:W.Frag) (t:Adr) (E:XK):TS:=(zo (zE (zm (tOp rEq (tOp (zT K) (zc 1) (tC (.int 0))) (tC (.str "go"))))
   (zB (tOp (zT K) (zc 1) (tC (.int 1))))
   zv)
  (zo (zE (zm (tOp rEq (tOp (zT K) (zc 1) (tC (.int 0))) (tC (.str "skip"))))
    (zB (tIf (zm (tOp rEq (yg t.c_Run "worth_of" (zN t) [] E (zc 0) (zb (tOp (zT K) (zc 1) (tC (.int 1))) zi)) (tC (.int 0)))) (tOp (zT K) (zc 1) (tC (.int 2))) (tOp (rI0 fun i j=>.int (i + j)) (yF K (zc 0) "at") (tC (.int 1)))))
    zv)
  (zo (zE (zm (tOp rEq (tOp (zT K) (zc 1) (tC (.int 0))) (tC (.str "off"))))
    (zE (zm (tOp rNe (yg t.c_Run "worth_of" (zN t) [] E (zc 0) (zb (tOp (zT K) (zc 1) (tC (.int 1))) zi)) (tC (.int 0))))
    (jD K (zc 0) (tC (.str "told")) "why")
    zv)
    (zY (yg t.c_Run "does" (xQ t) [] E (zc 0) (zb (zc 1) (zb (zc 2) zi)))))
  (zB (tOp (rI0 fun i j=>.int (i + j)) (yF K (zc 0) "at") (tC (.int 1)))))))
def ke (K:W.Frag) (t:Adr):TS:=(zo (zE (tB (yg t.c_Run "over" (yq t) [] E0 (zc 0) zi))
   Kj
   zv)
  (VS K (Qw K (zc 0) (Ze t.c_Run "led_by" (vO t) (zc 0) (zb (tOp (ye K) (yF K (zc 0) "code") (yF K (zc 0) "at")) (zb (zc 1) zi))) "at") t.c_Great (jD K (zc 0) (tC (.str "great")) "why") t.c_Nought (jD K (zc 0) (tC (.str "nought")) "why")))
def kg (K:W.Frag) (t:Adr):TS:=(zo (zE (zm (tOp rNe (yh (zc 0) (tC (.str "why"))) (tC (.str ""))))
   (zB (yb (zb (yb (zb (tC (.str "off")) (zb (yh (zc 0) (tC (.str "why"))) zi))) (zb (yh (zc 0) (tC (.str "notes"))) (zb (yB zi) zi)))))
   zv)
  (zB (yb (zb (yb (zb (tC (.str "done")) (zb (tCB (K7 K) (zb (yh (zc 0) (tC (.str "said"))) zi)) zi))) (zb (yh (zc 0) (tC (.str "notes"))) (zb (tCB Xp (zb (qd (yh (zc 0) (tC (.str "given")))) zi)) zi))))))
def vV (K:W.Frag) (t:Adr):TS:=(zo (zQ (zp yk [] E0 (zb (tOp (rI0 fun i j=>.int (i + j)) (tOp (ye K) (zc 1) (tOp (rI (fun _ j=>0 < j) fun i j=>.int (i % j)) (zc 4) (tCB (yN K) (zb (zc 1) zi)))) (zc 4)) (zb (tOp (rI0 fun i j=>.int (i + j)) (tC (.int 90)) (tOp (rI (fun _ j=>0 < j) fun i j=>.int (i % j)) (zc 4) (tC (.int 3)))) zi))) (zr 6))
  (zo (zE (zm (tOp jA (yg t.c_Run "step" (jZ t) [] E0 (zc 2) (zb (zc 6) zi)) (tC .non)))
    (zB (tC (.bl false)))
    zv)
  (yK (zc 3) (tC (.str "at")) (zp vn [] E0 (zb (zc 5) (zb (zc 3) (zb (zc 6) zi)))))))
def vW (K:W.Frag) (t:Adr):TS:=(zo (zE (tOr (zm (tOp qD (yg t.c_Run "over" (yq t) [] E0 (zc 2) zi) (tC (.bl false)))) (zm (tOp jA (yg t.c_Run "paper" (xX t) [] E0 (zc 2) zi) (tC .non))))
   (zB (tC (.bl false)))
   zv)
  (zo (zQ (tOp (ye K) (zc 0) (yh (zc 3) (tC (.str "at")))) (zr 5))
  (zo (zE (zm (tOp (XX K true) (yg t.c_Run "asks" (wK t) [] E0 (zc 2) zi) (zp vm [] E0 (zb (zc 5) (zb (zc 3) zi)))))
    (zB (tC (.bl false)))
    zv)
  (vV K t))))
def vX (K:W.Frag) (t:Adr):TS:=(zo (zQ (yg t.c_Run "paper" (xX t) [] E0 (zc 2) zi) (zr 7))
  (zB (kG (tOp KJ (yg t.c_Run "over" (yq t) [] E0 (zc 2) zi) (tC (.bl true))) (kG (tOp qZ (yg t.c_Run "asks" (wK t) [] E0 (zc 2) zi) (tC .non)) (kG (zp (xh  6) [] E0 (zb (zc 7) zi)) (tOp (XX K false) (zc 7) (zp j2 [] E0 (zb (zc 3) zi))))))))
def vY (K:W.Frag) (t:Adr):TS:=(zo (xD (v6 (zb (tCB (yN K) (zb (zc 0) zi)) zi)) (zr 4)
   (zo (zE (tOr (zm (tOp (rI0 fun i j=>.bl (decide (j≤i))) (yh (zc 3) (tC (.str "at"))) (tCB (yN K) (zb (zc 0) zi)))) (zm (tOp rNe (yh (zc 3) (tC (.str "why"))) (tC (.str "")))))
   Vw
   zv)
  (vW K t)))
  (vX K t))
def kh (K:W.Frag) (t:Adr):TS:=(zo (zQ (Kt t.c_Run (jY t) [] E0 (zb (tCB (zag K) (zb (zc 0) zi)) zi)) (zr 2))
  (zo (zQ (KC (((tC (.str "at")),(tC (.int 0))) :: (((tC (.str "slots")),Yc) :: (((tC (.str "known")),kW) :: (((tC (.str "given")),kW) :: (((tC (.str "notes")),(yB zi)) :: (((tC (.str "said")),(yB zi)) :: (((tC (.str "why")),(tC (.str ""))) :: [])))))))) (zr 3))
  (vY K t)))
def vq (K:W.Frag) (t:Adr) (n:Nat):TS:=(zo (zQ (zp (yY  n) [] E0 (zb (tOp (zT K) (zc 0) (tC (.int 2))) (zb (tOp (rI0 fun i j=>.int (i + j)) (zc 1) (tC (.int 1))) zi))) (zr 2))
  (zo (zQ (tOp (rI0 fun i j=>.int (i + j)) (tOp (rI0 fun i j=>.int (i + j)) (zc 1) (tC (.int 1))) (tCB (yN K) (zb (zc 2) zi))) (zr 3))
  (zo (zE (zm (tOp (VL K) (tOp (zT K) (zc 0) (tC (.int 3))) (yB zi)))
    (zB (tOp VH (yB (zb (yb (zb (tC (.str "skip")) (zb (tOp (zT K) (zc 0) (tC (.int 1))) (zb (zc 3) zi)))) zi)) (zc 2)))
    zv)
  (zo (zQ (zp (yY  n) [] E0 (zb (tOp (zT K) (zc 0) (tC (.int 3))) (zb (tOp (rI0 fun i j=>.int (i + j)) (zc 3) (tC (.int 1))) zi))) (zr 4))
  (zB (tOp VH (tOp VH (tOp VH (yB (zb (yb (zb (tC (.str "skip")) (zb (tOp (zT K) (zc 0) (tC (.int 1))) (zb (tOp (rI0 fun i j=>.int (i + j)) (zc 3) (tC (.int 1))) zi)))) zi)) (zc 2)) (yB (zb (yb (zb (tC (.str "go")) (zb (tOp (rI0 fun i j=>.int (i + j)) (tOp (rI0 fun i j=>.int (i + j)) (zc 3) (tC (.int 1))) (tCB (yN K) (zb (zc 4) zi))) zi))) zi))) (zc 4)))))))
def ki (K:W.Frag) (t:Adr) (n:Nat):TS:=(zo (zQ (yB zi) (zr 2))
  (zo (xD (Zn K (zc 0)) (zr 3)
    (zE (zm (tOp rEq (tOp (zT K) (zc 3) (tC (.int 0))) (tC (.str "if"))))
    (zY (tBM K "list" jS (zc 2) (zb (zp (vj  n) [] E0 (zb (zc 3) (zb (tOp (rI0 fun i j=>.int (i + j)) (zc 1) (tCB (yN K) (zb (zc 2) zi))) zi))) zi)))
    (zY (tBM K "list" zu (zc 2) (zb (zc 3) zi)))))
  (zB (zc 2))))
def ql (K:W.Frag) (t:Adr):TS:=(zB (zp (yY  6) [] E0 (zb (zc 0) (zb (tC (.int 0)) zi))))
def vt (K:W.Frag) (t:Adr):TS:=(zo (zQ (qy K "list" yR (zc 0)) (zr 1))
  (zE (zm (tOp qZ (tOp (ye K) (zc 1) (tC (.int 1))) (tC .non)))
   (zY (tBM K "list" zu (tOp (ye K) (tOp (ye K) (zc 0) (tUn (rU fun i=>.int (-i)) (tC (.int 1)))) (tC (.int 2))) (zb (yb (zb (tC (.str "if")) (zb (tOp (ye K) (zc 1) (tC (.int 0))) (zb (tOp (ye K) (zc 1) (tC (.int 2))) (zb (yB zi) zi))))) zi)))
   (zY (tBM K "list" zu (tOp (ye K) (tOp (ye K) (zc 0) (tUn (rU fun i=>.int (-i)) (tC (.int 1)))) (tC (.int 2))) (zb (yb (zb (tC (.str "if")) (zb (tOp (ye K) (zc 1) (tC (.int 0))) (zb (tOp (ye K) (zc 1) (tC (.int 1))) (zb (tOp (ye K) (zc 1) (tC (.int 2))) zi))))) zi)))))
def jq (K:W.Frag) (t:Adr):TS:=(zo (zE (zm (tOp (rI0 fun i j=>.bl (decide (i < j))) (tOp (rI (fun _ j=>0 < j) fun i j=>.int (i % j)) (zp zq [] E0 (zb (zc 0) (zb (tOp (rI0 fun i j=>.int (i + j)) (zc 1) (tC (.int 5))) zi))) (tC (.int 5))) (tC (.int 3))))
   (zB (tOp (ye K) (zc 2) (tOp (rI (fun _ j=>0 < j) fun i j=>.int (i % j)) (zp zq [] E0 (zb (zc 0) (zb (tOp (rI0 fun i j=>.int (i + j)) (zc 1) (tC (.int 6))) zi))) (tC (.int 2)))))
   zv)
  (zB (zp yk [] E0 (zb (zc 0) (zb (zc 1) zi)))))
def vv (K:W.Frag) (t:Adr):TS:=(zo (zQ (tOp (rI (fun _ j=>0 < j) fun i j=>.int (i % j)) (zp zq [] E0 (zb (zc 0) (zb (zc 1) zi))) (tC (.int 8))) (zr 7))
  (zo (zE (zm (tOp (rI0 fun i j=>.bl (decide (i < j))) (zc 7) (tC (.int 4))))
    (zB (yb (zb (zc 5) zi)))
    zv)
  (zo (zE (zm (tOp (rI0 fun i j=>.bl (decide (i < j))) (zc 7) (tC (.int 7))))
    (zB (yb (zb (zc 5) (zb (zc 6) (zb (zc 4) zi)))))
    zv)
  (zB (yb (zb (zc 5) (zb (zp yk [] E0 (zb (zc 0) (zb (tOp (rI0 fun i j=>.int (i + j)) (zc 1) (tC (.int 20))) zi))) (zb (zc 6) (zb (tOp (ye K) (zc 3) (tOp (rI (fun _ j=>0 < j) fun i j=>.int (i % j)) (zp zq [] E0 (zb (zc 0) (zb (tOp (rI0 fun i j=>.int (i + j)) (zc 1) (tC (.int 3))) zi))) (tC (.int 10)))) (zb (zc 4) zi))))))))))
def jr (K:W.Frag) (t:Adr):TS:=(zo (zQ (yB (zb (tC (.str "plus")) (zb (tC (.str "minus")) (zb (tC (.str "times")) (zb (tC (.str "over")) (zb (tC (.str "rest")) (zb (tC (.str "under")) (zb (tC (.str "same")) (zb (tC (.str "plus")) (zb (tC (.str "under")) (zb (tC (.str "minus")) zi))))))))))) (zr 3))
  (zo (zQ (tOp (ye K) (zc 3) (tOp (rI (fun _ j=>0 < j) fun i j=>.int (i % j)) (zp zq [] E0 (zb (zc 0) (zb (tOp (rI0 fun i j=>.int (i + j)) (zc 1) (tC (.int 2))) zi))) (tC (.int 10)))) (zr 4))
  (zo (zQ (zp wZ [] E0 (zb (zc 0) (zb (tOp (rI0 fun i j=>.int (i + j)) (zc 1) (tC (.int 1))) (zb (zc 2) zi)))) (zr 5))
  (zo (zQ (zp wZ [] E0 (zb (zc 0) (zb (tOp (rI0 fun i j=>.int (i + j)) (zc 1) (tC (.int 10))) (zb (zc 2) zi)))) (zr 6))
  (vv K t)))))
def js (K:W.Frag) (t:Adr):TS:=(zo (zE (zm (tOp rEq (tOp (rI (fun _ j=>0 < j) fun i j=>.int (i % j)) (zp zq [] E0 (zb (zc 0) (zb (zc 1) zi))) (tC (.int 4))) (tC (.int 0))))
   (zB (zp yx [] E0 (zb (zc 0) (zb (tOp (rI0 fun i j=>.int (i + j)) (zc 1) (tC (.int 1))) (zb (zc 2) zi)))))
   zv)
  (zB (yb (zb (tOp (rI0 fun i j=>.int (i - j)) (tOp (rI (fun _ j=>0 < j) fun i j=>.int (i % j)) (zp zq [] E0 (zb (zc 0) (zb (tOp (rI0 fun i j=>.int (i + j)) (zc 1) (tC (.int 2))) zi))) (tC (.int 3))) (tC (.int 1))) zi))))
def vZ (K:W.Frag) (t:Adr):TS:=(zo (zE (zm (tOp (rI0 fun i j=>.bl (decide (i < j))) (zc 3) (tC (.int 5))))
   (zB (yb (zb (tC (.str "take")) (zb (zc 4) (zb (zp xY [] E0 (zb (zc 0) (zb (tC (.int 20)) (zb (zc 1) zi)))) (zb (zc 5) zi))))))
   zv)
  (zo (zE (zm (tOp (rI0 fun i j=>.bl (decide (i < j))) (zc 3) (tC (.int 7))))
    (zB (yb (zb (tC (.str "give")) (zb (zc 4) (zb (zp xY [] E0 (zb (zc 0) (zb (tC (.int 20)) (zb (zc 1) zi)))) (zb (yb (zb (zc 5) zi)) zi))))))
    zv)
  (zo (zE (zm (tOp (rI0 fun i j=>.bl (decide (i < j))) (zc 3) (tC (.int 9))))
    (zB (yb (zb (tC (.str "give")) (zb (zc 4) (zb (zp xY [] E0 (zb (zc 0) (zb (tC (.int 20)) (zb (zc 1) zi)))) (zb (zp yx [] E0 (zb (zc 0) (zb (tC (.int 80)) (zb (zc 1) zi)))) zi))))))
    zv)
  (zo (zE (zm (tOp rEq (zc 3) (tC (.int 9))))
    (zB (yb (zb (tC (.str "let")) (zb (zc 5) (zb (zp yx [] E0 (zb (zc 0) (zb (tC (.int 80)) (zb (zc 1) zi)))) zi)))))
    zv)
  (zo (zE (zm (tOp rEq (zc 3) (tC (.int 10))))
    (zB (yb (zb (tC (.str "off")) (zb (yb (zb (zc 5) (zb (zp yk [] E0 (zb (zc 0) (zb (tC (.int 81)) zi))) (zb (tC (.str "same")) zi)))) zi))))
    zv)
  (zo (zE (wN (zm (tOp rEq (zc 3) (tC (.int 11)))) (zm (tOp rEq (tOp (rI (fun _ j=>0 < j) fun i j=>.int (i % j)) (zp zq [] E0 (zb (zc 0) (zb (tC (.int 162)) zi))) (tC (.int 3))) (tC (.int 0)))))
    (zo (zQ (yB (zb (yb (zb (zc 5) (zb (tC (.int 0)) (zb (tOp (ye K) (yB (zb (tC (.str "over")) (zb (tC (.str "rest")) zi))) (tOp (rI (fun _ j=>0 < j) fun i j=>.int (i % j)) (zp zq [] E0 (zb (zc 0) (zb (tC (.int 163)) zi))) (tC (.int 2)))) zi)))) (zb (yb (zb (tOp (rI Zy fun i j=>.int (i ^ j.toNat)) (tC (.int 10)) (tC (.int 30))) (zb (tC (.int 1)) (zb (tC (.str "plus")) zi)))) zi))) (zr 6))
  (zB (yb (zb (tC (.str "give")) (zb (zc 4) (zb (tOp (ye K) (zc 6) (tOp (rI (fun _ j=>0 < j) fun i j=>.int (i % j)) (zp zq [] E0 (zb (zc 0) (zb (tC (.int 164)) zi))) (tC (.int 2)))) (zb (tOp (ye K) (zc 6) (tOp (rI0 fun i j=>.int (i - j)) (tC (.int 1)) (tOp (rI (fun _ j=>0 < j) fun i j=>.int (i % j)) (zp zq [] E0 (zb (zc 0) (zb (tC (.int 164)) zi))) (tC (.int 2))))) zi)))))))
   zv)
  (zB (yb (zb (tC (.str "say")) (zb (zp yx [] E0 (zb (zc 0) (zb (tC (.int 80)) (zb (zc 1) zi)))) zi))))))))))
def kj (K:W.Frag) (t:Adr):TS:=(zo (zQ (tOp (rI (fun _ j=>0 < j) fun i j=>.int (i % j)) (zp zq [] E0 (zb (zc 0) (zb (tC (.int 0)) zi))) (tC (.int 17))) (zr 3))
  (zo (zQ (tOp (ye K) (zc 2) (tOp (rI (fun _ j=>0 < j) fun i j=>.int (i % j)) (zp zq [] E0 (zb (zc 0) (zb (tC (.int 160)) zi))) (tC (.int 2)))) (zr 4))
  (zo (zQ (tOp (ye K) (zc 1) (tOp (rI (fun _ j=>0 < j) fun i j=>.int (i % j)) (zp zq [] E0 (zb (zc 0) (zb (tC (.int 161)) zi))) (tC (.int 2)))) (zr 5))
  (vZ K t))))
def km (K:W.Frag) (t:Adr):TS:=(zY (zp xn [] E0 (zb (zc 3) zi)))
def vx (K:W.Frag) (t:Adr):TS:=(zY (tBM K "list" zu (tOp (ye K) (tOp (ye K) (zc 3) (tUn (rU fun i=>.int (-i)) (tC (.int 1)))) (tC (.int 2))) (zb (zp j0 [] E0 (zb (zc 4) (zb (zc 1) (zb (zc 2) zi)))) zi)))
def ko (K:W.Frag) (t:Adr):TS:=(zo (Zt (tOp (ye K) (zc 3) (tUn (rU fun i=>.int (-i)) (tC (.int 1)))) (tC (.int 1)) (tOp (ye K) (tOp (ye K) (zc 3) (tUn (rU fun i=>.int (-i)) (tC (.int 1)))) (tC (.int 2))))
  (Zt (tOp (ye K) (zc 3) (tUn (rU fun i=>.int (-i)) (tC (.int 1)))) (tC (.int 2)) (yB zi)))
def vy (K:W.Frag) (t:Adr):TS:=(zE (wN (zm (tOp rEq (zc 5) (tC (.int 16)))) (zm (tOp (rI0 fun i j=>.bl (decide (j < i))) (tCB (yN K) (zb (zc 3) zi)) (tC (.int 1)))))
   (km K t)
   (vx K t))
def vz (K:W.Frag) (t:Adr):TS:=(zY (tBM K "list" zu (zc 3) (zb (yB (zb (zp yx [] E0 (zb (zc 4) (zb (tC (.int 80)) (zb (zc 1) zi)))) (zb (tC .non) (zb (yB zi) zi)))) zi)))
def vA (K:W.Frag) (t:Adr):TS:=(zE (wN (zm (tOp (rIn K false) (zc 5) (yb (zb (tC (.int 14)) (zb (tC (.int 15)) zi))))) (wN (zm (tOp (rI0 fun i j=>.bl (decide (j < i))) (tCB (yN K) (zb (zc 3) zi)) (tC (.int 1)))) (zm (tOp qZ (tOp (ye K) (tOp (ye K) (zc 3) (tUn (rU fun i=>.int (-i)) (tC (.int 1)))) (tC (.int 1))) (tC .non)))))
   (ko K t)
   (vy K t))
def vB (K:W.Frag) (t:Adr):TS:=(zo (Vx (zm (tOp (rI0 fun i j=>.bl (decide (j < i))) (tCB (yN K) (zb (zc 3) zi)) (tC (.int 1)))) (zY (zp xn [] E0 (zb (zc 3) zi))))
  (zB (tOp (ye K) (tOp (ye K) (zc 3) (tC (.int 0))) (tC (.int 2)))))
def vC (K:W.Frag) (t:Adr):TS:=(zo (xD (Zn K (zc 0)) (zr 4)
   (zo (zQ (tOp (rI (fun _ j=>0 < j) fun i j=>.int (i % j)) (zp zq [] E0 (zb (zc 4) (zb (tC (.int 0)) zi))) (tC (.int 17))) (zr 5))
  (zE (wN (zm (tOp (rIn K false) (zc 5) (yb (zb (tC (.int 12)) (zb (tC (.int 13)) zi))))) (zm (tOp (rI0 fun i j=>.bl (decide (i < j))) (tCB (yN K) (zb (zc 3) zi)) (tC (.int 6)))))
   (vz K t)
   (vA K t))))
  (vB K t))
def jt (K:W.Frag) (t:Adr):TS:=(zo (zQ (yB (zb (yB (zb (tC .non) (zb (tC .non) (zb (yB zi) zi)))) zi)) (zr 3))
  (vC K t))
def W3 (K:W.Frag) (t:Adr):TS:=(zB (tC (.bl true)))
def YB (K:W.Frag) (t:Adr):TS:=(zo (xD (Xq (zb (tC (.int 0)) (zb (tCB (yN K) (zb (zc 4) zi)) (zb (zc 3) zi)))) (zr 5)
   (zo (zQ (tSl (VF K) (zc 4) (x8 (zc 5)) (x8 (tOp (rI0 fun i j=>.int (i + j)) (zc 5) (zc 3)))) (zr 6))
  (zE (jc (tB (zp j3 [] E0 (zb (zp qg [] E0 (zb (zp jl [] E0 (zb (zc 6) (zb (zc 1) (zb (zc 2) zi)))) zi)) (zb (zc 6) zi)))))
   (zB (tC (.bl false)))
   zv)))
  (W3 K t))
def W4 (K:W.Frag) (t:Adr):TS:=(zo (zQ (tSl (VF K) (zc 0) xr (x8 (tC (.int 120)))) (zr 4))
  (YB K t))
def V2 (K:W.Frag) (t:Adr):TS:=(zo (zQ (zp wD [] E0 (zb (zp (y8 K) [] E0 (zb (zc 0) (zb (tC (.int 0)) zi))) (zb (tC (.int 2)) zi))) (zr 1))
  (zo (zQ (zp wD [] E0 (zb (zp (y8 K) [] E0 (zb (zc 0) (zb (tC (.int 1)) zi))) (zb (tC (.int 2)) zi))) (zr 2))
  (zo (zQ (tOp (rI0 fun i j=>.int (i + j)) (tC (.int 1)) (tOp (rI (fun _ j=>0 < j) fun i j=>.int (i % j)) (zp zq [] E0 (zb (zp (y8 K) [] E0 (zb (zc 0) (zb (tC (.int 0)) zi))) (zb (tC (.int 200)) zi))) (tC (.int 16)))) (zr 3))
  (W4 K t))))
section
variable {K:W.Frag} {t:Adr} {H:Hp} {Q:VK}
theorem Xu {j:Int} (h0:0≤j) (h1:j≤100):Zy 10 j:=⟨h0,by lia,by decide⟩
theorem yv {n:Nat} (h:n≤100000):n≤sizeLine:=Nat.le_trans h (by decide)
theorem vD (T:String):W.kitOne K (.type T) (.type T)=some true:=by
 unfold W.kitOne
 rw [if_pos (by simp)]
theorem kf (K:W.Frag):KF K:=⟨by with_unfolding_all rfl,by with_unfolding_all rfl,by with_unfolding_all rfl,by with_unfolding_all rfl,by with_unfolding_all rfl,by with_unfolding_all rfl,by with_unfolding_all rfl,by with_unfolding_all rfl,by with_unfolding_all rfl,by with_unfolding_all rfl⟩
theorem dB {i j:Int} (h0:0 < j:=by decide) (h1:j < 10000000000000000000000000000000000000000000000:=by decide):KK i j:=by
 have hb:(10000000000000000000000000000000000000000000000:Int) < big:=by decide +kernel
 exact ⟨h0,by lia⟩
theorem Qy {α:Type} {xs:List α} {i:Int} (h0:0≤i) (h1:i < xs.length):∃ x,atI xs i=some x∧x∈xs:=by
 obtain ⟨n,rfl⟩:∃ n:Nat,i=(n:Int):=⟨i.toNat,by lia⟩
 have hn:n < xs.length:=by lia
 refine ⟨xs[n],?_,List.getElem_mem hn⟩
 unfold atI ixN
 rw [if_pos h0,if_pos h1]
 simp [hn]
theorem X8 {α:Type} {xs:List α} (e:Int) (n:Nat) (hl:xs.length=n) (hn:0 < (n:Int)):∃ x,atI xs (e % n)=some x∧x∈xs :=
 Qy (Int.emod_nonneg _ (by lia)) (by rw [hl];exact Int.emod_lt_of_pos _ hn)
theorem X9 {i:Int} (hK:zav K) (q:∀ H',Same H H'→Q (.bl (inW i)) H') :
  j9 K t { nx:=fun _ H'=>Q .non H',rt:=Q } (L2.start ["thing"] [.int i]) H:=by
 simp only [j9,L2.start,zo,zB,zv,tOp,tUn,zc,tC,zb,zi,zE,tOr,jc,tB,tCB,VA,rI,rI0,rU,wX,List.map,List.replicate,List.length,List.append,jqa,jqb,jqc,jqd,jqe,jqf,jqg,jqh,jqi,jqj,jqk,jql,jqm,jqn,and_true,true_and,and_assoc,jqo,jqp,jqq,jqr,jqs,jqt,if_true,ite_true,jqu,ite_false,if_false]
 have q:=q H (Same.refl H)
 refine ⟨_,.int i,true,vD _,?_⟩
 rw [if_neg (by decide)]
 refine ⟨_,.int i,false,hK,?_⟩
 rw [if_neg (by decide)]
 refine ⟨Xu (by decide) (by decide),yQ (fun c=>⟨Xu (by decide) (by decide),?_⟩) fun c=>?_⟩
 ·have e:inW i=decide (i≤1000000000000000000000000000000):=by
   unfold inW
   by_cases h:i≤1000000000000000000000000000000
   ·rw [decide_eq_true h,decide_eq_true ⟨c,h⟩]
   ·rw [decide_eq_false h,decide_eq_false fun z=>h z.2]
  rw [e] at q
  exact q
 ·have e:inW i=false:=decide_eq_false fun z=>c z.1
  rw [e] at q
  exact q
theorem W5 {E:XK} {w:Str} {a b:Int} (hw:w.length≤1000) (ha:inW a=true) (hb:inW b=true) (q:∀ H',Same H H'→if b=0 then E (.ref t.c_Nought) none H' else Q (.int (if w="over" then a.fdiv b else a.fmod b)) H') :
  qj K t E { nx:=fun _ H'=>Q .non H',rt:=Q } (L2.start ["word","first","second"] [.str w,.int a,.int b]) H:=by
 simp only [qj,L2.start,Yj,WG,zo,zB,zv,tOp,zc,tC,zb,zi,zE,zm,tIf,rEq,rI,yP,List.map,List.replicate,List.length,List.append,jqa,jqb,jqc,jqd,jqe,jqf,jqg,jqh,jqi,jqj,jqk,jql,jqm,jqn,and_true,true_and,and_assoc,jqo,jqp,jqq,jqr,jqs,jqt,if_true,ite_true,jqu,ite_false,if_false]
 have q:=q H (Same.refl H)
 have B:=ZT hb
 refine yQ (fun c=>?_) fun c=>?_
 ·rw [if_pos c] at q
  exact ⟨by lia,fun y=>⟨by decide,q⟩⟩
 ·rw [if_neg c] at q
  refine yQ (fun e=>?_) fun e=>?_
  ·rw [if_pos e] at q
   exact ⟨⟨c,B⟩,q⟩
  ·rw [if_neg e] at q
   exact ⟨c,q⟩
theorem W6 {E:XK} {w:Str} {a b:Int} (hw:w.length≤1000) (ha:inW a=true) (hb:inW b=true) (q:∀ H',Same H H'→if kM w∧b=0 then E (.ref t.c_Nought) none H' else Q (.int (yE w a b)) H') :
  qk K t E { nx:=fun _ H'=>Q .non H',rt:=Q } (L2.start ["word","first","second"] [.str w,.int a,.int b]) H:=by
 simp only [qk,qe,L2.start,zo,zB,zv,tOp,zc,tC,zb,zi,zE,zm,tIf,zp,rEq,rI,rI0,yP,List.map,List.replicate,List.length,List.append,jqa,jqb,jqc,jqd,jqe,jqf,jqg,jqh,jqi,jqj,jqk,jql,jqm,jqn,and_true,true_and,and_assoc,jqo,jqp,jqq,jqr,jqs,jqt,if_true,ite_true,jqu,ite_false,if_false]
 have A:=ZT ha
 have B:=ZT hb
 have nd:¬ kM w→Q (.int (yE w a b)) H:=fun h=>by
  have q:=q H (Same.refl H)
  rw [if_neg fun z=>h z.1] at q
  exact q
 refine yQ (fun c=>?_) fun c1=>yQ (fun c=>?_) fun c2=>yQ (fun c=>⟨⟨A,B⟩,?_⟩) fun c3=>yQ (fun c=>?_) fun c4=>yQ (fun c=>?_) fun c5=>⟨hw,ha,hb,fun H' s=>?_⟩
 ·subst c
  have q:=nd fun z=>z.1 rfl
  exact q
 ·subst c
  have q:=nd fun z=>z.2.1 rfl
  rw [show yE "minus" a b=a - b by unfold yE;rw [if_neg c1,if_pos rfl]] at q
  exact q
 ·subst c
  have q:=nd fun z=>z.2.2.1 rfl
  rw [show yE "times" a b=a * b by unfold yE;rw [if_neg c1,if_neg c2,if_pos rfl]] at q
  exact q
 ·subst c
  have q:=nd fun z=>z.2.2.2.1 rfl
  rw [show yE "under" a b=if a < b then 1 else 0 by unfold yE;rw [if_neg c1,if_neg c2,if_neg c3,if_pos rfl]] at q
  refine yQ (fun d=>?_) fun d=>?_
  ·rw [if_pos d] at q;exact q
  ·rw [if_neg d] at q;exact q
 ·subst c
  have q:=nd fun z=>z.2.2.2.2 rfl
  rw [show yE "same" a b=if a=b then 1 else 0 by unfold yE;rw [if_neg c1,if_neg c2,if_neg c3,if_neg c4,if_pos rfl]] at q
  refine yQ (fun d=>?_) fun d=>?_
  ·rw [if_pos d] at q;exact q
  ·rw [if_neg d] at q;exact q
 ·have q:=q H' s
  have hd:kM w:=⟨c1,c2,c3,c4,c5⟩
  refine yQ (fun d=>?_) fun d=>?_
  ·rw [if_pos ⟨hd,d⟩] at q;exact q
  ·rw [if_neg fun z=>d z.2] at q
   unfold yE at q
   rw [if_neg c1,if_neg c2,if_neg c3,if_neg c4,if_neg c5] at q
   exact q
theorem V3 {E:XK} {w:Str} {a b:Int} (hw:w.length≤1000) (ha:inW a=true) (hb:inW b=true) (q:∀ H',Same H H'→fin t (yM w a b) Q E H') :
  Zi K t E { nx:=fun _ H'=>Q .non H',rt:=Q } (L2.start ["word","first","second","worth"] [.str w,.int a,.int b]) H:=by
 simp only [Zi,qf,jU,L2.start,Yj,WG,zo,zQ,zr,zB,zv,zc,zb,zi,zE,jc,tB,zp,List.map,List.replicate,List.length,List.append,jqa,jqb,jqc,jqd,jqe,jqf,jqg,jqh,jqi,jqj,jqk,jql,jqm,jqn,and_true,true_and,and_assoc,jqo,jqp,jqq,jqr,jqs,jqt,if_true,ite_true,jqu,ite_false,if_false]
 refine ⟨hw,ha,hb,fun H1 s1=>yQ (fun c=>?_) fun c H2 s2=>yQ (fun d=>?_) fun d=>?_⟩
 ·have q:=q H1 s1
  unfold yM at q
  rw [if_pos c] at q
  exact q
 ·have q:=q H2 (s1.trans s2)
  unfold yM at q
  rw [if_neg c,if_neg (by rw [d];decide)] at q
  exact ⟨by lia,fun y=>⟨by decide,q⟩⟩
 ·have q:=q H2 (s1.trans s2)
  unfold yM at q
  rw [if_neg c,if_pos (by simpa using d)] at q
  exact q
theorem kq {xs:List V} {y:V}:(xs ++ [y])[(xs ++ [y]).length - 1]?=some y:=by simp
theorem wA {xs:List V} {y:V}:(xs ++ [y]).dropLast=xs:=by simp
theorem yL {H H':Hp} {w:Addr} {o:HO} (s:Same H H') (hw:H w=none):Same H (upd H' w o):=fun b u e=>by rw [zk (zL e hw)];exact s b u e
theorem Qz (st:List Int):(∃ l a b,st=l ++ [a,b])∨∀ kvs v,isJ v=true→xI kvs st v=.error .stuck:=by
 cases h:st.reverse with
 | nil =>
  refine .inr fun kvs v hv=>?_
  unfold xI
  rw [hv,if_pos rfl,h]
  split <;> rename_i e1 e2 <;> first | rfl | cases e2
 | cons b r =>
  cases r with
  | nil =>
   refine .inr fun kvs v hv=>?_
   unfold xI
   rw [hv,if_pos rfl,h]
   split <;> rename_i e1 e2 <;> first | rfl | cases e2
  | cons a r =>
   refine .inl ⟨r.reverse,a,b,?_⟩
   have:=congrArg List.reverse h
   rw [List.reverse_reverse] at this
   rw [this];simp
theorem W7 {kvs:List (Key × V)} {l:List Int} {a b:Int} {w:Str} (hw:isJ (.str w)=true):xI kvs (l ++ [a,b]) (.str w)=match yM w a b with | .ok c=>.ok (l ++ [c]) | .error e=>.error e:=by
 unfold xI
 rw [hw,if_pos rfl]
 simp only [List.reverse_append,List.reverse_cons,List.reverse_nil,List.nil_append,List.cons_append]
 cases yM w a b with
 | error e=>rfl
 | ok c=>simp
def rkI (kvs:List (Key × V)) (ps:List V) (tm sl w:Addr) (H:Hp) (i:Nat) (σ:St) (H':Hp):Prop:=∃ st,(∃ o3 o4 o5,σ=[some (.ref tm),some (.ref sl),some (.ref w),o3,o4,o5])∧x9 kvs (ps.take i) []=.ok st∧(∀ x∈st,inW x=true)∧st.length≤i∧H' w=some (.lst (st.map V.int))∧Same H H'
theorem Wa {E:XK} {kvs:List (Key × V)} {tm sl:Addr} {ps:List V} {r:Except Er Int} (hK:W.kitOne K (.type "int") (.type "str")=some false) (hJ:∀ H:Hp,SqT K H t.c_JOINING jw) (h1:H tm=some (.tup ps)) (h2:H sl=some (.dK kvs)) (h3:Good kvs ps r) (h4:∀ v∈ps,jj v) (h5:ps.length≤1000) (h6:yt kvs)
  (q:∀ H',Same H H'→fin t r Q E H'):ka K t E { nx:=fun _ H'=>Q .non H',rt:=Q } (L2.start ["term","slots","worths","part","second","first"] [.ref tm,.ref sl]) H:=by
 simp only [ka,Zg,xE,L2.start,xE,zu,yR,yf,XL,zo,zQ,zr,zB,zY,tOp,zc,tC,yB,zb,zi,xD,zE,zm,tB,tIf,tCB,tBM,qy,tyV,zp,XC,rIn,wX,List.map,List.replicate,List.length,List.append,jqa,jqb,jqc,jqd,jqe,jqf,jqg,jqh,jqi,jqj,jqk,jql,jqm,jqn,and_true,true_and,and_assoc,jqo,jqp,jqq,jqr,jqs,jqt,if_true,ite_true,jqu,ite_false,if_false]
 refine ⟨by decide,fun w hw=>⟨⟨_,SqT.of ((isV w hw) _ _ h1)⟩,?_⟩⟩
 have run0:=h3.1 []
 have fe:∀ {e:Er} {H':Hp},x9 kvs ps []=.error e→Same H H'→fin t (.error e) Q E H':=fun {e H'} z s=>by
  rw [z] at run0
  cases r with
  | ok i=>cases run0
  | error e' =>
   cases run0
   exact q _ s
 have ns:x9 kvs ps []≠.error .stuck:=fun z=>by
  rw [z] at run0
  cases r with
  | ok i=>cases run0
  | error e' =>
   cases run0
   exact h3.2 rfl
 refine Yl ps (rkI kvs ps tm sl w H) ⟨[],⟨_,_,_,rfl⟩,rfl,(fun x z=>nomatch z),Nat.le_refl _,ze,isV w hw⟩ (fun i σ H' ⟨st,a,b,c,d,e,s⟩=>SqT.of (s _ _ h1)) ?_ ?_
 ·rintro i v σ H' hv ⟨st,⟨o3,o4,o5,rfl⟩,hr,hW,hl,hst,hS⟩
  have hi:i < ps.length:=(List.getElem?_eq_some_iff.mp hv).1
  have one:=Jq hr hv
  have ok:=h4 v (List.mem_of_getElem? hv)
  have fl:kI v=true:=by rcases ok with ⟨j,rfl,_⟩ | ⟨x,rfl,_⟩ <;> rfl
  simp only [xE,L2.start,xE,zu,yR,yf,XL,zo,zQ,zr,zB,zY,tOp,zc,tC,yB,zb,zi,xD,zE,zm,tB,tIf,tCB,tBM,qy,tyV,zp,XC,rIn,wX,List.map,List.replicate,List.length,List.append,jqa,jqb,jqc,jqd,jqe,jqf,jqg,jqh,jqi,jqj,jqk,jql,jqm,jqn,and_true,true_and,and_assoc,jqo,jqp,jqq,jqr,jqs,jqt,if_true,ite_true,jqu,ite_false,if_false]
  refine ⟨jw,.inr (hJ H'),fl,rfl,yQ (fun c=>?_) fun c=>?_⟩
  ·rcases Qz st with ⟨l,a,b,rfl⟩ | z
   ·obtain ⟨x,rfl,hx⟩:∃ x:Str,v=.str x∧x.length≤1000:=by
     rcases ok with ⟨j,rfl,_⟩ | h
     ·exact absurd c (by rw [show inV (V.int j) jw=false from rfl];decide)
     ·exact h
    have e1:List.map V.int (l ++ [a,b])=(l.map V.int ++ [.int a]) ++ [.int b]:=by simp
    rw [e1] at hst
    have one':=one.trans (W7 c)
    have wa:=hW a (by simp)
    have wb:=hW b (by simp)
    refine ⟨.inl ⟨_,SqL.of hst⟩,_,hst,_,kq,.inl ⟨_,SqL.of ze⟩,_,by rw [wA];exact ze,_,kq,.inl ⟨_,SqL.of ze⟩,x,rfl,a,rfl,b,rfl,hx,wa,wb,fun H2 s2=>?_⟩
    rw [wA,wA] at s2
    have S2:Same H H2:=(yL (yL hS hw) hw).trans s2
    cases e:yM x a b with
    | ok d =>
     rw [e] at one'
     have hd:inW d=true:=by
      unfold yM at e
      split at e
      ·cases e
      ·split at e
       ·rename_i z;cases e;exact z
       ·cases e
     refine ⟨_,s2 _ _ ze,?_,l ++ [d],⟨_,_,_,rfl⟩,one',?_,?_,?_,yL S2 hw⟩
     ·rw [List.length_map]
      have:(l ++ [a,b]).length=l.length + 2:=by simp
      exact Nat.lt_of_le_of_lt (by lia:l.length≤1000) (by decide)
     ·intro y hy
      rcases List.mem_append.mp hy with h | h
      ·exact hW y (List.mem_append_left _ h)
      ·have:y=d:=by simpa using h
       rw [this];exact hd
     ·have:(l ++ [a,b]).length=l.length + 2:=by simp
      rw [List.length_append];show l.length + 1≤i + 1
      lia
     ·rw [List.map_append];exact ze
    | error er =>
     rw [e] at one'
     have:=fe (ZS one') S2
     cases er with
     | nought=>exact this
     | great=>exact this
     | stuck=>trivial
   ·exact absurd (ZS (one.trans (z kvs v c))) ns
  ·have st1:xI kvs st v=.ok (st ++ [Yq kvs v]):=by
    unfold xI
    rw [if_neg (by unfold isJ;exact c)]
   have one':=one.trans st1
   have hwv:=Yr h6 ok
   have fin1:∀ u,u=V.int (Yq kvs v)→rkI kvs ps tm sl w H (i + 1) [some (V.ref tm),some (V.ref sl),some (V.ref w),some v,o4,o5] (upd H' w (HO.lst (List.map V.int st ++ [u]))):=fun u hu=>by
    subst hu
    refine ⟨st ++ [Yq kvs v],⟨_,_,_,rfl⟩,one',?_,?_,?_,yL hS hw⟩
    ·intro y hy
     rcases List.mem_append.mp hy with h | h
     ·exact hW y h
     ·have:y=Yq kvs v:=by simpa using h
      rw [this];exact hwv
    ·rw [List.length_append];show st.length + 1≤i + 1
     lia
    ·rw [List.map_append];exact ze
   have sz:(List.map V.int st).length < sizeLine:=by
    rw [List.length_map]
    exact Nat.lt_of_le_of_lt (by lia:st.length≤1000) (by decide)
   refine ⟨.inl ⟨_,SqL.of hst⟩,?_⟩
   rcases ok with ⟨j,rfl,hj⟩ | ⟨x,rfl,hx⟩
   ·refine ⟨_,.int j,false,hK,?_⟩
    rw [if_neg (by decide)]
    exact ⟨_,hst,sz,fin1 _ rfl⟩
   ·refine ⟨_,.str x,true,vD _,?_⟩
    rw [if_pos rfl]
    refine ⟨.inl ⟨kvs,.inl (hS _ _ h2)⟩,_,DGet.k (k:=.inr x) (hS _ _ h2),_,hst,sz,fin1 _ ?_⟩
    show (yo kvs (.inr x)).getD (V.int 0)=V.int (match yo kvs (.inr x) with | some (.int i)=>i | _=>0)
    cases e:yo kvs (.inr x) with
    | none=>rfl
    | some u =>
     obtain ⟨i,rfl,_⟩:=h6 _ _ e
     rfl
 ·rintro σ H' ⟨st,⟨o3,o4,o5,rfl⟩,hr,hW,hl,hst,hS⟩
  rw [List.take_length] at hr
  simp only [xE,L2.start,xE,zu,yR,yf,XL,zo,zQ,zr,zB,zY,tOp,zc,tC,yB,zb,zi,xD,zE,zm,tB,tIf,tCB,tBM,qy,tyV,zp,XC,rIn,wX,List.map,List.replicate,List.length,List.append,jqa,jqb,jqc,jqd,jqe,jqf,jqg,jqh,jqi,jqj,jqk,jql,jqm,jqn,and_true,true_and,and_assoc,jqo,jqp,jqq,jqr,jqs,jqt,if_true,ite_true,jqu,ite_false,if_false]
  rw [hr] at run0
  cases r with
  | error e=>cases run0
  | ok i =>
   have e:st=[i]:=by injection run0
   subst e
   exact ⟨.inl ⟨_,SqL.of hst⟩,_,hst,_,rfl,q _ (yL hS hw)⟩
theorem Zj {a:Addr} {ns:List Int} {k:Nat} (hS:SqL K H a (ns.map V.int)) (hl:ns.length≤63) (q:∀ c H',Same H H'→Q (.int c) H') :
  wR K t { nx:=fun _ H'=>Q .non H',rt:=Q } (L2.start ["script","k"] [.ref a,.int k]) H:=by
 simp only [wR,L2.start,zo,zB,zv,tOp,zc,tC,zb,zi,zE,zm,tCB,xS,ye,rI0,yN,List.map,List.replicate,List.length,List.append,jqa,jqb,jqc,jqd,jqe,jqf,jqg,jqh,jqi,jqj,jqk,jql,jqm,jqn,and_true,true_and,and_assoc,jqo,jqp,jqq,jqr,jqs,jqt,if_true,ite_true,jqu,ite_false,if_false]
 refine ⟨_,.inl ⟨_,hS,rfl⟩,yQ (fun c=>?_) fun _=>q _ _ (Same.refl H)⟩
 obtain ⟨v,hv,hm⟩:=Qy (xs:=ns.map V.int) (i:=(k:Int)) (by lia) c
 obtain ⟨i,_,rfl⟩:=List.mem_map.mp hm
 exact ⟨_,hS,_,hv,q _ _ (Same.refl H)⟩
theorem qK (c:Nat):({ cps:=#[c] }:Str).length=1:=rfl
theorem zF {H H':Hp} {D:Addr} (s:Same H H') (h:H' D=none):H D=none:=by
 cases e:H D with
 | none=>rfl
 | some o=>rw [s _ _ e] at h;cases h
theorem wL {H1:Hp} {R b:Addr} {o:HO} (h:H1 R=some o) (hb:H1 b=none):b≠R:=fun z=>by rw [z,h] at hb;cases hb
theorem fin_err {t:Adr} {e:Er} {Q:VK} {E:XK} {H:Hp}:fin t (.error e) Q E H↔V1 t e E H:=by cases e <;> rfl
theorem fin_ok {t:Adr} {i:Int} {Q:VK} {E:XK} {H:Hp}:fin t (.ok i) Q E H↔Q (.int i) H:=Iff.rfl
theorem YU {c j:Int} (h1:0≤j) (h2:j≤1000) (q:∀ r H',0≤r→r < 2147483648→Same H H'→Q (.int r) H') :
  jm K t { nx:=fun _ H'=>Q .non H',rt:=Q } (L2.start ["cell","j","far"] [.int c,.int j]) H:=by
 simp only [jm,L2.start,zo,zQ,zr,zB,tOp,zc,tC,rI,rI0,List.map,List.replicate,List.length,List.append,jqa,jqb,jqc,jqd,jqe,jqf,jqg,jqh,jqi,jqj,jqk,jql,jqm,jqn,and_true,true_and,and_assoc,jqo,jqp,jqq,jqr,jqs,jqt,if_true,ite_true,jqu,ite_false,if_false]
 have hb:(10000000000000000000000000000000000000000000000:Int) < big:=by decide +kernel
 have g1:=Int.emod_nonneg c (b:=1000000007) (by decide)
 have g2:=Int.emod_lt_of_pos c (b:=1000000007) (by decide)
 generalize c % 1000000007=a at *
 have g3:=Int.emod_nonneg (a * 6700417 + (j + 1) * 104729 * 65537) (b:=1000000009) (by decide)
 have g4:=Int.emod_lt_of_pos (a * 6700417 + (j + 1) * 104729 * 65537) (b:=1000000009) (by decide)
 generalize hf:(a * 6700417 + (j + 1) * 104729 * 65537) % 1000000009=f at *
 have g5:=Int.emod_nonneg (f * f) (b:=1000000009) (by decide)
 have g6:=Int.emod_lt_of_pos (f * f) (b:=1000000009) (by decide)
 generalize hg:f * f % 1000000009=g at *
 have g7:=Int.emod_nonneg (g * f) (b:=1000000009) (by decide)
 have g8:=Int.emod_lt_of_pos (g * f) (b:=1000000009) (by decide)
 refine ⟨by decide,⟨⟨by lia,by lia⟩,by lia,by lia⟩,⟨⟨by lia,by lia⟩,by lia,by lia⟩,⟨⟨by lia,by lia⟩,by lia,by lia⟩,by decide,?_⟩
 refine ⟨⟨⟨by lia,by lia⟩,by lia,by lia⟩,by decide,⟨⟨by lia,by lia⟩,by lia,by lia⟩,by decide,dB,q _ _ ?_ ?_ (Same.refl H)⟩
 ·exact Int.ediv_nonneg g7 (by decide)
 ·lia
theorem CsAt.same {H H':Hp} {v:V} {c:Cs} (h:CsAt H v c) (s:Same H H'):CsAt H' v c:=by
 cases c with
 | row r=>exact ⟨h.1.mono s,h.2⟩
 | skip e to =>
  obtain ⟨p,te,h1,h2,h3⟩:=h
  exact ⟨p,te,h1,s _ _ h2,s _ _ h3⟩
 | go en =>
  obtain ⟨p,h1,h2⟩:=h
  exact ⟨p,h1,s _ _ h2⟩
theorem w4 {H H':Hp} (s:Same H H'):∀ {xs:List V} {C:List Cs},Paired (CsAt H) xs C→Paired (CsAt H') xs C
 | _,_,.nil=>.nil
 | _,_,.cons h r=>.cons (h.same s) (w4 s r)
def TSm (H H':Hp):Prop:=∀ b ys,H b=some (.tup ys)→H' b=some (.tup ys)
theorem CsAt.ts {H H':Hp} {v:V} {c:Cs} (s:TSm H H') (h:CsAt H v c):CsAt H' v c:=by
 cases c with
 | row r =>
  obtain ⟨h,n⟩:=h
  refine ⟨?_,n⟩
  cases r with
  | iff e a b=>exact n.elim
  | take sh e sl =>
   obtain ⟨r,te,a1,a2,a3,a4,a5⟩:=h
   exact ⟨r,te,a1,a2,a3,s _ _ a4,s _ _ a5⟩
  | give sh e f =>
   obtain ⟨r,te,tf,a1,a2,a3,a4,a5,a6,a7⟩:=h
   exact ⟨r,te,tf,a1,a2,a3,a4,s _ _ a5,s _ _ a6,s _ _ a7⟩
  | lt sl e =>
   obtain ⟨r,te,a1,a2,a3,a4,a5⟩:=h
   exact ⟨r,te,a1,a2,a3,s _ _ a4,s _ _ a5⟩
  | say e =>
   obtain ⟨r,te,a1,a2,a3,a4,a5⟩:=h
   exact ⟨r,te,a1,a2,a3,s _ _ a4,s _ _ a5⟩
  | off e =>
   obtain ⟨r,te,a1,a2,a3,a4,a5⟩:=h
   exact ⟨r,te,a1,a2,a3,s _ _ a4,s _ _ a5⟩
 | skip e to =>
  obtain ⟨p,te,h1,h2,h3⟩:=h
  exact ⟨p,te,h1,s _ _ h2,s _ _ h3⟩
 | go en =>
  obtain ⟨p,h1,h2⟩:=h
  exact ⟨p,h1,s _ _ h2⟩
theorem v3 {H H':Hp} (s:TSm H H'):∀ {xs:List V} {C:List Cs},Paired (CsAt H) xs C→Paired (CsAt H') xs C
 | _,_,.nil=>.nil
 | _,_,.cons h r=>.cons (h.ts s) (v3 s r)
theorem zax (x:Rw):(∃ e a b,x=.iff e a b)∨W2 x:=by
 cases x with
 | iff e a b=>exact .inl ⟨e,a,b,rfl⟩
 | _=>exact .inr trivial
theorem vd {x:Rw} (h:W2 x) (k:Nat):xk x k=[.row x]:=by
 cases x with
 | iff e a b=>exact h.elim
 | _=>rw [xk];intro e a b z;cases z
theorem zay {F:Addr→Prop} {v:V} {r:Rw} (h:RwAt F H v r):∃ p xs hd,v=.ref p∧H p=some (.tup xs)∧atI xs 0=some (.str hd)∧(hd="if"↔¬ W2 r):=by
 cases r with
 | take sh e sl =>
  unfold RwAt at h
  obtain ⟨r,te,rfl,_,_,e2,e3⟩:=h
  exact ⟨r,_,_,rfl,e2,rfl,⟨fun z=>absurd z (by decide +kernel),fun z=>absurd trivial z⟩⟩
 | give sh e f =>
  unfold RwAt at h
  obtain ⟨r,te,tf,rfl,_,_,_,e2,e3⟩:=h
  exact ⟨r,_,_,rfl,e2,rfl,⟨fun z=>absurd z (by decide +kernel),fun z=>absurd trivial z⟩⟩
 | lt sl e =>
  unfold RwAt at h
  obtain ⟨r,te,rfl,_,_,e2,e3⟩:=h
  exact ⟨r,_,_,rfl,e2,rfl,⟨fun z=>absurd z (by decide +kernel),fun z=>absurd trivial z⟩⟩
 | say e =>
  unfold RwAt at h
  obtain ⟨r,te,rfl,_,_,e2,e3⟩:=h
  exact ⟨r,_,_,rfl,e2,rfl,⟨fun z=>absurd z (by decide +kernel),fun z=>absurd trivial z⟩⟩
 | off e =>
  unfold RwAt at h
  obtain ⟨r,te,rfl,_,_,e2,e3⟩:=h
  exact ⟨r,_,_,rfl,e2,rfl,⟨fun z=>absurd z (by decide +kernel),fun z=>absurd trivial z⟩⟩
 | iff e a b =>
  unfold RwAt at h
  obtain ⟨r,te,la,lb,xs,ys,rfl,f1,f2,f3,f4,e2,e3⟩:=h
  exact ⟨r,_,_,rfl,e2,rfl,⟨fun _ z=>z,fun _=>rfl⟩⟩
theorem Paired.app2 {α β:Type} {F:α→β→Prop}:∀ {a:List α} {b:List β} {c:List α} {d:List β},Paired F a b→Paired F c d→Paired F (a ++ c) (b ++ d)
 | _,_,_,_,.nil,h=>h
 | _,_,_,_,.cons h r,h2=>.cons h (Paired.app2 r h2)
theorem W8 {v:V} {r:Rws} (h1:RlAt Yw H v r) (h2:qJ 6 r) (h3:(zD r 0).length≤500) (q:∀ l xs H',Same H H'→H l=none→H' l=some (.lst xs)→Paired (CsAt H') xs (zD r 0)→Q (.ref l) H') :
  ql K t { nx:=fun _ H'=>Q .non H',rt:=Q } (L2.start ["rows"] [v]) H:=by
 simp only [ql,yY,L2.start,zB,zc,tC,zb,zi,zp,List.map,List.replicate,List.length,List.append,jqa,jqb,jqc,jqd,jqe,jqf,jqg,jqh,jqi,jqj,jqk,jql,jqm,jqn,and_true,true_and,and_assoc,jqo,jqp,jqq,jqr,jqs,jqt,if_true,ite_true,jqu,ite_false,if_false]
 exact ⟨r,0,rfl,h1,h2,by lia,q⟩
def sfI (v:V) (L:Addr) (xs:List V) (k n:Nat) (r:Rws) (H:Hp) (i:Nat) (σ:St) (H':Hp):Prop:=∃ (rest:Rws) (ys:List V) (C:List Cs),(∃ o,σ=[some v,some (.int k),some (.ref L),o])∧Same H H'∧H' L=some (.lst ys)∧Paired (CsAt H') ys C∧RwsAt Yw H (xs.drop i) rest∧qJ (n + 1) rest∧C ++ zD rest (k + C.length)=zD r k
theorem YC {H:Hp} {L:Addr} {ys zs:List V} (h:H L=some (.lst ys)):TSm H (upd H L (.lst zs)):=fun b us e=>by rw [zk (zS e h (fun z=>nomatch z))];exact e
theorem Wb {v:V} {r:Rws} {k n:Nat} (h1:RlAt Yw H v r) (h2:qJ (n + 1) r) (h3:k + (zD r k).length≤500) (q:∀ l xs H',Same H H'→H l=none→H' l=some (.lst xs)→Paired (CsAt H') xs (zD r k)→Q (.ref l) H') :
  ki K t n { nx:=fun _ H'=>Q .non H',rt:=Q } (L2.start ["rows","first","steps","row"] [v,.int k]) H:=by
 obtain ⟨p,xs,rfl,_,hp,hx⟩:=h1
 simp only [ki,vj,jS,ZP,L2.start,zu,yf,zT,zo,zQ,zr,zB,zY,tOp,zc,tC,yB,zb,zi,xD,zE,zm,tCB,tBM,tyV,zp,xS,Zn,zT,rEq,rI0,yN,yP,List.map,List.replicate,List.length,List.append,jqa,jqb,jqc,jqd,jqe,jqf,jqg,jqh,jqi,jqj,jqk,jql,jqm,jqn,and_true,true_and,and_assoc,jqo,jqp,jqq,jqr,jqs,jqt,if_true,ite_true,jqu,ite_false,if_false]
 refine ⟨by decide,fun L hL=>?_⟩
 have s0:=isV (o:=HO.lst []) L hL
 refine ⟨⟨_,SqL.of (s0 _ _ hp)⟩,Zb xs (sfI (.ref p) L xs k n r H) ⟨r,[],[],⟨_,rfl⟩,s0,ze,.nil,by rw [List.drop_zero];exact hx,h2,rfl⟩ (fun i σ H' ⟨_,_,_,_,s,_⟩=>SqL.of (s _ _ hp)) ?_ ?_⟩
 ·rintro i u σ H' hu ⟨rest,ys,C,⟨o,rfl⟩,s,hy,pr,hr,ok,eq⟩
  obtain ⟨x,rs,rfl,rx,rr⟩:=hr.get hu
  have e0:zD (.cons x rs) (k + C.length)=xk x (k + C.length) ++ zD rs (k + C.length + (xk x (k + C.length)).length):=by rw [zD]
  rw [e0] at eq
  have okd:=ok.dp
  have c1:(Rws.cons x rs).deep=max x.deep rs.deep:=by rw [Rws.deep]
  rw [c1] at okd
  have okc:=ok.ct
  have c2:(Rws.cons x rs).cnt=x.cnt + rs.cnt:=by rw [Rws.cnt]
  rw [c2] at okc
  have okp:=ok.pl
  unfold xA at okp
  have le:=congrArg List.length eq
  rw [List.length_append,List.length_append] at le
  have ly:=Paired.length pr
  have nx:∀ {H2:Hp} {o':Option V} {zs:List V},Same H H2→H2 L=some (.lst zs)→Paired (CsAt H2) zs (C ++ xk x (k + C.length))→sfI (.ref p) L xs k n r H (i + 1) [some (.ref p),some (.int k),some (.ref L),o'] H2:=fun {H2 o' zs} s2 g2 p2 =>
   ⟨rs,zs,_,⟨_,rfl⟩,s2,g2,p2,rr,⟨by lia,by lia,okp.2⟩,by rw [List.append_assoc,List.length_append,← Nat.add_assoc];exact eq⟩
  obtain ⟨p1,fs,hd,rfl,e2,e3,e4⟩:=zay rx
  simp only [jS,ZP,L2.start,zu,yf,zT,zo,zQ,zr,zB,zY,tOp,zc,tC,yB,zb,zi,xD,zE,zm,tCB,tBM,tyV,zp,xS,Zn,zT,rEq,rI0,yN,yP,List.map,List.replicate,List.length,List.append,jqa,jqb,jqc,jqd,jqe,jqf,jqg,jqh,jqi,jqj,jqk,jql,jqm,jqn,and_true,true_and,and_assoc,jqo,jqp,jqq,jqr,jqs,jqt,if_true,ite_true,jqu,ite_false,if_false]
  refine ⟨_,SqT.of (s _ _ e2),_,e3,rfl,?_⟩
  rcases zax x with ⟨e,a,b,rfl⟩ | hni
  ·rw [if_pos (congrArg V.str (e4.mpr (fun z=>z)))]
   have d1:(Rw.iff e a b).deep=max a.deep b.deep + 1:=by rw [Rw.deep]
   have d2:(Rw.iff e a b).cnt=max a.cnt b.cnt + 1:=by rw [Rw.cnt]
   rw [d1] at okd
   rw [d2] at okc
   have pl:=okp.1
   unfold ZC at pl
   refine ⟨.inl ⟨_,SqL.of hy⟩,ys.length,.inl ⟨_,SqL.of hy,rfl⟩,e,a,b,k + C.length,by lia,rx.mono s,⟨by lia,by lia,pl.2.1⟩,⟨by lia,by lia,pl.2.2⟩,by lia,fun l us H2 s2 hl pu=>?_⟩
   have lu:=Paired.length pu
   refine ⟨ys,s2 _ _ hy,us,hl,Nat.le_trans (by lia:ys.length + us.length≤1000) (by decide),?_⟩
   exact nx (yL (s.trans s2) hL) ze (v3 (YC (s2 _ _ hy)) (Paired.app2 (w4 s2 pr) pu))
  ·rw [if_neg (fun z=>e4.mp (V.str.inj z) hni)]
   have ec:=vd hni (k + C.length)
   rw [ec] at nx
   refine ⟨.inl ⟨_,SqL.of hy⟩,ys,hy,Nat.lt_of_le_of_lt (by lia:ys.length≤900) (by decide),?_⟩
   exact nx (yL s hL) ze (Paired.snocP (v3 (YC hy) pr) (CsAt.ts (YC hy) ⟨rx.mono s,hni⟩))
 ·rintro σ H' ⟨rest,ys,C,⟨o,rfl⟩,s,hy,pr,hr,ok,eq⟩
  have e:=hr.none
  subst e
  rw [show zD .nil (k + C.length)=[] by rw [zD],List.append_nil] at eq
  rw [eq] at pr
  exact ⟨_,rfl,q L ys H' s hL hy pr⟩
theorem ZI {v:V} {e:List V} {a b:Rws} {k n:Nat} (h1:RwAt Yw H v (.iff e a b)) (h2:qJ n a) (h3:qJ n b) (h4:k + (xk (.iff e a b) k).length≤500) (q:∀ l xs H',Same H H'→H' l=some (.lst xs)→Paired (CsAt H') xs (xk (.iff e a b) k)→Q (.ref l) H') :
  vq K t n { nx:=fun _ H'=>Q .non H',rt:=Q } (L2.start ["row","at","steps","to","others"] [v,.int k]) H:=by
 unfold RwAt at h1
 obtain ⟨p,te,la,lb,xs,ys,rfl,f1,f2,f3,f4,e2,e3,e4,e6,e5,e7⟩:=h1
 have ec:xk (.iff e a b) k=blk e k (zD a (k + 1)) (Rws.isNil b) (zD b (k + 2 + (zD a (k + 1)).length)):=by rw [xk]
 rw [ec] at h4 q
 simp only [vq,yY,VH,L2.start,VL,zT,zo,zQ,zr,zB,zv,tOp,zc,tC,yB,yb,zb,zi,zE,zm,tCB,zp,xS,VH,zT,rI0,yN,List.map,List.replicate,List.length,List.append,jqa,jqb,jqc,jqd,jqe,jqf,jqg,jqh,jqi,jqj,jqk,jql,jqm,jqn,and_true,true_and,and_assoc,jqo,jqp,jqq,jqr,jqs,jqt,if_true,ite_true,jqu,ite_false,if_false]
 refine ⟨_,SqT.of e2,_,rfl,a,k + 1,by lia,⟨la,xs,rfl,f3,e4,e6⟩,h2,?_,fun l us H1 s1 fl hl pu=>?_⟩
 ·unfold blk at h4;split at h4 <;> simp only [List.length_cons,List.length_append] at h4 <;> lia
 have lu:=Paired.length pu
 refine ⟨us.length,.inl ⟨_,SqL.of hl,rfl⟩,_,SqT.of (s1 _ _ e2),_,rfl,by decide,fun z gz=>?_⟩
 have s2:=isV (o:=HO.lst []) z gz
 refine ⟨lb,rfl,ys,SqL.of (s2 _ _ (s1 _ _ e5)),SqL.of ze,?_⟩
 generalize upd H1 z (HO.lst [])=H2 at *
 have S2:=s1.trans s2
 have nb:Rws.isNil b=decide (ys=[]):=by
  cases b with
  | nil=>unfold RwsAt at e7;simp [Rws.isNil,e7]
  | cons x r=>unfold RwsAt at e7;obtain ⟨v,vs,rfl,_⟩:=e7;simp [Rws.isNil]
 have hl2:=s2 _ _ hl
 have pu2:=w4 s2 pu
 by_cases hb:ys=[]
 ·rw [if_pos hb]
  have eb:∀ B,blk e k (zD a (k + 1)) (Rws.isNil b) B=.skip e (k + 1 + (zD a (k + 1)).length) :: zD a (k + 1):=fun B=>by unfold blk;rw [if_pos (by rw [nb];exact decide_eq_true hb)]
  rw [eb] at q h4
  have ei:(k:Int) + 1 + us.length=((k + 1 + (zD a (k + 1)).length:Nat):Int):=by lia
  rw [ei]
  refine ⟨_,SqT.of (S2 _ _ e2),_,rfl,by decide,fun p1 g1=>⟨by decide,fun p2 g2=>?_⟩⟩
  have t1:=isV (o:=HO.tup [V.str (Str.ofString "skip"),V.ref te,V.int (k + 1 + (zD a (k + 1)).length:Nat)]) p1 g1
  have t2:=isV (o:=HO.lst [V.ref p1]) p2 g2
  have T:=t1.trans t2
  rw [List.length_cons] at h4
  refine ⟨_,ze,us,T _ _ hl2,Nat.le_trans (by rw [List.length_singleton];lia:_≤1000) (by decide),fun p3 g3=>?_⟩
  have t3:=isV (o:=HO.lst ([V.ref p1] ++ us)) p3 g3
  exact q p3 ([V.ref p1] ++ us) _ (S2.trans (T.trans t3)) ze (.cons ⟨p1,te,rfl,(t2.trans t3) _ _ ze,(S2.trans (T.trans t3)) _ _ e3⟩ (w4 (T.trans t3) pu2))
 ·rw [if_neg hb]
  have eb:∀ B,blk e k (zD a (k + 1)) (Rws.isNil b) B=.skip e (k + 2 + (zD a (k + 1)).length) :: (zD a (k + 1) ++ (.go (k + 2 + (zD a (k + 1)).length + B.length) :: B)):=fun B=>by unfold blk;rw [if_neg (by rw [nb];simpa using hb)]
  rw [eb] at q h4
  rw [List.length_cons,List.length_append,List.length_cons] at h4
  have ei:(k:Int) + 1 + us.length + 1=((k + 2 + (zD a (k + 1)).length:Nat):Int):=by lia
  rw [ei]
  refine ⟨_,SqT.of (S2 _ _ e2),_,rfl,b,_,rfl,⟨lb,ys,rfl,f4,S2 _ _ e5,e7.mono S2⟩,h3,by lia,fun l2 ws H3 s3 fl2 hl3 pw=>?_⟩
  have lw:=Paired.length pw
  have S3:=S2.trans s3
  have hlu:=s3 _ _ hl2
  have pu3:=w4 s3 pu2
  refine ⟨_,SqT.of (S3 _ _ e2),_,rfl,by decide,fun p1 g1=>⟨by decide,fun p2 g2=>?_⟩⟩
  have t1:=isV (o:=HO.tup [V.str (Str.ofString "skip"),V.ref te,V.int (k + 2 + (zD a (k + 1)).length:Nat)]) p1 g1
  have t2:=isV (o:=HO.lst [V.ref p1]) p2 g2
  have T:=t1.trans t2
  refine ⟨_,ze,us,T _ _ hlu,Nat.le_trans (by rw [List.length_singleton];lia:_≤1000) (by decide),fun p3 g3=>?_⟩
  have t3:=isV (o:=HO.lst ([V.ref p1] ++ us)) p3 g3
  have T3:=T.trans t3
  have hp1:=(t2.trans t3) p1 _ ze
  refine ⟨ws.length,.inl ⟨_,SqL.of (T3 _ _ hl3),rfl⟩,by decide,?_⟩
  have eg:((k + 2 + (zD a (k + 1)).length:Nat):Int) + ws.length=((k + 2 + (zD a (k + 1)).length + (zD b (k + 2 + (zD a (k + 1)).length)).length:Nat):Int):=by lia
  rw [eg]
  have hp3:upd (upd (upd H3 p1 (HO.tup [V.str (Str.ofString "skip"),V.ref te,V.int (k + 2 + (zD a (k + 1)).length:Nat)])) p2 (HO.lst [V.ref p1])) p3 (HO.lst ([V.ref p1] ++ us)) p3=some (HO.lst ([V.ref p1] ++ us)):=ze
  generalize upd (upd (upd H3 p1 (HO.tup [V.str (Str.ofString "skip"),V.ref te,V.int (k + 2 + (zD a (k + 1)).length:Nat)])) p2 (HO.lst [V.ref p1])) p3 (HO.lst ([V.ref p1] ++ us))=H4 at *
  refine fun p4 g4=>⟨by decide,fun p5 g5=>?_⟩
  have t4:=isV (o:=HO.tup [V.str (Str.ofString "go"),V.int (k + 2 + (zD a (k + 1)).length + (zD b (k + 2 + (zD a (k + 1)).length)).length:Nat)]) p4 g4
  have t5:=isV (o:=HO.lst [V.ref p4]) p5 g5
  refine ⟨_,(t4.trans t5) _ _ hp3,_,ze,Nat.le_trans (by rw [List.length_append,List.length_singleton,List.length_singleton];lia:_≤1000) (by decide),fun p6 g6=>?_⟩
  have t6:=isV (o:=HO.lst ([V.ref p1] ++ us ++ [V.ref p4])) p6 g6
  refine ⟨_,ze,ws,(T3.trans (t4.trans (t5.trans t6))) _ _ hl3,Nat.le_trans (by rw [List.length_append,List.length_append,List.length_singleton,List.length_singleton];lia:_≤1000) (by decide),fun p7 g7=>?_⟩
  have t7:=isV (o:=HO.lst ([V.ref p1] ++ us ++ [V.ref p4] ++ ws)) p7 g7
  have T4:=t4.trans (t5.trans (t6.trans t7))
  have T7:=T3.trans T4
  have el:[V.ref p1] ++ us ++ [V.ref p4] ++ ws=V.ref p1 :: (us ++ (V.ref p4 :: ws)):=by simp
  have P:∀ {Hx:Hp},Same H4 Hx→Hx p4=some (HO.tup [V.str (Str.ofString "go"),V.int (k + 2 + (zD a (k + 1)).length + (zD b (k + 2 + (zD a (k + 1)).length)).length:Nat)])→Paired (CsAt Hx) ([V.ref p1] ++ us ++ [V.ref p4] ++ ws) (.skip e (k + 2 + (zD a (k + 1)).length) :: (zD a (k + 1) ++ (.go (k + 2 + (zD a (k + 1)).length + (zD b (k + 2 + (zD a (k + 1)).length)).length) :: zD b (k + 2 + (zD a (k + 1)).length)))):=by
   intro Hx sx hx
   rw [el]
   exact .cons ⟨p1,te,rfl,sx _ _ hp1,(S3.trans (T3.trans sx)) _ _ e3⟩ (Paired.app2 (w4 (T3.trans sx) pu3) (.cons ⟨p4,rfl,hx⟩ (w4 (T3.trans sx) pw)))
  exact q p7 _ _ (S3.trans T7) ze (P T4 ((t5.trans (t6.trans t7)) _ _ ze))
theorem qL {vs:List V} {H:Hp} {Q:VK} {E:XK} (h:yY 0 vs H Q E):False:=by
 obtain ⟨v,r,k,e,h1,h2,h3⟩:=h
 have:=h2.dp
 lia
theorem rnF {P:Str→Option Value} (T:Txt K P t):RnF K t:=⟨T.cl_Run,T.na_Run_code,T.na_Run_at,T.na_Run_why,T.na_Run_slots,T.na_Run_gifts,T.na_Run_notes,T.na_Run_sayings⟩
section
variable {x:Addr} {a:RAd} {C:List Cs} {s:RSt}
theorem RnAt.notup {b:Addr} {zs:List V} (R:RnAt t H x a C s) (h:H b=some (.tup zs)):¬ Ow x a b:=by
 rintro (rfl | rfl | rfl | rfl | rfl)
 ·rw [R.ix] at h;cases h
 ·rw [R.hs] at h;cases h
 ·rw [R.hg] at h;cases h
 ·rw [R.hn] at h;cases h
 ·rw [R.ha] at h;cases h
theorem RnAt.ts {H':Hp} (R:RnAt t H x a C s) (k:Kp x a H H'):TSm H H':=fun b ys e=>k b _ (R.notup e) e
theorem Kp.of_same {H':Hp} (s:Same H H'):Kp x a H H':=fun b o _ e=>s b o e
theorem Kp.trans {H' H'':Hp} (h:Kp x a H H') (k:Kp x a H' H''):Kp x a H H'':=fun b o n e=>k b o n (h b o n e)
theorem wB {b:Addr} {o:HO} (h:Ow x a b):Kp x a H (upd H b o):=fun c o' n e=>by rw [zk (fun z=>n (by rw [z];exact h))];exact e
theorem RnAt.same {H':Hp} (R:RnAt t H x a C s) (k:Same H H'):RnAt t H' x a C s :=
 ⟨k _ _ R.ix,let ⟨xs,h1,h2⟩:=R.hc;⟨xs,k _ _ h1,w4 k h2⟩,k _ _ R.hs,k _ _ R.hg,k _ _ R.hn,k _ _ R.ha,R.ng,R.nc⟩
theorem RnAt.keep {H':Hp} (R:RnAt t H x a C s) (k:∀ b o,OwA x a b→H b=some o→H' b=some o) (ts:TSm H H'):RnAt t H' x a C s :=
 ⟨k _ _ (.inl (.inl rfl)) R.ix,let ⟨xs,h1,h2⟩:=R.hc;⟨xs,k _ _ (.inr rfl) h1,v3 ts h2⟩,k _ _ (.inl (.inr (.inl rfl))) R.hs,k _ _ (.inl (.inr (.inr (.inl rfl)))) R.hg,k _ _ (.inl (.inr (.inr (.inr (.inl rfl))))) R.hn,k _ _ (.inl (.inr (.inr (.inr (.inr rfl))))) R.ha,R.ng,R.nc⟩
theorem RnAt.putI (R:RnAt t H x a C s) (s':RSt) (e1:s'.sl=s.sl) (e2:s'.gi=s.gi) (e3:s'.no=s.no) (e4:s'.sa=s.sa):RnAt t (upd H x (.ins t.c_Run a.dx (zbW a s'))) x a C s':=by
 refine ⟨ze,?_,?_,?_,?_,?_,R.ng,R.nc⟩
 ·obtain ⟨xs,h1,h2⟩:=R.hc
  exact ⟨xs,by rw [zk (zS h1 R.ix (fun z=>nomatch z))];exact h1,v3 (R.ts (wB (.inl rfl))) h2⟩
 ·rw [zk (zS R.hs R.ix (fun z=>nomatch z)),e1];exact R.hs
 ·rw [zk (zS R.hg R.ix (fun z=>nomatch z)),e2];exact R.hg
 ·rw [zk (zS R.hn R.ix (fun z=>nomatch z)),e3];exact R.hn
 ·rw [zk (zS R.ha R.ix (fun z=>nomatch z)),e4];exact R.ha
theorem RnAt.putS (R:RnAt t H x a C s) (kvs:List (Key × V)):RnAt t (upd H a.sl (.dK kvs)) x a C { s with sl:=kvs }:=by
 refine ⟨by rw [zk (zS R.ix R.hs (fun z=>nomatch z))];exact R.ix,?_,ze,?_,?_,?_,R.ng,R.nc⟩
 ·obtain ⟨xs,h1,h2⟩:=R.hc
  exact ⟨xs,by rw [zk (zS h1 R.hs (fun z=>nomatch z))];exact h1,v3 (R.ts (wB (.inr (.inl rfl)))) h2⟩
 ·rw [zk (zS R.hg R.hs (fun z=>nomatch z))];exact R.hg
 ·rw [zk (zS R.hn R.hs (fun z=>nomatch z))];exact R.hn
 ·rw [zk (zS R.ha R.hs (fun z=>nomatch z))];exact R.ha
theorem RnAt.putG (R:RnAt t H x a C s) (rows:List Row):RnAt t (upd H a.gi (.dT (dOf rows))) x a C { s with gi:=rows }:=by
 refine ⟨by rw [zk (zS R.ix R.hg (fun z=>nomatch z))];exact R.ix,?_,?_,ze,?_,?_,R.ng,R.nc⟩
 ·obtain ⟨xs,h1,h2⟩:=R.hc
  exact ⟨xs,by rw [zk (zS h1 R.hg (fun z=>nomatch z))];exact h1,v3 (R.ts (wB (.inr (.inr (.inl rfl))))) h2⟩
 ·rw [zk (zS R.hs R.hg (fun z=>nomatch z))];exact R.hs
 ·rw [zk (Ne.symm R.ng)];exact R.hn
 ·rw [zk (zS R.ha R.hg (fun z=>nomatch z))];exact R.ha
theorem RnAt.putO (R:RnAt t H x a C s) (rows:List Row):RnAt t (upd H a.no (.dT (dOf rows))) x a C { s with no:=rows }:=by
 refine ⟨by rw [zk (zS R.ix R.hn (fun z=>nomatch z))];exact R.ix,?_,?_,?_,ze,?_,R.ng,R.nc⟩
 ·obtain ⟨xs,h1,h2⟩:=R.hc
  exact ⟨xs,by rw [zk (zS h1 R.hn (fun z=>nomatch z))];exact h1,v3 (R.ts (wB (.inr (.inr (.inr (.inl rfl)))))) h2⟩
 ·rw [zk (zS R.hs R.hn (fun z=>nomatch z))];exact R.hs
 ·rw [zk R.ng];exact R.hg
 ·rw [zk (zS R.ha R.hn (fun z=>nomatch z))];exact R.ha
theorem RnAt.putA (R:RnAt t H x a C s) (is:List Int):RnAt t (upd H a.sa (.lst (is.map V.int))) x a C { s with sa:=is }:=by
 refine ⟨by rw [zk (zS R.ix R.ha (fun z=>nomatch z))];exact R.ix,?_,?_,?_,?_,ze,R.ng,R.nc⟩
 ·obtain ⟨xs,h1,h2⟩:=R.hc
  exact ⟨xs,by rw [zk R.nc];exact h1,v3 (R.ts (wB (.inr (.inr (.inr (.inr rfl)))))) h2⟩
 ·rw [zk (zS R.hs R.ha (fun z=>nomatch z))];exact R.hs
 ·rw [zk (zS R.hg R.ha (fun z=>nomatch z))];exact R.hg
 ·rw [zk (zS R.hn R.ha (fun z=>nomatch z))];exact R.hn
end
theorem ZW {C:List Cs} {s:RSt} (h:¬ yy C s=true):s.n < C.length:=by
 unfold yy at h
 simp only [Bool.or_eq_true,decide_eq_true_eq,not_or] at h
 lia
theorem qo (rows:List Row) (p:Pl) (w:Int):zI (rows ++ [(p,w)]) p=some w:=by
 have h:=xt (rows ++ [(p,w)]) p
 rw [vi,qz,if_pos rfl] at h
 cases hl:zI (rows ++ [(p,w)]) p with
 | none=>rw [hl] at h;cases h
 | some i=>rw [hl] at h;cases h;rfl
theorem Wc {v:V} {c:Cs} (h:CsAt H v c):∃ p zs hd,v=.ref p∧H p=some (.tup zs)∧atI zs 0=some (.str hd)∧(hd=Str.ofString "take"→∃ sh e x te,c=.row (.take sh e x)∧atI zs 1=some (.str sh)∧atI zs 2=some (.ref te)∧H te=some (.tup e))∧(hd≠Str.ofString "take"→∀ s,wJ c s=none):=by
 cases c with
 | row r =>
  have h1:=h.1
  cases r with
  | take sh e sl=>unfold RwAt at h1;obtain ⟨r,te,rfl,_,_,e2,e3⟩:=h1;exact ⟨r,_,_,rfl,e2,rfl,fun _=>⟨sh,e,sl,te,rfl,rfl,rfl,e3⟩,fun z=>absurd rfl z⟩
  | give sh e f=>unfold RwAt at h1;obtain ⟨r,te,tf,rfl,_,_,_,e2,e3⟩:=h1;exact ⟨r,_,_,rfl,e2,rfl,fun z=>absurd z (by decide +kernel),fun _ _=>rfl⟩
  | lt sl e=>unfold RwAt at h1;obtain ⟨r,te,rfl,_,_,e2,e3⟩:=h1;exact ⟨r,_,_,rfl,e2,rfl,fun z=>absurd z (by decide +kernel),fun _ _=>rfl⟩
  | say e=>unfold RwAt at h1;obtain ⟨r,te,rfl,_,_,e2,e3⟩:=h1;exact ⟨r,_,_,rfl,e2,rfl,fun z=>absurd z (by decide +kernel),fun _ _=>rfl⟩
  | off e=>unfold RwAt at h1;obtain ⟨r,te,rfl,_,_,e2,e3⟩:=h1;exact ⟨r,_,_,rfl,e2,rfl,fun z=>absurd z (by decide +kernel),fun _ _=>rfl⟩
  | iff e b d=>exact (h.2:False).elim
 | skip e to=>obtain ⟨p,te,e1,e2,_⟩:=h;exact ⟨p,_,_,e1,e2,rfl,fun z=>absurd z (by decide +kernel),fun _ _=>rfl⟩
 | go en=>obtain ⟨p,e1,e2⟩:=h;exact ⟨p,_,_,e1,e2,rfl,fun z=>absurd z (by decide +kernel),fun _ _=>rfl⟩
theorem zbs {κ:Type} [DecidableEq κ] {kvs:List (κ × V)} {k:κ} (h:k ∉ kvs.map (·.1)):yo kvs k=none:=by
 cases e:yo kvs k with
 | none=>rfl
 | some v=>exact absurd (Jj e) h
theorem JA:∀ (gs:List Row) (kvs:List (List Key × V)),(∀ r∈gs,zZ r.1 ∉ kvs.map (·.1))→(gs.map (·.1)).Nodup→gs.foldl qG kvs=kvs ++ gs.map fun r=>(zZ r.1,V.int r.2)
 | [],kvs,_,_=>by simp
 | r :: gs,kvs,h,nd=>by
  rw [List.map_cons,List.nodup_cons] at nd
  rw [List.foldl_cons,qG,Z8 _ (zbs (h r List.mem_cons_self)),JA gs _ (fun q hq=>?_) nd.2,List.map_cons,List.append_assoc,List.singleton_append]
  rw [List.map_append,List.mem_append,not_or]
  refine ⟨h q (List.mem_cons_of_mem _ hq),fun z=>nd.1 ?_⟩
  have z2:zZ q.1=zZ r.1:=by simpa using z
  rw [← w6 z2]
  exact List.mem_map_of_mem hq
theorem zbt {gs:List Row} (nd:(gs.map (·.1)).Nodup):dOf gs=gs.map fun r=>(zZ r.1,V.int r.2):=by
 unfold dOf
 rw [JA gs [] (fun _ _ h=>nomatch h) nd,List.nil_append]
theorem kr {H H':Hp} (s:Same H H'):∀ {ys:List V} {rows:List Row},Paired (kC H) ys rows→Paired (kC H') ys rows
 | _,_,.nil=>.nil
 | _,_,.cons ⟨r,p,e1,e2,e3⟩ t=>.cons ⟨r,p,e1,s _ _ e2,s _ _ e3⟩ (kr s t)
theorem ini {H HA:Hp} {x sl:Addr} {o i i':HO} (A1:Zu x H HA) (A2:HA x=some i) (h:HA sl=none):x≠sl∧H sl=none∧Zu x H (upd (upd HA sl o) x i')∧upd (upd HA sl o) x i' sl=some o∧Zu x HA (upd (upd HA sl o) x i'):=by
 have n:x≠sl:=zL A2 h
 have S:Zu x HA (upd (upd HA sl o) x i'):=fun b u nb e=>by rw [zk nb,zk (fun z=>by rw [z,h] at e;cases e)];exact e
 refine ⟨n,?_,fun b u nb e=>S b u nb (A1 b u nb e),by rw [zk (Ne.symm n),ze],S⟩
 cases hs:H sl with
 | none=>rfl
 | some u=>rw [A1 sl u (Ne.symm n) hs] at h;cases h
section
variable {x:Addr} {a:RAd} {C:List Cs} {s:RSt} {E:XK}
theorem Wd (F:RnF K t) (R:RnAt t H x a C s) (q:∀ H',Same H H'→Q (.bl (yy C s)) H') :
  j5 K t { nx:=fun _ H'=>Q .non H',rt:=Q } (L2.start ["self"] [.ref x]) H:=by
 simp only [j5,yF,L2.start,zB,tOp,zc,tC,zb,zi,za8,tCB,xS,rI0,jA,yN,List.map,List.replicate,List.length,List.append,jqa,jqb,jqc,jqd,jqe,jqf,jqg,jqh,jqi,jqj,jqk,jql,jqm,jqn,and_true,true_and,and_assoc,jqo,jqp,jqq,jqr,jqs,jqt,if_true,ite_true,jqu,ite_false,if_false]
 obtain ⟨xs,hx,pr⟩:=R.hc
 have lx:=Paired.length pr
 refine ⟨_,_,_,R.ix,F.cl,F.n3,_,rfl,?_⟩
 cases hw:s.why with
 | some w =>
  rw [if_pos (fun z=>nomatch z)]
  have e:yy C s=true:=by unfold yy;rw [hw];rfl
  rw [e] at q
  exact q H fun _ _ z=>z
 | none =>
  rw [if_neg (fun z=>z rfl)]
  refine ⟨_,_,_,R.ix,F.cl,F.n2,_,rfl,_,_,_,R.ix,F.cl,F.n1,_,rfl,xs.length,.inl ⟨_,SqL.of hx,rfl⟩,_,rfl,?_⟩
  have e:yy C s=decide ((xs.length:Int)≤(s.n:Int)):=by unfold yy;rw [hw,lx];simp
  rw [← e]
  exact q H fun _ _ z=>z
theorem Zk {tm:Addr} {e:List V} (F:RnF K t) (R:RnAt t H x a C s) (h2:yt s.sl) (h3:H tm=some (.tup e)) (h4:TermOk e)
  (q:∀ H',Same H H'→fin t (rk s.sl e) Q E H'):wS K t E { nx:=fun _ H'=>Q .non H',rt:=Q } (L2.start ["self","term"] [.ref x,.ref tm]) H:=by
 simp only [wS,jV,yF,L2.start,zB,zc,zb,zi,zp,List.map,List.replicate,List.length,List.append,jqa,jqb,jqc,jqd,jqe,jqf,jqg,jqh,jqi,jqj,jqk,jql,jqm,jqn,and_true,true_and,and_assoc,jqo,jqp,jqq,jqr,jqs,jqt,if_true,ite_true,jqu,ite_false,if_false]
 exact ⟨_,_,_,R.ix,F.cl,F.n4,_,rfl,s.sl,_,rfl,e,h3,R.hs,_,h4.good s.sl,h4.2.1,h4.2.2,h2,q⟩
theorem Zl {p te:Addr} {xs e:List V} {sh:Str} (F:RnF K t) (R:RnAt t H x a C s) (h2:yt s.sl) (h3:H p=some (.tup xs)) (h4:atI xs 1=some (.str sh)) (h5:atI xs 2=some (.ref te)) (h6:H te=some (.tup e)) (h7:TermOk e)
  (q1:∀ i q H',rk s.sl e=.ok i→Same H H'→H' q=some (.tup [.str sh,.int i])→Q (.ref q) H') (q2:∀ er H',rk s.sl e=.error er→Same H H'→V1 t er E H') :
  wT K t E { nx:=fun _ H'=>Q .non H',rt:=Q } (L2.start ["self","due"] [.ref x,.ref p]) H:=by
 simp only [wT,zN,yg,L2.start,zT,zB,tOp,zc,tC,yb,zb,zi,zT,List.map,List.replicate,List.length,List.append,jqa,jqb,jqc,jqd,jqe,jqf,jqg,jqh,jqi,jqj,jqk,jql,jqm,jqn,and_true,true_and,and_assoc,jqo,jqp,jqq,jqr,jqs,jqt,if_true,ite_true,jqu,ite_false,if_false]
 refine ⟨_,SqT.of h3,_,h4,_,_,R.ix,rfl,_,SqT.of h3,_,h5,_,rfl,e,a,C,s,R,h2,h6,h7,fun H1 s1=>?_⟩
 cases hk:rk s.sl e with
 | error er=>exact fin_err.mpr (q2 er H1 hk s1)
 | ok n =>
  refine fin_ok.mpr ⟨by decide,fun p hp=>?_⟩
  exact q1 n p _ hk (s1.trans (isV (o:=HO.tup [V.str sh,V.int n]) p hp)) ze
theorem YV {q:Addr} {p:Pl} {w:Int} (F:RnF K t) (R:RnAt t H x a C s) (h2:H q=some (.tup [.str p.1,.int p.2])) (h3:s.no.length≤900)
  (k:∀ H',Kp x a H H'→RnAt t H' x a C (yV p w s)→Q (.int (xG p w s)) H') :
  jo K t { nx:=fun _ H'=>Q .non H',rt:=Q } (L2.start ["self","place","worth"] [.ref x,.ref q,.int w]) H:=by
 simp only [jo,yK,Zd,yh,yF,L2.start,zo,zB,zv,tOp,zc,zE,zm,List.map,List.replicate,List.length,List.append,jqa,jqb,jqc,jqd,jqe,jqf,jqg,jqh,jqi,jqj,jqk,jql,jqm,jqn,and_true,true_and,and_assoc,jqo,jqp,jqq,jqr,jqs,jqt,if_true,ite_true,jqu,ite_false,if_false]
 have g1:DGet H a.gi (.ref q) ((zI s.gi p).map V.int):=.inr ⟨dOf s.gi,zZ p,q,.inl R.hg,rfl,h2,(xt _ _).symm⟩
 have g2:DGet H a.no (.ref q) ((zI s.no p).map V.int):=.inr ⟨dOf s.no,zZ p,q,.inl R.hn,rfl,h2,(xt _ _).symm⟩
 refine ⟨_,_,_,R.ix,F.cl,F.n5,_,rfl,_,rfl,_,g1,?_⟩
 cases hg:zI s.gi p with
 | some i =>
  rw [if_pos (by simp)]
  have e:yV p w s=s:=by unfold yV;rw [if_pos (.inl (by rw [hg];rfl))]
  have e2:xG p w s=i:=by unfold xG;rw [hg];rfl
  rw [e,e2] at k
  rw [hg] at g1
  exact ⟨_,_,_,R.ix,F.cl,F.n5,_,rfl,_,rfl,_,g1,k H (.of_same fun _ _ z=>z) R⟩
 | none =>
  rw [if_neg (by simp)]
  refine ⟨_,_,_,R.ix,F.cl,F.n6,_,rfl,_,rfl,_,g2,?_⟩
  cases ho:zI s.no p with
  | some i =>
   rw [if_neg (by simp)]
   have e:yV p w s=s:=by unfold yV;rw [if_pos (.inr (by rw [ho];rfl))]
   have e2:xG p w s=i:=by unfold xG;rw [hg,ho];rfl
   rw [e,e2] at k
   rw [ho] at g2
   exact ⟨_,_,_,R.ix,F.cl,F.n6,_,rfl,_,rfl,_,g2,k H (.of_same fun _ _ z=>z) R⟩
  | none =>
   rw [if_pos (by simp)]
   have e:yV p w s={ s with no:=s.no ++ [(p,w)] }:=by unfold yV;rw [if_neg (by rw [hg,ho];simp)]
   have e2:xG p w s=w:=by unfold xG;rw [hg,ho];rfl
   rw [e,e2] at k
   have ld:=jk s.no
   have ep:yJ (dOf s.no) (zZ p) (V.int w)=dOf (s.no ++ [(p,w)]):=(vi s.no (p,w)).symm
   have D:=DPut.t (k:=zZ p) (v:=V.int w) R.hn h2 (Nat.lt_of_le_of_lt (by lia:_≤900) (by decide))
   rw [ep] at D
   have R2:=R.putO (s.no ++ [(p,w)])
   have K2:Kp x a H (upd H a.no (.dT (dOf (s.no ++ [(p,w)])))):=wB (.inr (.inr (.inr (.inl rfl))))
   refine ⟨_,_,_,R.ix,F.cl,F.n6,_,rfl,_,rfl,_,D,_,_,_,R2.ix,F.cl,F.n6,_,rfl,_,rfl,V.int w,?_,k _ K2 R2⟩
   refine .inr ⟨_,zZ p,q,.inl R2.hn,rfl,K2 _ _ (R.notup h2) h2,?_⟩
   rw [xt,qo];rfl
theorem We {l dx:Addr} {xs:List V} (F:RnF K t) (h1:H x=some (.ins t.c_Run dx [])) (h2:H l=some (.lst xs)) (h3:Paired (CsAt H) xs C)
  (q:∀ H' a,Zu x H H'→RnAt t H' x a C st0→(∀ b,OwA x a b→b=x∨H b=none)→Q .non H') :
  j4 K t { nx:=fun _ H'=>Q .non H',rt:=Q } (L2.start ["self","code"] [.ref x,.ref l]) H:=by
 simp only [j4,kW,jD,ym,L2.start,zag,zo,zc,tC,yB,zb,zi,tCB,Yc,List.map,List.replicate,List.length,List.append,jqa,jqb,jqc,jqd,jqe,jqf,jqg,jqh,jqi,jqj,jqk,jql,jqm,jqn,and_true,true_and,and_assoc,jqo,jqp,jqq,jqr,jqs,jqt,if_true,ite_true,jqu,ite_false,if_false]
 refine ⟨xs,.inl (SqL.of h2),fun co hco=>?_⟩
 have nco:x≠co:=zL h1 hco
 refine ⟨_,_,_,(by rw [zk nco];exact h1),F.cl,F.n1,by decide,_,_,_,ze,F.cl,F.n2,(by show (1:Nat) < 1000;decide),_,_,_,ze,F.cl,F.n3,(by show (2:Nat) < 1000;decide),?_⟩
 have A1:Zu x H (upd (upd (upd (upd H co (HO.lst xs)) x (.ins t.c_Run dx (ym (Str.ofString "code") (V.ref co) []))) x (.ins t.c_Run dx (ym (Str.ofString "at") (V.int 0) (ym (Str.ofString "code") (V.ref co) [])))) x (.ins t.c_Run dx (ym (Str.ofString "why") V.non (ym (Str.ofString "at") (V.int 0) (ym (Str.ofString "code") (V.ref co) []))))):=fun b o n e=>by
  rw [zk n,zk n,zk n,zk (fun z=>by rw [z,hco] at e;cases e)];exact e
 have A2:(upd (upd (upd (upd H co (HO.lst xs)) x (.ins t.c_Run dx (ym (Str.ofString "code") (V.ref co) []))) x (.ins t.c_Run dx (ym (Str.ofString "at") (V.int 0) (ym (Str.ofString "code") (V.ref co) [])))) x (.ins t.c_Run dx (ym (Str.ofString "why") V.non (ym (Str.ofString "at") (V.int 0) (ym (Str.ofString "code") (V.ref co) []))))) x=some (.ins t.c_Run dx [(Str.ofString "code",V.ref co),(Str.ofString "at",V.int 0),(Str.ofString "why",V.non)]):=ze
 have A3:(upd (upd (upd (upd H co (HO.lst xs)) x (.ins t.c_Run dx (ym (Str.ofString "code") (V.ref co) []))) x (.ins t.c_Run dx (ym (Str.ofString "at") (V.int 0) (ym (Str.ofString "code") (V.ref co) [])))) x (.ins t.c_Run dx (ym (Str.ofString "why") V.non (ym (Str.ofString "at") (V.int 0) (ym (Str.ofString "code") (V.ref co) []))))) co=some (.lst xs):=by
  rw [zk (Ne.symm nco),zk (Ne.symm nco),zk (Ne.symm nco),ze]
 generalize (upd (upd (upd (upd H co (HO.lst xs)) x (.ins t.c_Run dx (ym (Str.ofString "code") (V.ref co) []))) x (.ins t.c_Run dx (ym (Str.ofString "at") (V.int 0) (ym (Str.ofString "code") (V.ref co) [])))) x (.ins t.c_Run dx (ym (Str.ofString "why") V.non (ym (Str.ofString "at") (V.int 0) (ym (Str.ofString "code") (V.ref co) [])))))=HA at *
 intro sl hsl
 obtain ⟨nsl,fsl,B1,B4,B5⟩:=ini (o:=HO.dK []) (i':=HO.ins t.c_Run dx (ym (Str.ofString "slots") (V.ref sl) [(Str.ofString "code",V.ref co),(Str.ofString "at",V.int 0),(Str.ofString "why",V.non)])) A1 A2 hsl
 refine ⟨_,_,_,(by rw [zk nsl];exact A2),F.cl,F.n4,(by show (3:Nat) < 1000;decide),?_⟩
 have B2:(upd (upd HA sl (HO.dK [])) x (.ins t.c_Run dx (ym (Str.ofString "slots") (V.ref sl) [(Str.ofString "code",V.ref co),(Str.ofString "at",V.int 0),(Str.ofString "why",V.non)]))) x=some (.ins t.c_Run dx [(Str.ofString "code",V.ref co),(Str.ofString "at",V.int 0),(Str.ofString "why",V.non),(Str.ofString "slots",V.ref sl)]):=ze
 have B_co:=B5 _ _ (Ne.symm nco) A3
 generalize (upd (upd HA sl (HO.dK [])) x (.ins t.c_Run dx (ym (Str.ofString "slots") (V.ref sl) [(Str.ofString "code",V.ref co),(Str.ofString "at",V.int 0),(Str.ofString "why",V.non)])))=HB at *
 intro gi hgi
 obtain ⟨ngi,fgi,C1,C4,C5⟩:=ini (o:=HO.dT []) (i':=HO.ins t.c_Run dx (ym (Str.ofString "gifts") (V.ref gi) [(Str.ofString "code",V.ref co),(Str.ofString "at",V.int 0),(Str.ofString "why",V.non),(Str.ofString "slots",V.ref sl)])) B1 B2 hgi
 refine ⟨_,_,_,(by rw [zk ngi];exact B2),F.cl,F.n5,(by show (4:Nat) < 1000;decide),?_⟩
 have C2:(upd (upd HB gi (HO.dT [])) x (.ins t.c_Run dx (ym (Str.ofString "gifts") (V.ref gi) [(Str.ofString "code",V.ref co),(Str.ofString "at",V.int 0),(Str.ofString "why",V.non),(Str.ofString "slots",V.ref sl)]))) x=some (.ins t.c_Run dx [(Str.ofString "code",V.ref co),(Str.ofString "at",V.int 0),(Str.ofString "why",V.non),(Str.ofString "slots",V.ref sl),(Str.ofString "gifts",V.ref gi)]):=ze
 have C_co:=C5 _ _ (Ne.symm nco) B_co
 have C_sl:=C5 _ _ (Ne.symm nsl) B4
 generalize (upd (upd HB gi (HO.dT [])) x (.ins t.c_Run dx (ym (Str.ofString "gifts") (V.ref gi) [(Str.ofString "code",V.ref co),(Str.ofString "at",V.int 0),(Str.ofString "why",V.non),(Str.ofString "slots",V.ref sl)])))=HC at *
 intro no hno
 obtain ⟨nno,fno,D1,D4,D5⟩:=ini (o:=HO.dT []) (i':=HO.ins t.c_Run dx (ym (Str.ofString "notes") (V.ref no) [(Str.ofString "code",V.ref co),(Str.ofString "at",V.int 0),(Str.ofString "why",V.non),(Str.ofString "slots",V.ref sl),(Str.ofString "gifts",V.ref gi)])) C1 C2 hno
 refine ⟨_,_,_,(by rw [zk nno];exact C2),F.cl,F.n6,(by show (5:Nat) < 1000;decide),Nat.zero_le _,?_⟩
 have D2:(upd (upd HC no (HO.dT [])) x (.ins t.c_Run dx (ym (Str.ofString "notes") (V.ref no) [(Str.ofString "code",V.ref co),(Str.ofString "at",V.int 0),(Str.ofString "why",V.non),(Str.ofString "slots",V.ref sl),(Str.ofString "gifts",V.ref gi)]))) x=some (.ins t.c_Run dx [(Str.ofString "code",V.ref co),(Str.ofString "at",V.int 0),(Str.ofString "why",V.non),(Str.ofString "slots",V.ref sl),(Str.ofString "gifts",V.ref gi),(Str.ofString "notes",V.ref no)]):=ze
 have D_co:=D5 _ _ (Ne.symm nco) C_co
 have D_sl:=D5 _ _ (Ne.symm nsl) C_sl
 have D_gi:=D5 _ _ (Ne.symm ngi) C4
 have ngn:gi≠no:=fun z=>by rw [← z,C4] at hno;cases hno
 generalize (upd (upd HC no (HO.dT [])) x (.ins t.c_Run dx (ym (Str.ofString "notes") (V.ref no) [(Str.ofString "code",V.ref co),(Str.ofString "at",V.int 0),(Str.ofString "why",V.non),(Str.ofString "slots",V.ref sl),(Str.ofString "gifts",V.ref gi)])))=HD at *
 intro sa hsa
 obtain ⟨nsa,fsa,E1,E4,E5⟩:=ini (o:=HO.lst []) (i':=HO.ins t.c_Run dx (ym (Str.ofString "sayings") (V.ref sa) [(Str.ofString "code",V.ref co),(Str.ofString "at",V.int 0),(Str.ofString "why",V.non),(Str.ofString "slots",V.ref sl),(Str.ofString "gifts",V.ref gi),(Str.ofString "notes",V.ref no)])) D1 D2 hsa
 refine ⟨_,_,_,(by rw [zk nsa];exact D2),F.cl,F.n7,(by show (6:Nat) < 1000;decide),?_⟩
 have E2:(upd (upd HD sa (HO.lst [])) x (.ins t.c_Run dx (ym (Str.ofString "sayings") (V.ref sa) [(Str.ofString "code",V.ref co),(Str.ofString "at",V.int 0),(Str.ofString "why",V.non),(Str.ofString "slots",V.ref sl),(Str.ofString "gifts",V.ref gi),(Str.ofString "notes",V.ref no)]))) x=some (.ins t.c_Run dx [(Str.ofString "code",V.ref co),(Str.ofString "at",V.int 0),(Str.ofString "why",V.non),(Str.ofString "slots",V.ref sl),(Str.ofString "gifts",V.ref gi),(Str.ofString "notes",V.ref no),(Str.ofString "sayings",V.ref sa)]):=ze
 have E_co:=E5 _ _ (Ne.symm nco) D_co
 have E_sl:=E5 _ _ (Ne.symm nsl) D_sl
 have E_gi:=E5 _ _ (Ne.symm ngi) D_gi
 have E_no:=E5 _ _ (Ne.symm nno) D4
 have ncs:co≠sa:=fun z=>by rw [← z,D_co] at hsa;cases hsa
 refine q _ ⟨dx,co,sl,gi,no,sa⟩ E1 ⟨E2,⟨xs,E_co,v3 (fun b ys e=>E1 b _ (fun z=>by rw [z,h1] at e;cases e) e) h3⟩,E_sl,E_gi,E_no,E4,ngn,ncs⟩ ?_
 rintro b ((z | z | z | z | z) | z)
 ·exact .inl z
 ·exact .inr (by rw [z];exact fsl)
 ·exact .inr (by rw [z];exact fgi)
 ·exact .inr (by rw [z];exact fno)
 ·exact .inr (by rw [z];exact fsa)
 ·exact .inr (by rw [z];exact hco)
theorem Wf {P:Str→Option Value} {w:Int} {m:Nat} (T:Txt K P t) (R:RnAt t H x a C s) (h2:∀ c∈C,jW c) (h3:RnOk m s) (h4:m≤900) (q:∀ H',Kp x a H H'→RnAt t H' x a C (vh C w s)→Q .non H') :
  ke K t { nx:=fun _ H'=>Q .non H',rt:=Q } (L2.start ["self","worth"] [.ref x,.int w]) H:=by
 simp only [ke,yq,vO,yF,jD,yg,Ze,VS,ym,Qw,L2.start,zo,Kj,zv,tOp,zc,tC,zb,zi,zE,tB,ye,List.map,List.replicate,List.length,List.append,jqa,jqb,jqc,jqd,jqe,jqf,jqg,jqh,jqi,jqj,jqk,jql,jqm,jqn,and_true,true_and,and_assoc,jqo,jqp,jqq,jqr,jqs,jqt,if_true,ite_true,jqu,ite_false,if_false]
 have F:=rnF T
 refine ⟨_,_,R.ix,rfl,a,C,s,R,fun H1 s1=>?_⟩
 have R1:=R.same s1
 by_cases ho:yy C s=true
 ·rw [if_pos ho]
  exact q H1 (.of_same s1) (by unfold vh;rw [if_pos ho];exact R1)
 rw [if_neg ho]
 obtain ⟨xs,hx,pr⟩:=R1.hc
 have lx:=Paired.length pr
 have lt:=ZW ho
 have hc:C[s.n]?=some C[s.n]:=List.getElem?_eq_getElem lt
 have hv:xs[s.n]?=some xs[s.n]:=List.getElem?_eq_getElem (by lia)
 have cv:=xm pr hv hc
 have es:∀ w,vh C w s=z0 C[s.n] w s:=fun w=>by unfold vh;rw [if_neg ho,hc]
 rw [es] at q
 refine ⟨_,_,R1.ix,rfl,_,_,_,R1.ix,F.cl,F.n1,_,rfl,_,_,_,R1.ix,F.cl,F.n2,_,rfl,_,rfl,xs,_,rfl,SqL.of hx,_,ZO hv,C[s.n],m,a,C,s,R1,cv,h2 _ (List.getElem_mem lt),h3,h4,fun H2 s' k e K2 R2=>⟨_,_,_,R2.ix,F.cl,F.n2,(by show (7:Nat) < 1000;decide),?_⟩,fun H2 er e s2=>?_⟩
 ·have z:=R2.putI { s' with n:=k } rfl rfl rfl rfl
  exact q _ ((Kp.of_same s1).trans (K2.trans (wB (.inl rfl)))) (by unfold z0;rw [e];exact z)
 ·have R3:=R1.same s2
  have z:=R3.putI { s with why:=some (jB er) } rfl rfl rfl rfl
  have q':=q _ ((Kp.of_same s1).trans ((Kp.of_same s2).trans (wB (.inl rfl)))) (by unfold z0;rw [e];exact z)
  cases er with
  | nought=>exact ⟨t.c_Nought,rfl,.inr ⟨T.e_Nought_Great,T.e_Nought_Nought,_,_,_,R3.ix,F.cl,F.n3,(by show (7:Nat) < 1000;decide),q'⟩⟩
  | great=>exact ⟨t.c_Great,rfl,.inl ⟨T.e_Great_Great,_,_,_,R3.ix,F.cl,F.n3,(by show (7:Nat) < 1000;decide),q'⟩⟩
  | stuck=>trivial
theorem Wg {P:Str→Option Value} (T:Txt K P t) (R:RnAt t H x a C s) (h2:∀ c∈C,jW c) (h3:yt s.sl) (q1:∀ H',jX C s=none→Same H H'→Q .non H') (q2:∀ p q H',jX C s=some p→Same H H'→H' q=some (.tup [.str p.1,.int p.2])→Q (.ref q) H') :
  kc K t { nx:=fun _ H'=>Q .non H',rt:=Q } (L2.start ["self","place"] [.ref x]) H:=by
 simp only [kc,yq,z9,Zd,yF,yg,Ze,Jz,L2.start,zT,Jo,zo,zB,zv,tOp,zc,tC,zb,zi,zE,tOr,zm,tB,ye,zT,rNe,yP,List.map,List.replicate,List.length,List.append,jqa,jqb,jqc,jqd,jqe,jqf,jqg,jqh,jqi,jqj,jqk,jql,jqm,jqn,and_true,true_and,and_assoc,jqo,jqp,jqq,jqr,jqs,jqt,if_true,ite_true,jqu,ite_false,if_false]
 have F:=rnF T
 refine ⟨_,_,R.ix,rfl,a,C,s,R,fun H1 s1=>?_⟩
 have R1:=R.same s1
 by_cases ho:yy C s=true
 ·rw [if_pos ho]
  exact q1 H1 (by unfold jX;rw [if_pos ho]) s1
 rw [if_neg ho]
 obtain ⟨xs,hx,pr⟩:=R1.hc
 have lx:=Paired.length pr
 have lt:=ZW ho
 have hc:C[s.n]?=some C[s.n]:=List.getElem?_eq_getElem lt
 have hv:xs[s.n]?=some xs[s.n]:=List.getElem?_eq_getElem (by lia)
 have cv:=xm pr hv hc
 have ok:=h2 _ (List.getElem_mem lt)
 have es:jX C s=wJ C[s.n] s:=by unfold jX;rw [if_neg ho,hc];rfl
 rw [es] at q1 q2
 obtain ⟨p,zs,hd,ev,hp,h0,ht,hnt⟩:=Wc cv
 refine ⟨_,_,_,R1.ix,F.cl,F.n1,_,rfl,_,_,_,R1.ix,F.cl,F.n2,_,rfl,_,rfl,xs,_,rfl,SqL.of hx,_,ZO hv,p,ev,_,SqT.of hp,_,h0,rfl,?_⟩
 by_cases hh:hd=Str.ofString "take"
 case neg =>
  rw [if_pos (fun z=>hh (V.str.inj z))]
  exact q1 H1 (hnt hh s) s1
 rw [if_neg (fun z=>z (congrArg V.str hh))]
 obtain ⟨sh,e,sl,te,ec,a1,a2,ht⟩:=ht hh
 rw [ec] at q1 q2 ok
 unfold jW vN at ok
 simp only [kP,kO,z9,Zd,yF,yg,Ze,Jz,L2.start,zT,Jo,zo,zB,zv,tOp,zc,tC,zb,zi,zE,tOr,zm,tB,ye,zT,rNe,yP,List.map,List.replicate,List.length,List.append,jqa,jqb,jqc,jqd,jqe,jqf,jqg,jqh,jqi,jqj,jqk,jql,jqm,jqn,and_true,true_and,and_assoc,jqo,jqp,jqq,jqr,jqs,jqt,if_true,ite_true,jqu,ite_false,if_false]
 refine ⟨_,_,R1.ix,rfl,_,_,_,R1.ix,F.cl,F.n1,_,rfl,_,_,_,R1.ix,F.cl,F.n2,_,rfl,_,rfl,xs,_,rfl,SqL.of hx,_,ZO hv,p,ev,zs,sh,te,e,a,C,s,R1,h3,hp,a1,a2,ht,ok,fun i q H2 hk s2 hq=>?_,fun er H2 hk s2=>?_⟩
 case refine_2 =>
  have q':=q1 H2 (by unfold wJ;simp only [hk]) (s1.trans s2)
  cases er with
  | nought=>exact ⟨t.c_Nought,rfl,T.m_Nought_Great_Nought,q'⟩
  | great=>exact ⟨t.c_Great,rfl,T.m_Great_Great_Nought,q'⟩
  | stuck=>trivial
 have R2:=R1.same s2
 have g1:DGet H2 a.gi (.ref q) ((zI s.gi (sh,i)).map V.int):=.inr ⟨dOf s.gi,zZ (sh,i),q,.inl R2.hg,rfl,hq,(xt _ _).symm⟩
 have g2:DGet H2 a.no (.ref q) ((zI s.no (sh,i)).map V.int):=.inr ⟨dOf s.no,zZ (sh,i),q,.inl R2.hn,rfl,hq,(xt _ _).symm⟩
 refine ⟨_,_,_,R2.ix,F.cl,F.n5,_,rfl,_,rfl,_,g1,?_⟩
 cases hg:zI s.gi (sh,i) with
 | some j =>
  rw [if_pos (by simp)]
  exact q1 H2 (by unfold wJ;simp only [hk,hg];rfl) (s1.trans s2)
 | none =>
  rw [if_neg (by simp)]
  refine ⟨_,_,_,R2.ix,F.cl,F.n6,_,rfl,_,rfl,_,g2,?_⟩
  cases hn:zI s.no (sh,i) with
  | some j =>
   rw [if_pos (by simp)]
   exact q1 H2 (by unfold wJ;simp only [hk,hg,hn];rfl) (s1.trans s2)
  | none =>
   rw [if_neg (by simp)]
   exact q2 (sh,i) q H2 (by unfold wJ;simp only [hk,hg,hn];rfl) (s1.trans s2) hq
theorem YW (F:RnF K t) (R:RnAt t H x a C s) (h2:s.no.length≤900) (h3:(s.no.map (·.1)).Nodup) (h4:s.gi.length≤63) (q1:∀ H',yy C s=false→Same H H'→Q .non H')
  (q2:∀ r o nl gl out H',yy C s=true→Same H H'→H nl=none→H gl=none→nl≠gl→H' r=some (.tup [o,.ref nl,.ref gl])→X6 H' o (qh s)→kD H' nl s.no→kD H' gl out→Zh s out→Q (.ref r) H') :
  jn K t { nx:=fun _ H'=>Q .non H',rt:=Q } (L2.start ["self","notes"] [.ref x]) H:=by
 simp only [jn,yq,K7,yF,yg,qd,Jw,Xp,L2.start,zo,zQ,zr,zB,zv,tOp,zc,tC,yB,yb,zb,zi,zE,jc,zm,tB,tCB,jA,List.map,List.replicate,List.length,List.append,jqa,jqb,jqc,jqd,jqe,jqf,jqg,jqh,jqi,jqj,jqk,jql,jqm,jqn,and_true,true_and,and_assoc,jqo,jqp,jqq,jqr,jqs,jqt,if_true,ite_true,jqu,ite_false,if_false]
 refine ⟨_,_,R.ix,rfl,a,C,s,R,fun H1 s1=>?_⟩
 have R1:=R.same s1
 cases ho:yy C s with
 | false=>rw [if_pos rfl];exact q1 H1 ho s1
 | true =>
  rw [if_neg (by decide)]
  simp only [j7,j6,K7,yF,yg,qd,Jw,Xp,L2.start,zo,zQ,zr,zB,zv,tOp,zc,tC,yB,yb,zb,zi,zE,jc,zm,tB,tCB,jA,List.map,List.replicate,List.length,List.append,jqa,jqb,jqc,jqd,jqe,jqf,jqg,jqh,jqi,jqj,jqk,jql,jqm,jqn,and_true,true_and,and_assoc,jqo,jqp,jqq,jqr,jqs,jqt,if_true,ite_true,jqu,ite_false,if_false]
  refine ⟨_,_,_,R1.ix,F.cl,F.n6,_,rfl,_,rfl,_,R1.hn,fun r hr=>⟨a.no,ze,dOf s.no,(by rw [zk (zL R1.hn hr)];exact R1.hn),(by have:=jk s.no;lia),fun l ys H2 s2 fl hl pr=>?_⟩⟩
  have sv:=isV (o:=jQ r a.no) r hr
  have S2:=sv.trans s2
  have R2:=R1.same S2
  have nl:H l=none:=zF (s1.trans sv) fl
  rw [zbt h3] at pr
  have pn:=Qq pr
  refine ⟨_,_,_,R2.ix,F.cl,F.n3,_,rfl,?_⟩
  cases hw:s.why with
  | some w =>
   rw [if_pos (fun z=>nomatch z)]
   refine ⟨_,_,_,R2.ix,F.cl,F.n3,_,rfl,by decide,fun p hp=>⟨by decide,fun g hg=>⟨by decide,fun r2 hr2=>?_⟩⟩⟩
   rw [hw]
   rw [hw] at hg hr2
   have t1:=isV (o:=HO.tup [V.str (Str.ofString "off"),zbV (some w)]) p hp
   have t2:=isV (o:=HO.lst []) g hg
   have t3:=isV (o:=HO.tup [V.ref p,V.ref l,V.ref g]) r2 hr2
   have T3:=t1.trans (t2.trans t3)
   refine q2 r2 (.ref p) l g [] _ ho (s1.trans (S2.trans T3)) nl (zF (s1.trans (S2.trans t1)) hg) (fun z=>by rw [← z,t1 _ _ hl] at hg;cases hg) ze ?_ ⟨ys,T3 _ _ hl,kr T3 pn⟩ ⟨[],t3 _ _ ze,.nil⟩ ?_
   ·unfold qh;rw [hw];exact ⟨p,rfl,(t2.trans t3) _ _ ze⟩
   ·unfold Zh;rw [hw]
  | none =>
   rw [if_neg (fun z=>z rfl)]
   refine ⟨_,_,_,R2.ix,F.cl,F.n7,_,rfl,_,rfl,_,.inl ⟨SqL.of R2.ha,fun y hy=>⟨by decide,fun p hp=>?_⟩⟩⟩
   have t1:=isV (o:=HO.tup (List.map V.int s.sa)) y hy
   have t2:=isV (o:=HO.tup [V.str (Str.ofString "done"),V.ref y]) p hp
   have R3:=R2.same (t1.trans t2)
   have ly:=t2 _ _ (ze (H:=H2) (a:=y) (o:=HO.tup (List.map V.int s.sa)))
   have lp:upd (upd H2 y (HO.tup (List.map V.int s.sa))) p (HO.tup [V.str (Str.ofString "done"),V.ref y]) p=some (HO.tup [V.str (Str.ofString "done"),V.ref y]):=ze
   have T2:=t1.trans t2
   generalize upd (upd H2 y (HO.tup (List.map V.int s.sa))) p (HO.tup [V.str (Str.ofString "done"),V.ref y])=H3 at *
   refine ⟨_,_,_,R3.ix,F.cl,F.n5,_,rfl,_,rfl,_,R3.hg,fun r3 hr3=>⟨a.gi,ze,s.gi,(by rw [zk (zL R3.hg hr3)];exact R3.hg),(by have:=jk s.gi;lia),fun g zs srt H4 s4 fg hg ps ri mi=>⟨by decide,fun r2 hr2=>?_⟩⟩⟩
   have t3:=(isV (o:=jQ r3 a.gi) r3 hr3).trans s4
   have t5:=isV (o:=HO.tup [V.ref p,V.ref l,V.ref g]) r2 hr2
   have T5:=t3.trans t5
   have fg3:H3 g=none:=zF (isV (o:=jQ r3 a.gi) r3 hr3) fg
   refine q2 r2 (.ref p) l g srt _ ho (s1.trans (S2.trans (T2.trans T5))) nl (zF (s1.trans (S2.trans T2)) fg3) (fun z=>by rw [← z,T2 _ _ hl] at fg3;cases fg3) ze ?_ ⟨ys,(T2.trans T5) _ _ hl,kr (T2.trans T5) pn⟩ ⟨zs,t5 _ _ hg,kr t5 ps⟩ ?_
   ·unfold qh;rw [hw];exact ⟨p,y,rfl,T5 _ _ lp,T5 _ _ ly⟩
   ·unfold Zh;rw [hw];exact ⟨ri,mi⟩
end
theorem W9 (p:Pl) (w:Int) (s:RSt):(yV p w s).sl=s.sl:=by unfold yV;split <;> rfl
theorem JB (p:Pl) (w:Int) (s:RSt):(yV p w s).n=s.n:=by unfold yV;split <;> rfl
theorem zbX {r:Rw} {w:Int} {s s':RSt} (h:jT r) (e:doR r w s=.ok s'):s'.n=s.n:=by
 cases r with
 | take sh e' x =>
  cases hk:rk s.sl e' with
  | error er=>simp only [doR,hk] at e;cases e
  | ok n=>simp only [doR,hk] at e;cases e;exact JB _ _ _
 | give sh e' f =>
  cases hk:rk s.sl e' with
  | error er=>simp only [doR,hk] at e;cases e
  | ok n =>
   cases hk2:rk s.sl f with
   | error er=>simp only [doR,hk,hk2] at e;cases e
   | ok i=>simp only [doR,hk,hk2] at e;cases e;rfl
 | lt x e' =>
  cases hk:rk s.sl e' with
  | error er=>simp only [doR,hk] at e;cases e
  | ok n=>simp only [doR,hk] at e;cases e;rfl
 | say e' =>
  cases hk:rk s.sl e' with
  | error er=>simp only [doR,hk] at e;cases e
  | ok n=>simp only [doR,hk] at e;cases e;rfl
 | off e'=>exact h.elim
 | iff e' b d=>exact h.elim
theorem Va {r:Rw} {w:Int} {s:RSt} (h:jT r):yX (.row r) w s=match doR r w s with
  | .error er=>.error er
  | .ok s'=>.ok (s.n + 1,s'):=by
 cases r with
 | off e'=>exact h.elim
 | iff e' b d=>exact h.elim
 | take sh e' x=>rfl
 | give sh e' f=>rfl
 | lt x e'=>rfl
 | say e'=>rfl
theorem zaz (r:Rw) (h:W2 r):(∃ e,r=.off e)∨jT r:=by
 cases r with
 | off e'=>exact .inl ⟨e',rfl⟩
 | iff e' b d=>exact h.elim
 | take sh e' x=>exact .inr trivial
 | give sh e' f=>exact .inr trivial
 | lt x e'=>exact .inr trivial
 | say e'=>exact .inr trivial
theorem zaA {F:Addr→Prop} {v:V} {r:Rw} (h:RwAt F H v r) (d:jT r):∃ p xs hd,v=.ref p∧H p=some (.tup xs)∧atI xs 0=some (.str hd)∧hd≠Str.ofString "go"∧hd≠Str.ofString "skip"∧hd≠Str.ofString "off":=by
 cases r with
 | take sh e sl=>unfold RwAt at h;obtain ⟨r,te,rfl,_,_,e2,e3⟩:=h;exact ⟨r,_,_,rfl,e2,rfl,by decide +kernel,by decide +kernel,by decide +kernel⟩
 | give sh e f=>unfold RwAt at h;obtain ⟨r,te,tf,rfl,_,_,_,e2,e3⟩:=h;exact ⟨r,_,_,rfl,e2,rfl,by decide +kernel,by decide +kernel,by decide +kernel⟩
 | lt sl e=>unfold RwAt at h;obtain ⟨r,te,rfl,_,_,e2,e3⟩:=h;exact ⟨r,_,_,rfl,e2,rfl,by decide +kernel,by decide +kernel,by decide +kernel⟩
 | say e=>unfold RwAt at h;obtain ⟨r,te,rfl,_,_,e2,e3⟩:=h;exact ⟨r,_,_,rfl,e2,rfl,by decide +kernel,by decide +kernel,by decide +kernel⟩
 | off e=>exact d.elim
 | iff e a b=>exact d.elim
section
variable {x:Addr} {a:RAd} {C:List Cs} {s:RSt} {E:XK}
theorem Wh {v:V} {r:Rw} {w:Int} {m:Nat} (F:RnF K t) (R:RnAt t H x a C s) (h1:RwAt Yw H v r) (h2:jT r) (h3:vN r) (h4:RnOk m s) (h5:m≤900)
  (q1:∀ H' s',doR r w s=.ok s'→Kp x a H H'→RnAt t H' x a C s'→Q .non H') (q2:∀ H' er,doR r w s=.error er→Same H H'→V1 t er E H') :
  xR K t E { nx:=fun _ H'=>Q .non H',rt:=Q } (L2.start ["self","due","worth","place"] [.ref x,v,.int w]) H:=by
 have l1:=h4.l1
 have l2:=h4.l2
 have l4:=h4.l4
 have so:=h4.so
 cases r with
 | take sh e sl' =>
  unfold RwAt at h1
  unfold vN at h3
  obtain ⟨r,te,rfl,_,_,e2,e3⟩:=h1
  simp only [xR,zN,z9,xy,yK,yF,yg,L2.start,zu,yf,zT,zo,zQ,zr,zY,tOp,zc,tC,zb,zi,zE,zm,tBM,tyV,zT,rEq,yP,List.map,List.replicate,List.length,List.append,jqa,jqb,jqc,jqd,jqe,jqf,jqg,jqh,jqi,jqj,jqk,jql,jqm,jqn,and_true,true_and,and_assoc,jqo,jqp,jqq,jqr,jqs,jqt,if_true,ite_true,jqu,ite_false,if_false]
  refine ⟨_,SqT.of e2,_,rfl,rfl,?_⟩
  rw [if_pos rfl]
  refine ⟨_,_,R.ix,rfl,_,_,R.ix,rfl,_,sh,te,e,a,C,s,R,so,e2,rfl,rfl,e3,h3,fun i q H1 hk s1 hq=>?_,fun er H1 hk s1=>q2 H1 er (by unfold doR;simp only [hk]) s1⟩
  have R1:=R.same s1
  refine ⟨(sh,i),a,C,s,R1,hq,by have:=h4.l3;lia,fun H2 K2 R2=>?_⟩
  have hs2:=R2.hs
  rw [W9] at hs2
  exact ⟨_,_,_,R2.ix,F.cl,F.n4,_,rfl,_,SqT.of (K2 _ _ (R1.notup (s1 _ _ e2)) (s1 _ _ e2)),_,rfl,_,rfl,_,DPut.k (k:=.inr sl') hs2 (Nat.lt_of_le_of_lt (by lia:_≤900) (by decide)),q1 _ _ (by unfold doR;simp only [hk]) ((Kp.of_same s1).trans (K2.trans (wB (.inr (.inl rfl))))) (R2.putS _)⟩
 | give sh e f =>
  unfold RwAt at h1
  unfold vN at h3
  obtain ⟨r,te,tf,rfl,_,_,_,e2,e3,e4⟩:=h1
  simp only [xR,zN,z9,xy,yK,yF,yg,L2.start,zu,yf,zT,zo,zQ,zr,zY,tOp,zc,tC,zb,zi,zE,zm,tBM,tyV,zT,rEq,yP,List.map,List.replicate,List.length,List.append,jqa,jqb,jqc,jqd,jqe,jqf,jqg,jqh,jqi,jqj,jqk,jql,jqm,jqn,and_true,true_and,and_assoc,jqo,jqp,jqq,jqr,jqs,jqt,if_true,ite_true,jqu,ite_false,if_false]
  refine ⟨_,SqT.of e2,_,rfl,rfl,?_⟩
  rw [if_neg (by decide)]
  refine ⟨_,SqT.of e2,_,rfl,rfl,?_⟩
  rw [if_pos rfl]
  refine ⟨_,_,R.ix,rfl,_,sh,te,e,a,C,s,R,so,e2,rfl,rfl,e3,h3.1,fun i q H1 hk s1 hq=>?_,fun er H1 hk s1=>q2 H1 er (by unfold doR;simp only [hk]) s1⟩
  have R1:=R.same s1
  refine ⟨_,_,R1.ix,rfl,_,SqT.of (s1 _ _ e2),_,rfl,_,rfl,f,a,C,s,R1,so,s1 _ _ e4,h3.2,fun H3 s3=>?_⟩
  cases hk2:rk s.sl f with
  | error er=>exact fin_err.mpr (q2 H3 er (by unfold doR;simp only [hk,hk2]) (s1.trans s3))
  | ok n =>
   have R3:=R1.same s3
   have ld:=jk s.gi
   refine fin_ok.mpr ⟨_,_,_,R3.ix,F.cl,F.n5,_,rfl,_,rfl,_,DPut.t (k:=zZ (sh,i)) R3.hg (s3 _ _ hq) (Nat.lt_of_le_of_lt (by lia:_≤900) (by decide)),?_⟩
   rw [show yJ (dOf s.gi) (zZ (sh,i)) (V.int n)=dOf (s.gi ++ [((sh,i),n)]) from (vi s.gi ((sh,i),n)).symm]
   exact q1 _ _ (by unfold doR;simp only [hk,hk2]) ((Kp.of_same (s1.trans s3)).trans (wB (.inr (.inr (.inl rfl))))) (R3.putG _)
 | lt sl' e =>
  unfold RwAt at h1
  unfold vN at h3
  obtain ⟨r,te,rfl,_,_,e2,e3⟩:=h1
  simp only [xR,zN,z9,xy,yK,yF,yg,L2.start,zu,yf,zT,zo,zQ,zr,zY,tOp,zc,tC,zb,zi,zE,zm,tBM,tyV,zT,rEq,yP,List.map,List.replicate,List.length,List.append,jqa,jqb,jqc,jqd,jqe,jqf,jqg,jqh,jqi,jqj,jqk,jql,jqm,jqn,and_true,true_and,and_assoc,jqo,jqp,jqq,jqr,jqs,jqt,if_true,ite_true,jqu,ite_false,if_false]
  refine ⟨_,SqT.of e2,_,rfl,rfl,?_⟩
  rw [if_neg (by decide)]
  refine ⟨_,SqT.of e2,_,rfl,rfl,?_⟩
  rw [if_neg (by decide)]
  refine ⟨_,SqT.of e2,_,rfl,rfl,?_⟩
  rw [if_pos rfl]
  refine ⟨_,_,R.ix,rfl,_,SqT.of e2,_,rfl,_,rfl,e,a,C,s,R,so,e3,h3,fun H1 s1=>?_⟩
  cases hk:rk s.sl e with
  | error er=>exact fin_err.mpr (q2 H1 er (by unfold doR;simp only [hk]) s1)
  | ok n =>
   have R2:=R.same s1
   exact fin_ok.mpr ⟨_,_,_,R2.ix,F.cl,F.n4,_,rfl,_,SqT.of (s1 _ _ e2),_,rfl,_,rfl,_,DPut.k (k:=.inr sl') R2.hs (Nat.lt_of_le_of_lt (by lia:_≤900) (by decide)),q1 _ _ (by unfold doR;simp only [hk]) ((Kp.of_same s1).trans (wB (.inr (.inl rfl)))) (R2.putS _)⟩
 | say e =>
  unfold RwAt at h1
  unfold vN at h3
  obtain ⟨r,te,rfl,_,_,e2,e3⟩:=h1
  simp only [xR,zN,z9,xy,yK,yF,yg,L2.start,zu,yf,zT,zo,zQ,zr,zY,tOp,zc,tC,zb,zi,zE,zm,tBM,tyV,zT,rEq,yP,List.map,List.replicate,List.length,List.append,jqa,jqb,jqc,jqd,jqe,jqf,jqg,jqh,jqi,jqj,jqk,jql,jqm,jqn,and_true,true_and,and_assoc,jqo,jqp,jqq,jqr,jqs,jqt,if_true,ite_true,jqu,ite_false,if_false]
  refine ⟨_,SqT.of e2,_,rfl,rfl,?_⟩
  rw [if_neg (by decide)]
  refine ⟨_,SqT.of e2,_,rfl,rfl,?_⟩
  rw [if_neg (by decide)]
  refine ⟨_,SqT.of e2,_,rfl,rfl,?_⟩
  rw [if_neg (by decide)]
  refine ⟨_,_,_,R.ix,F.cl,F.n7,_,rfl,.inl ⟨_,SqL.of R.ha⟩,_,_,R.ix,rfl,_,SqT.of e2,_,rfl,_,rfl,e,a,C,s,R,so,e3,h3,fun H1 s1=>?_⟩
  cases hk:rk s.sl e with
  | error er=>exact fin_err.mpr (q2 H1 er (by unfold doR;simp only [hk]) s1)
  | ok n =>
   have R1:=R.same s1
   refine fin_ok.mpr ⟨_,rfl,_,R1.ha,Nat.lt_of_le_of_lt (by rw [List.length_map];lia:_≤900) (by decide),?_⟩
   rw [show List.map V.int s.sa ++ [V.int n]=List.map V.int (s.sa ++ [n]) by simp]
   exact q1 _ _ (by unfold doR;simp only [hk]) ((Kp.of_same s1).trans (wB (.inr (.inr (.inr (.inr rfl)))))) (R1.putA _)
 | off e=>exact h2.elim
 | iff e b d=>exact h2.elim
theorem YD {v:V} {c:Cs} {w:Int} {m:Nat} (F:RnF K t) (R:RnAt t H x a C s) (h1:CsAt H v c) (h2:jW c) (h3:RnOk m s) (h4:m≤900)
  (q1:∀ H' s' k,yX c w s=.ok (k,s')→Kp x a H H'→RnAt t H' x a C s'→Q (.int (k:Nat)) H') (q2:∀ H' er,yX c w s=.error er→Same H H'→V1 t er E H') :
  xi K t E { nx:=fun _ H'=>Q .non H',rt:=Q } (L2.start ["self","due","worth"] [.ref x,v,.int w]) H:=by
 have so:=h3.so
 cases c with
 | go en =>
  obtain ⟨p,rfl,e2⟩:=h1
  simp only [xi,zN,xQ,yF,jD,yg,ym,L2.start,zT,zo,zB,zY,zv,tOp,zc,tC,zb,zi,zE,zm,tIf,zT,rEq,rNe,rI0,yP,List.map,List.replicate,List.length,List.append,jqa,jqb,jqc,jqd,jqe,jqf,jqg,jqh,jqi,jqj,jqk,jql,jqm,jqn,and_true,true_and,and_assoc,jqo,jqp,jqq,jqr,jqs,jqt,if_true,ite_true,jqu,ite_false,if_false]
  refine ⟨_,SqT.of e2,_,rfl,rfl,?_⟩
  rw [if_pos rfl]
  exact ⟨_,SqT.of e2,_,rfl,q1 H s en rfl (.of_same fun _ _ z=>z) R⟩
 | skip e to =>
  obtain ⟨p,te,rfl,e2,e3⟩:=h1
  simp only [xi,zN,xQ,yF,jD,yg,ym,L2.start,zT,zo,zB,zY,zv,tOp,zc,tC,zb,zi,zE,zm,tIf,zT,rEq,rNe,rI0,yP,List.map,List.replicate,List.length,List.append,jqa,jqb,jqc,jqd,jqe,jqf,jqg,jqh,jqi,jqj,jqk,jql,jqm,jqn,and_true,true_and,and_assoc,jqo,jqp,jqq,jqr,jqs,jqt,if_true,ite_true,jqu,ite_false,if_false]
  refine ⟨_,SqT.of e2,_,rfl,rfl,?_⟩
  rw [if_neg (by decide)]
  refine ⟨_,SqT.of e2,_,rfl,rfl,?_⟩
  rw [if_pos rfl]
  refine ⟨_,_,R.ix,rfl,_,SqT.of e2,_,rfl,_,rfl,e,a,C,s,R,so,e3,h2,fun H1 s1=>?_⟩
  cases hk:rk s.sl e with
  | error er=>exact fin_err.mpr (q2 H1 er (by unfold yX;simp only [hk]) s1)
  | ok n =>
   have R2:=R.same s1
   refine fin_ok.mpr ⟨rfl,?_⟩
   by_cases hn:n=0
   ·rw [if_pos (congrArg V.int hn)]
    exact ⟨_,SqT.of (s1 _ _ e2),_,rfl,q1 H1 s to (by unfold yX;simp only [hk,if_pos hn]) (.of_same s1) R2⟩
   ·rw [if_neg (fun z=>hn (V.int.inj z))]
    exact ⟨_,_,_,R2.ix,F.cl,F.n2,_,rfl,_,rfl,q1 H1 s (s.n + 1) (by unfold yX;simp only [hk,if_neg hn]) (.of_same s1) R2⟩
 | row r =>
  obtain ⟨h1,hni⟩:=h1
  rcases zaz r hni with ⟨e,rfl⟩ | hdo
  ·unfold RwAt at h1
   unfold jW vN at h2
   obtain ⟨r,te,rfl,_,_,e2,e3⟩:=h1
   simp only [xi,zN,xQ,yF,jD,yg,ym,L2.start,zT,zo,zB,zY,zv,tOp,zc,tC,zb,zi,zE,zm,tIf,zT,rEq,rNe,rI0,yP,List.map,List.replicate,List.length,List.append,jqa,jqb,jqc,jqd,jqe,jqf,jqg,jqh,jqi,jqj,jqk,jql,jqm,jqn,and_true,true_and,and_assoc,jqo,jqp,jqq,jqr,jqs,jqt,if_true,ite_true,jqu,ite_false,if_false]
   refine ⟨_,SqT.of e2,_,rfl,rfl,?_⟩
   rw [if_neg (by decide)]
   refine ⟨_,SqT.of e2,_,rfl,rfl,?_⟩
   rw [if_neg (by decide)]
   refine ⟨_,SqT.of e2,_,rfl,rfl,?_⟩
   rw [if_pos rfl]
   refine ⟨_,_,R.ix,rfl,_,SqT.of e2,_,rfl,_,rfl,e,a,C,s,R,so,e3,h2,fun H1 s1=>?_⟩
   cases hk:rk s.sl e with
   | error er=>exact fin_err.mpr (q2 H1 er (by unfold yX;simp only [hk]) s1)
   | ok n =>
    have R2:=R.same s1
    refine fin_ok.mpr ⟨rfl,?_⟩
    by_cases hn:n=0
    ·rw [if_neg (fun z=>z (congrArg V.int hn))]
     exact ⟨_,_,_,R2.ix,F.cl,F.n2,_,rfl,_,rfl,q1 H1 s (s.n + 1) (by unfold yX;simp only [hk,if_pos hn]) (.of_same s1) R2⟩
    ·rw [if_pos (fun z=>hn (V.int.inj z))]
     have R3:=R2.putI { s with why:=some (Str.ofString "told") } rfl rfl rfl rfl
     refine ⟨_,_,_,R2.ix,F.cl,F.n3,(by show (7:Nat) < 1000;decide),_,_,_,R3.ix,F.cl,F.n2,_,rfl,_,rfl,?_⟩
     exact q1 _ { s with why:=some (Str.ofString "told") } (s.n + 1) (by unfold yX;simp only [hk,if_neg hn]) ((Kp.of_same s1).trans (wB (.inl rfl))) R3
  ·obtain ⟨p,zs,hd,rfl,e2,e3,n1,n2,n3⟩:=zaA h1 hdo
   have el:=Va (w:=w) (s:=s) hdo
   simp only [xi,zN,xQ,yF,jD,yg,ym,L2.start,zT,zo,zB,zY,zv,tOp,zc,tC,zb,zi,zE,zm,tIf,zT,rEq,rNe,rI0,yP,List.map,List.replicate,List.length,List.append,jqa,jqb,jqc,jqd,jqe,jqf,jqg,jqh,jqi,jqj,jqk,jql,jqm,jqn,and_true,true_and,and_assoc,jqo,jqp,jqq,jqr,jqs,jqt,if_true,ite_true,jqu,ite_false,if_false]
   refine ⟨_,SqT.of e2,_,e3,rfl,?_⟩
   rw [if_neg (fun z=>n1 (V.str.inj z))]
   refine ⟨_,SqT.of e2,_,e3,rfl,?_⟩
   rw [if_neg (fun z=>n2 (V.str.inj z))]
   refine ⟨_,SqT.of e2,_,e3,rfl,?_⟩
   rw [if_neg (fun z=>n3 (V.str.inj z))]
   refine ⟨_,_,R.ix,rfl,r,m,a,C,s,R,h1,hdo,h2,h3,h4,fun H1 s' e K1 R1=>?_,fun H1 er e s1=>q2 H1 er (by rw [el,e]) s1⟩
   have en:=zbX hdo e
   refine ⟨_,_,_,R1.ix,F.cl,F.n2,_,rfl,_,rfl,?_⟩
   exact q1 H1 s' (s'.n + 1) (by rw [el,e,en]) K1 R1
end
theorem ju {x:Str} (h:xz x=true):PyData.strOk x=true:=(K3 h).flat
def v4 (P:Nat→Bool) (x:Str):Prop:=x.cps.toList.all P=true
theorem qM {P:Nat→Bool} {x y:Str} (h:v4 P x) (h':v4 P y):v4 P (x ++ y):=by
 unfold v4 at *
 rw [zae,List.all_append,h,h'];rfl
theorem Vb {P:Nat→Bool} {c:Nat} (h:P c=true):v4 P ⟨#[c]⟩:=by
 show [c].all P=true
 rw [List.all_cons,h];rfl
theorem JC {P:Nat→Bool} {x:Str} (h:v4 P x) (k:Nat):v4 P (Txt.slice x none (some (k:Int))):=by
 unfold v4 at *
 rw [WH]
 rw [List.all_eq_true] at *
 exact fun c hc=>h c (List.mem_of_mem_take hc)
theorem Xv {P:Nat→Bool} {x:Str} (h:v4 P x) (k:Nat):v4 P (Txt.slice x (some (k:Int)) none):=by
 unfold v4 at *
 rw [Ym]
 rw [List.all_eq_true] at *
 exact fun c hc=>h c (List.mem_of_mem_drop hc)
theorem QA (x:Str) (k:Nat) (h:k≤x.length):(Txt.slice x none (some (k:Int))).length=k:=by
 rw [ZR] at *
 rw [WH,List.length_take];lia
theorem Vc (x:Str) (k:Nat):(Txt.slice x (some (k:Int)) none).length=x.length - k:=by
 rw [ZR,ZR,Ym,List.length_drop]
def inC (c:Nat):Bool:=(Str.ofString "zyxwvtsrqpnmlkjhgfdcb").cps.toList.contains c
theorem zbY:∀ c∈(Str.ofString "zyxwvtsrqpnmlkjhgfdcb").cps.toList,inL c=true:=by decide +kernel
theorem zcu:∀ c∈(Str.ofString "zyxwvtsrqpnmlkjhgfdcb").cps.toList,inC c=true:=fun c hc=>by unfold inC;exact List.contains_iff_mem.mpr hc
theorem zcv:∀ c∈(Str.ofString "zyxwvutsrqponmlkjihgfedcba").cps.toList,inL c=true:=by decide +kernel
theorem J6:∀ v∈jw ++ wl,(match v with | .str w=>decide (w.length≠6) && !(w.cps.toList.all inC) | _=>true)=true:=by decide +kernel
theorem zaB {x:Str} (h:x.length=6∨v4 inC x):(inV (.str x) jw || inV (.str x) wl)=false:=by
 have key:∀ v∈jw ++ wl,eqV v (.str x)=false:=fun v hv=>by
  have w:=J6 v hv
  cases e:eqV v (.str x) with
  | false=>rfl
  | true =>
   cases v <;> simp only [eqV,Bool.false_eq_true] at e
   rename_i y
   have e':y=x:=by simpa using e
   subst e'
   simp only [Bool.and_eq_true,decide_eq_true_eq,Bool.not_eq_true'] at w
   rcases h with h | h
   ·exact absurd h w.1
   ·unfold v4 at h;rw [h] at w;exact absurd w.2 (by decide)
 rw [Bool.or_eq_false_iff]
 unfold inV
 constructor
 ·rw [List.any_eq_false]
  exact fun v hv=>by rw [key v (List.mem_append_left _ hv)];decide
 ·rw [List.any_eq_false]
  exact fun v hv=>by rw [key v (List.mem_append_right _ hv)];decide
theorem JD {x:Str} (h1:1≤x.length) (h2:x.length≤6) (h3:(x.length=6∧v4 inL x)∨v4 inC x):xz x=true:=by
 have nw:(inV (.str x) jw || inV (.str x) wl)=false:=zaB (h3.imp (·.1) id)
 have al:x.cps.toList.all inL=true:=by
  rcases h3 with h | h
  ·exact h.2
  ·unfold v4 at h
   rw [List.all_eq_true] at *
   exact fun c hc=>zbY c (List.contains_iff_mem.mp (h c hc))
 have ne:decide (x="")=false:=decide_eq_false fun z=>by rw [z] at h1;exact absurd h1 (by decide)
 have nl:decide (6 < x.length)=false:=decide_eq_false (by lia)
 unfold xz
 rw [nw,al,ne,nl];rfl
structure Sgn (P:Nat→Bool) (sz:Nat) (sg:Str):Prop where
 al:v4 P sg
 lo:21≤sg.length
 hi:sg.length≤26
 s1:1≤sz
 s6:sz≤6
 nm:∀ x:Str,x.length=sz→v4 P x→xz x=true
theorem QB {P:Nat→Bool} {sz:Nat} {sg:Str} (S:Sgn P sz sg) {i:Int} (h0:0≤i) (h1:i < sg.length):∃ c,atI sg.cps.toList i=some c∧P c=true:=by
 obtain ⟨c,hc,hm⟩:=Qy (xs:=sg.cps.toList) (i:=i) h0 (by rw [← ZR];exact h1)
 exact ⟨c,hc,List.all_eq_true.mp S.al c hm⟩
theorem JE {P:Str→Prop}:∀ {ys:List V},(∀ v∈ys,∃ x,v=.str x∧P x)→∃ ls:List Str,ys=ls.map V.str∧∀ x∈ls,P x
 | [],_=>⟨[],rfl,fun _ z=>nomatch z⟩
 | v :: r,h=>by
  obtain ⟨x,rfl,px⟩:=h v List.mem_cons_self
  obtain ⟨ls,rfl,pl⟩:=JE (ys:=r) fun u hu=>h u (List.mem_cons_of_mem _ hu)
  exact ⟨x :: ls,rfl,fun y hy=>by
   rcases List.mem_cons.mp hy with rfl | hy
   ·exact px
   ·exact pl y hy⟩
def nmV (v:V):Prop:=∃ x:Str,v=.str x∧xz x=true
theorem zaC {P:Nat→Bool} {sz:Nat} {sg stem:Str} {c m tn:Int} {o5:Option V} {at_:Nat} (S:Sgn P sz sg) (hs:stem.length=sz) (hp:v4 P stem) (ha:at_ < sz) (h1:0≤m) (h2:m≤6) (q:∀ nm ws H',Same H H'→NamesAt H' nm ws→(ws.length:Int)=m→Q (.ref nm) H') :
  wO K t { nx:=fun _ H'=>Q .non H',rt:=Q } [some (.int c),some (.int m),some (.int sz),some (.str sg),some (.str stem),o5,some (.int at_),some (.int tn)] H:=by
 simp only [wO,L2.start,zr,zB,tOp,zc,tC,zb,zi,tSl,x8,xr,qC,WC,Yf,v6,XH,rI0,Yi,kL,List.map,List.replicate,List.length,List.append,jqa,jqb,jqc,jqd,jqe,jqf,jqg,jqh,jqi,jqj,jqk,jql,jqm,jqn,and_true,true_and,and_assoc,jqo,jqp,jqq,jqr,jqs,jqt,if_true,ite_true,jqu,ite_false,if_false]
 have lo:=S.lo
 have hi:=S.hi
 have s6:=S.s6
 refine ⟨by lia,by lia,fun D hD=>?_⟩
 refine KP (J:=Itr 0 m.toNat) m.toNat (by lia) (fun τ=>∃ o,τ=[o,some (.str stem),some (.int (at_:Int)),some (.str sg)]) (fun i v=>nmV v) ⟨_,rfl⟩ (fun i H _ h=>h) (fun H _=>Nat.le_refl _) hD ?_ ?_
 ·rintro i v τ H2 H' ⟨o,rfl⟩ s hi ⟨rfl,rfl⟩
  simp only [L2.start,zr,zB,tOp,zc,tC,zb,zi,tSl,x8,xr,qC,WC,Yf,v6,XH,rI0,Yi,kL,List.map,List.replicate,List.length,List.append,jqa,jqb,jqc,jqd,jqe,jqf,jqg,jqh,jqi,jqj,jqk,jql,jqm,jqn,and_true,true_and,and_assoc,jqo,jqp,jqq,jqr,jqs,jqt,if_true,ite_true,jqu,ite_false,if_false]
  obtain ⟨d,hd,hP⟩:=QB S (i:=0 + (i:Int)) (by lia) (by lia)
  have l1:=QA stem at_ (by lia)
  have l2:=Vc stem (at_ + 1)
  have p1:=JC hp at_
  have p2:=Xv hp (at_ + 1)
  rw [show ((at_ + 1:Nat):Int)=(at_:Int) + 1 by lia] at l2 p2
  exact ⟨yv (by lia),yv (by lia),d,hd,yv (by rw [qK];lia),yv (by lia),yv (by rw [ky,qK];lia),⟨_,rfl⟩,⟨_,rfl,S.nm _ (by rw [ky,ky,qK];lia) (qM (qM p1 (Vb hP)) p2)⟩,Same.refl _⟩
 ·intro ys H' hly hv s hq
  obtain ⟨ls,rfl,hp⟩:=JE (P:=fun x=>xz x=true) (ys:=ys) fun v hv2=>by
   obtain ⟨i,hi⟩:=List.getElem?_of_mem hv2
   exact hv i v hi
  rw [List.length_map] at hly
  exact q D ls H' s ⟨hq,hp⟩ (by lia)
theorem zaD {P:Nat→Bool} {sz:Nat} {sg stem:Str} {c m:Int} {o5:Option V} (S:Sgn P sz sg) (hs:stem.length=sz) (hp:v4 P stem) (h1:0≤m) (h2:m≤6) (q:∀ nm ws H',Same H H'→NamesAt H' nm ws→(ws.length:Int)=m→Q (.ref nm) H') :
  wP K t { nx:=fun _ H'=>Q .non H',rt:=Q } [some (.int c),some (.int m),some (.int sz),some (.str sg),some (.str stem),o5,none,none] H:=by
 simp only [wP,zq,L2.start,zo,zQ,zr,zB,tOp,zc,tC,zb,zi,tCB,tSl,x8,xr,zp,qC,WC,Yf,xS,v6,XH,rI,rI0,Yi,kL,yN,List.map,List.replicate,List.length,List.append,jqa,jqb,jqc,jqd,jqe,jqf,jqg,jqh,jqi,jqj,jqk,jql,jqm,jqn,and_true,true_and,and_assoc,jqo,jqp,jqq,jqr,jqs,jqt,if_true,ite_true,jqu,ite_false,if_false]
 have lo:=S.lo
 have hi:=S.hi
 have s1:=S.s1
 have s6:=S.s6
 refine ⟨by decide,by decide,fun r1 H1 a1 b1 s1'=>⟨by lia,by decide,by decide,fun r2 H2 a2 b2 s2'=>⟨yv (by lia),by lia,?_⟩⟩⟩
 obtain ⟨k,ek⟩:∃ k:Nat,r1 % (sz:Int)=k:=⟨_,(Int.toNat_of_nonneg (Int.emod_nonneg _ (by lia))).symm⟩
 have hk:(k:Int) < sz:=by rw [← ek];exact Int.emod_lt_of_pos _ (by lia)
 obtain ⟨u,eu⟩:∃ u:Nat,r2 % (sg.length:Int)=u:=⟨_,(Int.toNat_of_nonneg (Int.emod_nonneg _ (by lia))).symm⟩
 have hu:(u:Int) < sg.length:=by rw [← eu];exact Int.emod_lt_of_pos _ (by lia)
 rw [ek,eu]
 have l1:=QA sg u (by lia)
 have l2:=Vc sg u
 refine ⟨yv (by lia),yv (by lia),yv (by lia),?_⟩
 have S':Sgn P sz (Txt.slice sg (some (u:Int)) none ++ Txt.slice sg none (some (u:Int))):=⟨qM (Xv S.al u) (JC S.al u),by rw [ky];lia,by rw [ky];lia,S.s1,S.s6,S.nm⟩
 exact zaC S' hs hp (by lia) h1 h2 fun nm ws H' s hn hl=>q nm ws H' (s1'.trans (s2'.trans s)) hn hl
def nmI (P:Nat→Bool) (c m:Int) (sz:Nat) (sg:Str) (H:Hp) (i:Nat) (σ:St) (H':Hp):Prop:=(∃ (x:Str) (o:Option V),σ=[some (.int c),some (.int m),some (.int sz),some (.str sg),some (.str x),o,none,none]∧x.length=i∧v4 P x)∧Same H H'
theorem JF {P:Nat→Bool} {sz:Nat} {sg:Str} {c m:Int} (S:Sgn P sz sg) (h1:0≤m) (h2:m≤6) (q:∀ nm ws H',Same H H'→NamesAt H' nm ws→(ws.length:Int)=m→Q (.ref nm) H') :
  wQ K t { nx:=fun _ H'=>Q .non H',rt:=Q } [some (.int c),some (.int m),some (.int sz),some (.str sg),none,none,none,none] H:=by
 simp only [wQ,zq,L2.start,zo,zQ,zr,zB,tOp,zc,tC,zb,zi,xD,tCB,tSl,x8,xr,zp,qC,WC,Yf,xS,v6,XH,rI,rI0,Yi,kL,yN,List.map,List.replicate,List.length,List.append,jqa,jqb,jqc,jqd,jqe,jqf,jqg,jqh,jqi,jqj,jqk,jql,jqm,jqn,and_true,true_and,and_assoc,jqo,jqp,jqq,jqr,jqs,jqt,if_true,ite_true,jqu,ite_false,if_false]
 have lo:=S.lo
 have hi:=S.hi
 have s1:=S.s1
 have s6:=S.s6
 refine ⟨by lia,by lia,Yk (nmI P c m sz sg H) ⟨⟨_,none,rfl,by decide +kernel,by show [].all P=true;rfl⟩,Same.refl H⟩ ?_ ?_⟩
 ·rintro i σ H' hi ⟨⟨x,o,rfl,hx,hp⟩,s⟩
  simp only [L2.start,zo,zQ,zr,zB,tOp,zc,tC,zb,zi,xD,tCB,tSl,x8,xr,zp,qC,WC,Yf,xS,v6,XH,rI,rI0,Yi,kL,yN,List.map,List.replicate,List.length,List.append,jqa,jqb,jqc,jqd,jqe,jqf,jqg,jqh,jqi,jqj,jqk,jql,jqm,jqn,and_true,true_and,and_assoc,jqo,jqp,jqq,jqr,jqs,jqt,if_true,ite_true,jqu,ite_false,if_false]
  refine ⟨by lia,by lia,fun r1 H1 a1 b1 s1'=>⟨yv (by lia),by lia,?_⟩⟩
  obtain ⟨d,hd,hP⟩:=QB S (i:=r1 % (sg.length:Int)) (Int.emod_nonneg _ (by lia)) (Int.emod_lt_of_pos _ (by lia))
  exact ⟨yv (by lia),d,hd,yv (by rw [qK];lia),⟨_,_,rfl,by rw [ky,qK];lia,qM hp (Vb hP)⟩,s.trans s1'⟩
 ·rintro σ H' ⟨⟨x,o,rfl,hx,hp⟩,s⟩
  exact zaD S (by lia) hp h1 h2 fun nm ws H2 s2 hn hl=>q nm ws H2 (s.trans s2) hn hl
theorem YE {c m:Int} (h1:0≤m) (h2:m≤6) (q:∀ nm ws H',Same H H'→NamesAt H' nm ws→(ws.length:Int)=m→Q (.ref nm) H') :
  vQ K t { nx:=fun _ H'=>Q .non H',rt:=Q } (L2.start ["cell","many","size","signs","stem","k","at","turn"] [.int c,.int m]) H:=by
 simp only [vQ,zq,L2.start,zo,zQ,zr,zB,zv,tOp,zc,tC,zb,zi,xD,zE,zm,tCB,tSl,x8,xr,zp,qC,WC,Yf,xS,v6,XH,rEq,rI,rI0,Yi,kL,yN,yP,List.map,List.replicate,List.length,List.append,jqa,jqb,jqc,jqd,jqe,jqf,jqg,jqh,jqi,jqj,jqk,jql,jqm,jqn,and_true,true_and,and_assoc,jqo,jqp,jqq,jqr,jqs,jqt,if_true,ite_true,jqu,ite_false,if_false]
 refine ⟨by decide,by decide,fun r1 H1 a1 b1 s1'=>⟨by decide,?_⟩⟩
 obtain ⟨k,ek⟩:∃ k:Nat,1 + r1 % 6=k:=⟨(1 + r1 % 6).toNat,by lia⟩
 rw [ek]
 have lc:(Str.ofString "zyxwvtsrqpnmlkjhgfdcb").length=21:=by decide +kernel
 have lz:(Str.ofString "zyxwvutsrqponmlkjihgfedcba").length=26:=by decide +kernel
 refine yQ (fun e=>?_) fun e=>?_
 ·have e5:(k:Int)=6:=by simpa using e
  have e6:k=6:=by lia
  exact JF (P:=inL) (sg:="zyxwvutsrqponmlkjihgfedcba") ⟨List.all_eq_true.mpr zcv,by rw [lz];lia,by rw [lz];lia,by lia,by lia,fun x hx hp=>JD (by lia) (by lia) (.inl ⟨by lia,hp⟩)⟩ h1 h2 fun nm ws H2 s2 hn hl=>q nm ws H2 (s1'.trans s2) hn hl
 ·exact JF (P:=inC) (sg:="zyxwvtsrqpnmlkjhgfdcb") ⟨List.all_eq_true.mpr zcu,by rw [lc];lia,by rw [lc];lia,by lia,by lia,fun x hx hp=>JD (by lia) (by lia) (.inr hp)⟩ h1 h2 fun nm ws H2 s2 hn hl=>q nm ws H2 (s1'.trans s2) hn hl
structure RnP (m:Nat) (s:RSt):Prop where
 ok:RnOk m s
 ng:∀ r∈s.gi,PyData.strOk r.1.1=true
 nn:∀ r∈s.no,PyData.strOk r.1.1=true
theorem RnOk.up {m:Nat} {s:RSt} (h:RnOk m s):RnOk (m + 1) s:=⟨h.so,h.gw,h.nw,Nat.le_succ_of_le h.l1,Nat.le_succ_of_le h.l2,Nat.le_succ_of_le h.l3,Nat.le_succ_of_le h.l4,h.nd⟩
theorem RnP.up {m:Nat} {s:RSt} (h:RnP m s):RnP (m + 1) s:=⟨h.ok.up,h.ng,h.nn⟩
theorem QC {p:Pl} {l:List Row} (nd:(l.map (·.1)).Nodup) (h:zI l p=none):p ∉ l.map (·.1):=fun z=>by
 obtain ⟨r,hr,e⟩:=List.mem_map.mp z
 have:=(Ju (w:=r.2) nd).mpr (show (p,r.2)∈l by rw [← e];exact hr)
 rw [h] at this
 cases this
theorem QD {m:Nat} {s:RSt} {p:Pl} {w:Int} (h:RnOk m s) (hw:inW w=true):inW (xG p w s)=true:=by
 unfold xG
 cases e:zI s.gi p with
 | some i=>exact ZV (P:=fun r=>inW r.2=true) h.gw e
 | none =>
  cases e2:zI s.no p with
  | some i=>exact ZV (P:=fun r=>inW r.2=true) h.nw e2
  | none=>exact hw
theorem zaE {m:Nat} {s:RSt} {p:Pl} {w i:Int} {x:Str} (h:RnP m s) (hp:PyData.strOk p.1=true) (hw:inW w=true) (hi:inW i=true):RnP (m + 1) { yV p w s with sl:=yJ s.sl (.inr x) (.int i) }:=by
 have so:=Xr h.ok.so (.inr x) hi
 have l1:(yJ s.sl (.inr x) (V.int i)).length≤m + 1:=Nat.le_trans (wF _ _ _) (Nat.succ_le_succ h.ok.l1)
 unfold yV
 by_cases c:(zI s.gi p).isSome=true∨(zI s.no p).isSome=true
 ·rw [if_pos c]
  exact ⟨⟨so,h.ok.gw,h.ok.nw,l1,Nat.le_succ_of_le h.ok.l2,Nat.le_succ_of_le h.ok.l3,Nat.le_succ_of_le h.ok.l4,h.ok.nd⟩,h.ng,h.nn⟩
 ·rw [if_neg c]
  have cn:zI s.no p=none:=by
   cases e:zI s.no p with
   | none=>rfl
   | some i=>exact absurd (.inr (by rw [e];rfl)) c
  refine ⟨⟨so,h.ok.gw,fun r hr=>?_,l1,Nat.le_succ_of_le h.ok.l2,?_,Nat.le_succ_of_le h.ok.l4,?_⟩,h.ng,fun r hr=>?_⟩
  ·rcases List.mem_append.mp hr with hr | hr
   ·exact h.ok.nw r hr
   ·rw [List.mem_singleton.mp hr];exact hw
  ·show (s.no ++ [(p,w)]).length≤m + 1
   rw [List.length_append];exact Nat.succ_le_succ h.ok.l3
  ·show ((s.no ++ [(p,w)]).map (·.1)).Nodup
   rw [List.map_append]
   refine List.nodup_append.mpr ⟨h.ok.nd,by simp,fun a ha b hb=>?_⟩
   have hb:b=p:=by simpa using hb
   rw [hb]
   exact fun z=>QC h.ok.nd cn (by rw [← z];exact ha)
  ·rcases List.mem_append.mp hr with hr | hr
   ·exact h.nn r hr
   ·rw [List.mem_singleton.mp hr];exact hp
theorem zbu {r:Rw} {m:Nat} {w:Int} {s s':RSt} (h:RnP m s) (d:jT r) (k:vN r) (pl:ZC r) (hw:inW w=true) (e:doR r w s=.ok s'):RnP (m + 1) s'∧s'.why=s.why:=by
 cases r with
 | off e'=>exact d.elim
 | iff e' b c=>exact d.elim
 | take sh e' x =>
  cases hk:rk s.sl e' with
  | error er=>simp only [doR,hk] at e;cases e
  | ok n =>
   simp only [doR,hk] at e
   cases e
   exact ⟨zaE h pl.1 hw (QD h.ok hw),by show (yV _ _ _).why=_;unfold yV;split <;> rfl⟩
 | give sh e' f =>
  cases hk:rk s.sl e' with
  | error er=>simp only [doR,hk] at e;cases e
  | ok n =>
   cases hk2:rk s.sl f with
   | error er=>simp only [doR,hk,hk2] at e;cases e
   | ok i =>
    simp only [doR,hk,hk2] at e
    cases e
    have hi:=Qj h.ok.so k.2.2.1 hk2
    refine ⟨⟨⟨h.ok.so,fun r hr=>?_,h.ok.nw,Nat.le_succ_of_le h.ok.l1,?_,Nat.le_succ_of_le h.ok.l3,Nat.le_succ_of_le h.ok.l4,h.ok.nd⟩,fun r hr=>?_,h.nn⟩,rfl⟩
    ·rcases List.mem_append.mp hr with hr | hr
     ·exact h.ok.gw r hr
     ·rw [List.mem_singleton.mp hr];exact hi
    ·show (s.gi ++ [((sh,n),i)]).length≤m + 1
     rw [List.length_append];exact Nat.succ_le_succ h.ok.l2
    ·rcases List.mem_append.mp hr with hr | hr
     ·exact h.ng r hr
     ·rw [List.mem_singleton.mp hr];exact pl.1
 | lt x e' =>
  cases hk:rk s.sl e' with
  | error er=>simp only [doR,hk] at e;cases e
  | ok i =>
   simp only [doR,hk] at e
   cases e
   have hi:=Qj h.ok.so k.2.1 hk
   exact ⟨⟨⟨Xr h.ok.so _ hi,h.ok.gw,h.ok.nw,Nat.le_trans (wF _ _ _) (Nat.succ_le_succ h.ok.l1),Nat.le_succ_of_le h.ok.l2,Nat.le_succ_of_le h.ok.l3,Nat.le_succ_of_le h.ok.l4,h.ok.nd⟩,h.ng,h.nn⟩,rfl⟩
 | say e' =>
  cases hk:rk s.sl e' with
  | error er=>simp only [doR,hk] at e;cases e
  | ok i =>
   simp only [doR,hk] at e
   cases e
   exact ⟨⟨⟨h.ok.so,h.ok.gw,h.ok.nw,Nat.le_succ_of_le h.ok.l1,Nat.le_succ_of_le h.ok.l2,Nat.le_succ_of_le h.ok.l3,by show (s.sa ++ [i]).length≤m + 1;rw [List.length_append];exact Nat.succ_le_succ h.ok.l4,h.ok.nd⟩,h.ng,h.nn⟩,rfl⟩
theorem zbv (er:Er):PyData.strOk (jB er)=true:=by cases er <;> decide +kernel
theorem zaF {C:List Cs} {m:Nat} {w:Int} {s:RSt} (O:X7 C) (h:RnI C m s) (ho:yy C s=false) (hw:inW w=true):RnI C (m + 1) (vh C w s):=by
 have no:¬ yy C s=true:=by rw [ho];decide
 have lt:=ZW no
 have hc:C[s.n]?=some C[s.n]:=List.getElem?_eq_getElem lt
 have es:vh C w s=z0 C[s.n] w s:=by unfold vh;rw [if_neg no,hc]
 have wn:s.why=none:=by
  cases e:s.why with
  | none=>rfl
  | some v=>exact absurd (show yy C s=true by unfold yy;rw [e];rfl) no
 have mn:=h.at_ wn
 have ok:=O.ok _ (List.getElem_mem lt)
 have pl:=O.pl _ (List.getElem_mem lt)
 have P:RnP m s:=⟨h.ok,h.ng,h.nn⟩
 have fin:∀ {s':RSt} {k:Nat},RnP (m + 1) s'→(s'.why=none→m + 1≤k)→(∀ v,s'.why=some v→PyData.strOk v=true)→RnI C (m + 1) { s' with n:=k }:=fun {s' k} p l y =>
  ⟨⟨p.ok.so,p.ok.gw,p.ok.nw,p.ok.l1,p.ok.l2,p.ok.l3,p.ok.l4,p.ok.nd⟩,p.ng,p.nn,l,y⟩
 have bad:∀ er,RnI C (m + 1) { s with why:=some (jB er) }:=fun er=>⟨⟨P.up.ok.so,P.up.ok.gw,P.up.ok.nw,P.up.ok.l1,P.up.ok.l2,P.up.ok.l3,P.up.ok.l4,P.up.ok.nd⟩,P.ng,P.nn,fun z=>(by cases z),fun v z=>by cases z;exact zbv er⟩
 have does:∀ r:Rw,jT r→jW (.row r)→zaw (.row r)→RnI C (m + 1) (z0 (.row r) w s):=fun r hf ok pl=>by
  unfold z0
  rw [Va hf]
  cases hk:doR r w s with
  | error er=>exact bad er
  | ok s' =>
   obtain ⟨a,b⟩:=zbu P hf ok pl hw hk
   exact fin a (fun _=>by lia) (fun v z=>h.wy v (by rw [← b];exact z))
 rw [es]
 have hg:∀ to,C[s.n]=.go to→s.n < to:=fun to e=>O.fg s.n to (by rw [hc,e])
 have hs:∀ e to,C[s.n]=.skip e to→s.n < to:=fun e to e2=>O.fw s.n to e (by rw [hc,e2])
 generalize C[s.n]=c at *
 cases c with
 | go to =>
  have:=hg to rfl
  exact fin P.up (fun _=>by lia) h.wy
 | skip e to =>
  have:=hs e to rfl
  cases hk:rk s.sl e with
  | error er=>simp only [z0,yX,hk];exact bad er
  | ok i =>
   simp only [z0,yX,hk]
   refine fin P.up (fun _=>?_) h.wy
   split <;> lia
 | row r =>
  cases r with
  | off e =>
   cases hk:rk s.sl e with
   | error er=>simp only [z0,yX,hk];exact bad er
   | ok i =>
    by_cases hi:i=0
    ·simp only [z0,yX,hk,if_pos hi]
     exact fin P.up (fun _=>by lia) h.wy
    ·simp only [z0,yX,hk,if_neg hi]
     exact fin (s':={ s with why:=some (Str.ofString "told") }) ⟨⟨P.up.ok.so,P.up.ok.gw,P.up.ok.nw,P.up.ok.l1,P.up.ok.l2,P.up.ok.l3,P.up.ok.l4,P.up.ok.nd⟩,P.ng,P.nn⟩ (fun z=>by cases z) (fun v z=>by cases z;decide +kernel)
  | iff e b d=>exact fin (k:=s.n + 1) P.up (fun _=>by lia) h.wy
  | take sh e x=>exact does (.take sh e x) trivial ok pl
  | give sh e x=>exact does (.give sh e x) trivial ok pl
  | lt sh e=>exact does (.lt sh e) trivial ok pl
  | say e=>exact does (.say e) trivial ok pl
structure FwC (k:Nat) (C:List Cs):Prop where
 ok:∀ c∈C,jW c∧zaw c
 fw:∀ (i to:Nat) (e:List V),C[i]?=some (Cs.skip e to)→k + i < to
 fg:∀ (i to:Nat),C[i]?=some (Cs.go to)→k + i < to
theorem FwC.nil (k:Nat):FwC k []:=⟨fun c h=>(nomatch h),fun i to e h=>by simp at h,fun i to h=>by simp at h⟩
theorem FwC.cons {k:Nat} {c:Cs} {C:List Cs} (h1:jW c∧zaw c) (h2:∀ e to,c=.skip e to→k < to) (h3:∀ to,c=.go to→k < to) (h:FwC (k + 1) C):FwC k (c :: C):=by
 refine ⟨fun x hx=>?_,fun i to e hi=>?_,fun i to hi=>?_⟩
 ·rcases List.mem_cons.mp hx with rfl | hx
  ·exact h1
  ·exact h.ok x hx
 ·cases i with
  | zero=>have:=h2 e to (by simpa using hi);lia
  | succ i=>have:=h.fw i to e (by simpa using hi);lia
 ·cases i with
  | zero=>have:=h3 to (by simpa using hi);lia
  | succ i=>have:=h.fg i to (by simpa using hi);lia
theorem FwC.app:∀ {A:List Cs} {k:Nat} {B:List Cs},FwC k A→FwC (k + A.length) B→FwC k (A ++ B)
 | [],k,B,_,h=>by simpa using h
 | c :: A,k,B,h,h'=>by
  rw [List.cons_append]
  refine .cons (h.ok c List.mem_cons_self) (fun e to z=>by have:=h.fw 0 to e (by rw [z];rfl);lia) (fun to z=>by have:=h.fg 0 to (by rw [z];rfl);lia) (FwC.app ⟨fun x hx=>h.ok x (List.mem_cons_of_mem _ hx),fun i to e hi=>?_,fun i to hi=>?_⟩ (by rw [List.length_cons] at h';rw [show k + 1 + A.length=k + (A.length + 1) by lia];exact h'))
  ·have:=h.fw (i + 1) to e (by simpa using hi);lia
  ·have:=h.fg (i + 1) to (by simpa using hi);lia
mutual
theorem QE:∀ (r:Rw) (k:Nat),vN r→ZC r→FwC k (xk r k)
 | .iff e a b,k,o,p=>by
  unfold vN at o
  unfold ZC at p
  have ha:=kz a (k + 1) o.2.1 p.2.1
  have hb:=kz b (k + 2 + (zD a (k + 1)).length) o.2.2 p.2.2
  have ec:xk (.iff e a b) k=blk e k (zD a (k + 1)) (Rws.isNil b) (zD b (k + 2 + (zD a (k + 1)).length)):=by rw [xk]
  rw [ec]
  generalize zD a (k + 1)=A at *
  generalize zD b (k + 2 + A.length)=B at *
  unfold blk
  split
  ·exact .cons ⟨o.1,trivial⟩ (fun e' to z=>by cases z;lia) (fun to z=>nomatch z) ha
  ·refine .cons ⟨o.1,trivial⟩ (fun e' to z=>by cases z;lia) (fun to z=>nomatch z) (.app ha (.cons ⟨trivial,trivial⟩ (fun e' to z=>nomatch z) (fun to z=>by cases z;lia) ?_))
   rw [show k + 1 + A.length + 1=k + 2 + A.length by lia]
   exact hb
 | .take sh e sl,k,o,p=>by rw [vd (x:=.take sh e sl) trivial];exact .cons ⟨o,p⟩ (fun _ _ z=>nomatch z) (fun _ z=>nomatch z) (.nil _)
 | .give sh e f,k,o,p=>by rw [vd (x:=.give sh e f) trivial];exact .cons ⟨o,p⟩ (fun _ _ z=>nomatch z) (fun _ z=>nomatch z) (.nil _)
 | .lt sl e,k,o,p=>by rw [vd (x:=.lt sl e) trivial];exact .cons ⟨o,p⟩ (fun _ _ z=>nomatch z) (fun _ z=>nomatch z) (.nil _)
 | .say e,k,o,p=>by rw [vd (x:=.say e) trivial];exact .cons ⟨o,p⟩ (fun _ _ z=>nomatch z) (fun _ z=>nomatch z) (.nil _)
 | .off e,k,o,p=>by rw [vd (x:=.off e) trivial];exact .cons ⟨o,p⟩ (fun _ _ z=>nomatch z) (fun _ z=>nomatch z) (.nil _)
theorem kz:∀ (r:Rws) (k:Nat),xj r→xA r→FwC k (zD r k)
 | .nil,k,o,p=>by rw [zD];exact .nil k
 | .cons r rs,k,o,p=>by
  unfold xj at o
  unfold xA at p
  rw [zD]
  exact .app (QE r k o.1 p.1) (kz rs _ o.2 p.2)
end
theorem zbZ {r:Rws} (h1:qJ 6 r) (h2:xj r) (h3:(zD r 0).length≤40):X7 (zD r 0):=by
 have f:=kz r 0 h2 h1.pl
 exact ⟨fun c hc=>(f.ok c hc).1,fun c hc=>(f.ok c hc).2,fun i to e h=>by have:=f.fw i to e h;lia,fun i to h=>by have:=f.fg i to h;lia,h3⟩
def plD (p:Pl):PyData:=.tuple [.str p.1,.int p.2]
def YX (r:Row):PyData:=.tuple [plD r.1,.int r.2]
theorem V4 {q:Addr} {p:Pl} (h:H q=some (.tup [.str p.1,.int p.2])):Dat K H (.ref q) (plD p):=.tup (SqT.of h) (.cons (.str _) (.cons (.int _) .nil))
theorem Vd {p:Pl} (h:PyData.strOk p.1=true):zX (plD p)=true:=by simp [plD,zX,yu,h]
theorem Ve (p:Pl):(plD p).depth≤2:=by simp [plD,PyData.depth,PyData.depthAll]
theorem JG:∀ {ys:List V} {rows:List Row},Paired (kC H) ys rows→DatAll K H ys (rows.map YX)
 | _,_,.nil=>.nil
 | _,_,.cons ⟨r,p,e1,e2,e3⟩ t=>by
  rw [List.map_cons,e1]
  exact .cons (.tup (SqT.of e2) (.cons (V4 e3) (.cons (.int _) .nil))) (JG t)
theorem QF {l:Addr} {rows:List Row} (h:kD H l rows):Dat K H (.ref l) (.list (rows.map YX)):=by
 obtain ⟨xs,h1,h2⟩:=h
 exact .lst (SqL.of h1) (JG h2)
theorem Xw:∀ {rows:List Row},(∀ r∈rows,PyData.strOk r.1.1=true)→yu (rows.map YX)=true
 | [],_=>rfl
 | r :: t,h=>by
  rw [List.map_cons,yu,Xw (fun x hx=>h x (List.mem_cons_of_mem _ hx))]
  have:=Vd (h r List.mem_cons_self)
  simp [YX,zX,yu,this]
theorem Vf:∀ (rows:List Row),PyData.depthAll (rows.map YX)≤3
 | []=>by simp [PyData.depthAll]
 | r :: t=>by
  have h:=Vf t
  have h2:=Ve r.1
  rw [List.map_cons,PyData.depthAll]
  simp only [YX,PyData.depth,PyData.depthAll] at h2 ⊢
  lia
theorem Vg {rows:List Row} (h:∀ r∈rows,PyData.strOk r.1.1=true):zX (.list (rows.map YX))=true:=by rw [zX];exact Xw h
theorem JH (rows:List Row):(PyData.list (rows.map YX)).depth≤4:=by
 have:=Vf rows
 rw [PyData.depth];lia
section
variable {l:Addr}
theorem Xx {H':Hp} {rows:List Row} (h:kD H l rows) (k:∀ o,H l=some o→H' l=some o) (ts:TSm H H'):kD H' l rows:=by
 obtain ⟨xs,h1,h2⟩:=h
 exact ⟨xs,k _ h1,Paired.mapP h2 fun _ _ ⟨r,p,e1,e2,e3⟩=>⟨r,p,e1,ts _ _ e2,ts _ _ e3⟩⟩
theorem qN {H':Hp} {rows:List Row} (h:kD H l rows) (s:Same H H'):kD H' l rows:=Xx h (fun o e=>s _ _ e) fun b ys e=>s _ _ e
end
section
variable {C:List Cs} {s:RSt} {m:Nat}
theorem QG:PyData.strOk (Str.ofString "done")=true:=by decide +kernel
theorem xo {H:Hp} {a b:Addr} {o:HO} (h:H a=some o) (k:H b=none):b≠a:=fun z=>by rw [z,h] at k;cases k
def ocD:Oc→PyData
 | .done sa=>.tuple [.str (Str.ofString "done"),.tuple (sa.map PyData.int)]
 | .off w=>.tuple [.str (Str.ofString "off"),.str w]
theorem JI {H':Hp} {v:V} {oc:Oc} (h:X6 H v oc) (s:Same H H'):X6 H' v oc:=by
 cases oc with
 | done sa=>obtain ⟨o,y,e1,e2,e3⟩:=h;exact ⟨o,y,e1,s _ _ e2,s _ _ e3⟩
 | off w=>obtain ⟨o,e1,e2⟩:=h;exact ⟨o,e1,s _ _ e2⟩
theorem zbw {v:V} {oc:Oc} (h:X6 H v oc):Dat K H v (ocD oc):=by
 cases oc with
 | done sa =>
  obtain ⟨o,y,rfl,e2,e3⟩:=h
  exact .tup (SqT.of e2) (.cons (.str _) (.cons (.tup (SqT.of e3) (DatAll.of fun i _=>.int i)) .nil))
 | off w =>
  obtain ⟨o,rfl,e2⟩:=h
  exact .tup (SqT.of e2) (.cons (.str _) (.cons (.str _) .nil))
theorem YF:∀ (sa:List Int),yu (sa.map PyData.int)=true
 | []=>rfl
 | i :: t=>by rw [List.map_cons,yu,YF t];rfl
theorem Xy:∀ (sa:List Int),PyData.depthAll (sa.map PyData.int)=0
 | []=>by simp [PyData.depthAll]
 | i :: t=>by rw [List.map_cons,PyData.depthAll,Xy t,PyData.depth];rfl
theorem QH {oc:Oc} (h:∀ w,oc=.off w→PyData.strOk w=true):zX (ocD oc)=true:=by
 cases oc with
 | done sa=>have:=QG;simp [ocD,zX,yu,YF,this]
 | off w=>have:=h w rfl;have k:=zar;simp [ocD,zX,yu,this,k]
theorem zaG (oc:Oc):(ocD oc).depth≤3:=by
 cases oc with
 | done sa=>simp only [ocD,PyData.depth,PyData.depthAll,Xy];lia
 | off w=>simp only [ocD,PyData.depth,PyData.depthAll];lia
def ppD (oc:Oc) (no gi:List Row):PyData:=.tuple [ocD oc,.list (no.map YX),.list (gi.map YX)]
theorem zaH {out out':List Row} (h:Zh s out) (h':Zh s out'):out=out':=by
 unfold Zh at h h'
 cases e:s.why with
 | some w=>rw [e] at h h';rw [h,h']
 | none=>rw [e] at h h';exact Yv h.1 h'.1 fun ⟨p,w⟩=>(h.2 p w).trans (h'.2 p w).symm
theorem zb0 {out:List Row} (I:RnI C m s) (h:Zh s out):∀ r∈out,PyData.strOk r.1.1=true:=by
 unfold Zh at h
 cases e:s.why with
 | some w=>rw [e] at h;rw [h];exact fun r hr=>nomatch hr
 | none =>
  rw [e] at h
  intro r hr
  exact ZV (P:=fun r=>PyData.strOk r.1.1=true) I.ng ((h.2 r.1 r.2).mp hr)
end
theorem zbx {H0 H1 H3:Hp} {x dx:Addr} {a:RAd} (s1:Same H0 H1) (hx:H1 x=none) (hdx:H1 dx=none) (k3:Zu x (upd (upd H1 dx (.own x)) x (.ins t.c_Run dx [])) H3) (fr:∀ b,OwA x a b→b=x∨upd (upd H1 dx (.own x)) x (.ins t.c_Run dx []) b=none):Same H1 H3∧∀ b,OwA x a b→H1 b=none:=by
 have s2:Same H1 (upd (upd H1 dx (HO.own x)) x (HO.ins t.c_Run dx [])):=fun b o e=>by rw [zk (zL e hx),zk (zL e hdx)];exact e
 refine ⟨fun b o e=>k3 b o (fun z=>by rw [z,hx] at e;cases e) (s2 b o e),fun b ob=>?_⟩
 rcases fr b ob with z | z
 ·rw [z];exact hx
 ·exact zF s2 z
section
variable {C:List Cs}
theorem QI {r:Addr} {s:RSt} {out:List Row} {o:V} {nl gl:Addr} (h1:H r=some (.tup [o,.ref nl,.ref gl])) (h2:X6 H o (qh s)) (h3:kD H nl s.no) (h4:kD H gl out):Dat K H (.ref r) (ppD (qh s) s.no out):=.tup (SqT.of h1) (.cons (zbw h2) (.cons (QF h3) (.cons (QF h4) .nil)))
theorem RnAt.has {x b:Addr} {a:RAd} {s:RSt} (R:RnAt t H x a C s) (ow:OwA x a b):H b≠none:=by
 obtain ⟨ys,hy,_⟩:=R.hc
 rcases ow with (z | z | z | z | z) | z
 ·rw [z,R.ix];exact fun z=>nomatch z
 ·rw [z,R.hs];exact fun z=>nomatch z
 ·rw [z,R.hg];exact fun z=>nomatch z
 ·rw [z,R.hn];exact fun z=>nomatch z
 ·rw [z,R.ha];exact fun z=>nomatch z
 ·rw [z,hy];exact fun z=>nomatch z
end
theorem zaI (ns:List Int) (lo hi:Option Int):∃ ys:List Int,XE (ns.map V.int) lo hi=ys.map V.int∧ys.length≤ns.length:=by
 refine ⟨(ns.drop (HT.sIx ns.length 0 lo)).take (HT.sIx ns.length ns.length hi - HT.sIx ns.length 0 lo),?_,?_⟩
 ·unfold XE
  rw [List.map_take,List.map_drop,List.length_map]
 ·rw [List.length_take,List.length_drop];lia
theorem Vh {σ:St} {H:Hp} {nx:St→Hp→Prop} {B:V→St→Hp→(St→Hp→Prop)→Prop} {lo c:Int} {n:Nat} (Pv:Nat→St→Hp→Prop) (h0:Pv 0 σ H) (hs:∀ i σ H,i < n→Pv i σ H→B (.int (lo + i * c)) σ H (Pv (i + 1))) (hd:∀ σ H,Pv n σ H→nx σ H) :
  ∃ W:Nat→Nat→St→Hp→Prop,(∃ m,W 0 m σ H)∧∀ i m σ H,W i m σ H→((Qr lo c n).stop i H∧nx σ H)∨((Qr lo c n).go i H∧∃ N:St→Hp→Prop,(∀ σ' H',N σ' H'→∃ m',m' < m∧W (i + 1) m' σ' H')∧∀ x H',(Qr lo c n).yld i H x H'→B x σ H' N):=by
 refine ⟨fun i m σ H=>m=n - i∧i≤n∧Pv i σ H,⟨n,by simp,Nat.zero_le _,h0⟩,?_⟩
 rintro i m σ H ⟨rfl,hi,p⟩
 by_cases hlt:i < n
 ·refine .inr ⟨hlt,Pv (i + 1),fun σ' H' p'=>⟨n - (i + 1),by lia,rfl,hlt,p'⟩,?_⟩
  rintro x H' ⟨rfl,rfl⟩
  exact hs i σ _ hlt p
 ·obtain rfl:i=n:=by lia
  exact .inl ⟨Nat.le_refl _,hd σ H p⟩
theorem J7 (a b:Int):yE (Str.ofString "plus") a b=a + b:=rfl
theorem V5 (a b:Int):yE (Str.ofString "minus") a b=a - b:=by unfold yE;rw [if_neg (by decide +kernel),if_pos rfl]
theorem V6 (a b:Int):yE (Str.ofString "times") a b=a * b:=by unfold yE;rw [if_neg (by decide +kernel),if_neg (by decide +kernel),if_pos rfl]
theorem V7 (a b:Int):yE (Str.ofString "under") a b=if a < b then 1 else 0:=by unfold yE;rw [if_neg (by decide +kernel),if_neg (by decide +kernel),if_neg (by decide +kernel),if_pos rfl]
theorem J8 (a b:Int):yE (Str.ofString "same") a b=if a=b then 1 else 0:=by unfold yE;rw [if_neg (by decide +kernel),if_neg (by decide +kernel),if_neg (by decide +kernel),if_neg (by decide +kernel),if_pos rfl]
theorem J9 (a b:Int):yE (Str.ofString "over") a b=a.fdiv b:=by unfold yE;rw [if_neg (by decide +kernel),if_neg (by decide +kernel),if_neg (by decide +kernel),if_neg (by decide +kernel),if_neg (by decide +kernel),if_pos rfl]
theorem Ka (a b:Int):yE (Str.ofString "rest") a b=a.fmod b:=by unfold yE;rw [if_neg (by decide +kernel),if_neg (by decide +kernel),if_neg (by decide +kernel),if_neg (by decide +kernel),if_neg (by decide +kernel),if_neg (by decide +kernel)]
theorem QJ {a b:Int} (ha:inW a=true) (hb:inW b=true):CMulB a b:=by
 rw [inW_iff] at ha hb
 have hb':(1000000000000000000000000000000000000000000000000000000000000:Int) < big:=by decide +kernel
 exact ⟨by lia,by lia⟩
theorem zaJ {w:Str} (h:isJ (.str w)=true):w=Str.ofString "plus"∨w=Str.ofString "minus"∨w=Str.ofString "times"∨w=Str.ofString "over"∨w=Str.ofString "rest"∨w=Str.ofString "under"∨w=Str.ofString "same":=by
 unfold isJ inV jw at h
 simp only [List.any_cons,List.any_nil,eqV,Bool.or_false,Bool.or_eq_true,decide_eq_true_eq,beq_iff_eq] at h
 rcases h with h | h | h | h | h | h | h
 ·exact .inl h.symm
 ·exact .inr (.inl h.symm)
 ·exact .inr (.inr (.inl h.symm))
 ·exact .inr (.inr (.inr (.inl h.symm)))
 ·exact .inr (.inr (.inr (.inr (.inl h.symm))))
 ·exact .inr (.inr (.inr (.inr (.inr (.inl h.symm)))))
 ·exact .inr (.inr (.inr (.inr (.inr (.inr h.symm)))))
theorem Wi {a b v:Int} {w:Str} (e:yE w a b=v) (nd:¬ kM w) (q:∀ H',Same H H'→Q (YA (yM w a b)) H'):Zy 10 30∧if 1000000000000000000000000000000 < v then Q (V.str (Str.ofString "great")) H else Zy 10 30∧if v < -1000000000000000000000000000000 then Q (V.str (Str.ofString "great")) H else Q (V.int v) H:=by
 have P30:=Xu (j:=30) (by decide) (by decide)
 have q:=q H (Same.refl H)
 unfold yM at q
 rw [if_neg (fun z=>nd z.1),e] at q
 refine ⟨P30,yQ (fun c=>?_) fun c=>⟨P30,yQ (fun d=>?_) fun d=>?_⟩⟩
 ·rw [if_neg (fun z=>by have:=inW_iff.mp z;lia)] at q;exact q
 ·rw [if_neg (fun z=>by have:=inW_iff.mp z;lia)] at q;exact q
 ·rw [if_pos (inW_iff.mpr (by lia))] at q;exact q
theorem ZX {w:Str} {a b v:Int} (e:yE w a b=v) (hn:¬ (kM w∧b=0)) (hv:inW v=true):yM w a b=.ok v:=by unfold yM;rw [if_neg hn,e,if_pos hv]
theorem YG {a b:Int} {w:Str} (hw:w=Str.ofString "plus"∨w=Str.ofString "minus"∨w=Str.ofString "times") (ia:inW a=true) (ib:inW b=true) (q:∀ H',Same H H'→Q (YA (yM w a b)) H') :
  vR K t { nx:=fun _ H'=>Q .non H',rt:=Q } [some (.int a),some (.int b),some (.str w),none] H:=by
 simp only [vR,L2.start,zo,zQ,zr,zB,zv,tOp,tUn,zc,tC,zE,tOr,zm,rEq,rI,rI0,rU,yP,List.map,List.replicate,List.length,List.append,jqa,jqb,jqc,jqd,jqe,jqf,jqg,jqh,jqi,jqj,jqk,jql,jqm,jqn,and_true,true_and,and_assoc,jqo,jqp,jqq,jqr,jqs,jqt,if_true,ite_true,jqu,ite_false,if_false]
 refine ⟨QJ ia ib,?_⟩
 rcases hw with rfl | rfl | rfl
 ·rw [if_pos rfl,if_neg (by decide +kernel)];exact Wi (J7 a b) (by decide +kernel) q
 ·rw [if_neg (by decide +kernel),if_pos rfl];exact Wi (V5 a b) (by decide +kernel) q
 ·rw [if_neg (by decide +kernel),if_neg (by decide +kernel)];exact Wi (V6 a b) (by decide +kernel) q
theorem Wj {a b:Int} {w:Str} (h1:isJ (.str w)=true) (h2:inW a=true) (h3:inW b=true) (q:∀ H',Same H H'→Q (YA (yM w a b)) H') :
  j8 K t { nx:=fun _ H'=>Q .non H',rt:=Q } (L2.start ["one","other","word","made"] [.int a,.int b,.str w]) H:=by
 simp only [j8,L2.start,Yo,zo,zQ,zr,zB,zv,tOp,tUn,zc,tC,yb,zb,zi,zE,wN,tOr,zm,tCB,rEq,rI,rI0,rU,rIn,yP,List.map,List.replicate,List.length,List.append,jqa,jqb,jqc,jqd,jqe,jqf,jqg,jqh,jqi,jqj,jqk,jql,jqm,jqn,and_true,true_and,and_assoc,jqo,jqp,jqq,jqr,jqs,jqt,if_true,ite_true,jqu,ite_false,if_false]
 refine ⟨by decide,fun p hp=>⟨_,.inr (SqT.of ze),rfl,by decide +kernel,?_⟩⟩
 have s1:=isV (o:=HO.tup [V.str (Str.ofString "over"),V.str (Str.ofString "rest")]) p hp
 have q:∀ H',Same (upd H p (HO.tup [V.str (Str.ofString "over"),V.str (Str.ofString "rest")])) H'→Q (YA (yM w a b)) H':=fun H' s=>q H' (s1.trans s)
 have q0:=q _ (Same.refl _)
 have B:=ZT h3
 rcases zaJ h1 with rfl | rfl | rfl | rfl | rfl | rfl | rfl
 ·rw [if_neg (by decide +kernel),if_neg (by decide +kernel),if_neg (by decide +kernel),if_neg (by decide +kernel),if_neg (by decide +kernel)]
  exact YG (.inl rfl) h2 h3 q
 ·rw [if_neg (by decide +kernel),if_neg (by decide +kernel),if_neg (by decide +kernel),if_neg (by decide +kernel),if_neg (by decide +kernel)]
  exact YG (.inr (.inl rfl)) h2 h3 q
 ·rw [if_neg (by decide +kernel),if_neg (by decide +kernel),if_neg (by decide +kernel),if_neg (by decide +kernel),if_neg (by decide +kernel)]
  exact YG (.inr (.inr rfl)) h2 h3 q
 ·rw [if_pos (by decide +kernel)]
  refine yQ (fun e=>?_) fun e=>?_
  ·unfold yM at q0
   rw [if_pos ⟨by decide +kernel,e⟩] at q0
   exact q0
  ·rw [if_pos rfl]
   rw [ZX (J9 a b) (fun z=>e z.2) (WI h2 e)] at q0
   exact ⟨⟨e,B.1,B.2⟩,q0⟩
 ·rw [if_pos (by decide +kernel)]
  refine yQ (fun e=>?_) fun e=>?_
  ·unfold yM at q0
   rw [if_pos ⟨by decide +kernel,e⟩] at q0
   exact q0
  ·rw [if_neg (by decide +kernel),if_pos rfl]
   rw [ZX (Ka a b) (fun z=>e z.2) (KY h3 e)] at q0
   have e2:a - a.fdiv b * b=a.fmod b:=by
    have:=Int.mul_fdiv_add_fmod a b
    rw [Int.mul_comm] at this
    lia
   rw [e2]
   exact ⟨⟨e,B.1,B.2⟩,QJ (WI h2 e) h3,q0⟩
 ·rw [if_neg (by decide +kernel),if_neg (by decide +kernel),if_neg (by decide +kernel),if_pos rfl]
  rw [ZX (V7 a b) (fun z=>absurd z.1 (by decide +kernel)) (by split <;> decide +kernel)] at q0
  exact q0
 ·rw [if_neg (by decide +kernel),if_neg (by decide +kernel),if_neg (by decide +kernel),if_neg (by decide +kernel),if_pos rfl]
  rw [ZX (J8 a b) (fun z=>absurd z.1 (by decide +kernel)) (by split <;> decide +kernel)] at q0
  exact q0
theorem PlV.mono {H H':Hp} {n:Nat} {v:V} (s:Same H H') (h:PlV H n v):PlV H' n v:=by
 induction h with
 | int i=>exact .int i
 | str x=>exact .str x
 | lst e _ ih=>exact .lst (s _ _ e) ih
 | tup e _ ih=>exact .tup (s _ _ e) ih
theorem kt {vs:List V} {H:Hp} {Q:VK} {E:XK} (h:xh 0 vs H Q E):False:=by
 obtain ⟨v,_,h,_⟩:=h
 cases h
theorem YH {n:Nat} {v:V} (F:KF K) (h:PlV H (n + 1) v) (q:∀ H',Same H H'→Q (.bl true) H') :
  vU K t n { nx:=fun _ H'=>Q .non H',rt:=Q } (L2.start ["found","part"] [v]) H:=by
 simp only [vU,xh,Jx,zbq,L2.start,zo,zr,zB,zv,zc,tC,yb,zb,zi,xD,zE,jc,tB,kG,Kh,tCB,zp,wX,List.map,List.replicate,List.length,List.append,jqa,jqb,jqc,jqd,jqe,jqf,jqg,jqh,jqi,jqj,jqk,jql,jqm,jqn,and_true,true_and,and_assoc,jqo,jqp,jqq,jqr,jqs,jqt,if_true,ite_true,jqu,ite_false,if_false]
 refine ⟨by decide,fun p hp=>?_⟩
 have s1:=isV (o:=HO.tup [V.ty "list",V.ty "tuple"]) p hp
 have e1:upd H p (HO.tup [V.ty "list",V.ty "tuple"]) p=some (.tup [V.ty "list",V.ty "tuple"]):=ze
 generalize upd H p (HO.tup [V.ty "list",V.ty "tuple"])=H1 at *
 cases h with
 | int i =>
  refine ⟨_,.int i,["list","tuple"],e1,false,F.a3,?_⟩
  rw [if_neg (by decide)]
  refine ⟨by decide,fun p2 hp2=>⟨_,.int i,["int","str"],ze,true,F.a5,?_⟩⟩
  rw [if_pos rfl]
  exact ⟨_,.int i,false,F.i_b,q _ (s1.trans (isV p2 hp2))⟩
 | str y =>
  refine ⟨_,.str y,["list","tuple"],e1,false,F.a4,?_⟩
  rw [if_neg (by decide)]
  refine ⟨by decide,fun p2 hp2=>⟨_,.str y,["int","str"],ze,true,F.a6,?_⟩⟩
  rw [if_pos rfl]
  exact ⟨_,.str y,false,F.s_b,q _ (s1.trans (isV p2 hp2))⟩
 | @lst _ l xs hl hx =>
  refine ⟨_,.lst (s1 _ _ hl),["list","tuple"],e1,true,F.a2,?_⟩
  rw [if_pos rfl]
  refine ⟨l,rfl,.inl ⟨⟨_,SqL.of (s1 _ _ hl)⟩,Zb xs (fun _ σ H'=>(∃ o,σ=[some (.ref l),o])∧Same H H') ⟨⟨_,rfl⟩,s1⟩ (fun i σ H' z=>SqL.of (z.2 _ _ hl)) ?_ ?_⟩⟩
  ·rintro i y σ H' hy ⟨⟨o,rfl⟩,S⟩
   refine ⟨y,rfl,PlV.mono S (hx y (List.mem_of_getElem? hy)),fun H2 s2=>?_⟩
   rw [if_neg (by decide)]
   exact ⟨⟨_,rfl⟩,S.trans s2⟩
  ·rintro σ H' ⟨_,S⟩
   exact q _ S
 | @tup _ l xs hl hx =>
  refine ⟨_,.tup (s1 _ _ hl),["list","tuple"],e1,true,F.a1,?_⟩
  rw [if_pos rfl]
  refine ⟨l,rfl,.inr ⟨⟨_,SqT.of (s1 _ _ hl)⟩,Yl xs (fun _ σ H'=>(∃ o,σ=[some (.ref l),o])∧Same H H') ⟨⟨_,rfl⟩,s1⟩ (fun i σ H' z=>SqT.of (z.2 _ _ hl)) ?_ ?_⟩⟩
  ·rintro i y σ H' hy ⟨⟨o,rfl⟩,S⟩
   refine ⟨y,rfl,PlV.mono S (hx y (List.mem_of_getElem? hy)),fun H2 s2=>?_⟩
   rw [if_neg (by decide)]
   exact ⟨⟨_,rfl⟩,S.trans s2⟩
  ·rintro σ H' ⟨_,S⟩
   exact q _ S
theorem zb1 {v:V} (h:lfV v):jj v∧isJ v=false∧plV v:=by
 rcases h with ⟨i,rfl,hi⟩ | ⟨x,rfl,hx⟩
 ·exact ⟨.inl ⟨i,rfl,hi⟩,rfl,.inl ⟨i,rfl⟩⟩
 ·have:=qF hx
  exact ⟨.inr ⟨x,rfl,by lia⟩,this.2.2.1,.inr ⟨x,rfl,ju hx⟩⟩
theorem NamesAt.same {H H':Hp} {nm:Addr} {ws:List Str} (h:NamesAt H nm ws) (s:Same H H'):NamesAt H' nm ws:=⟨s _ _ h.1,h.2⟩
theorem YI {nm:Addr} {ws:List Str} (h:NamesAt H nm ws) (n:Nat) (hl:ws.length=n) (hn:0 < (n:Int)) (e:Int):∃ x,atI (ws.map V.str) (e % n)=some (.str x)∧x∈ws∧xz x=true:=by
 obtain ⟨v,hv,hm⟩:=X8 e n (xs:=ws.map V.str) (by rw [List.length_map,hl]) hn
 obtain ⟨x,hx,rfl⟩:=List.mem_map.mp hm
 exact ⟨x,hv,hx,h.2 x hx⟩
theorem ZJ {c j:Int} (h1:0≤j) (h2:j≤900) (q:∀ w H',inW w=true→Same H H'→Q (.int w) H') :
  vo K t { nx:=fun _ H'=>Q .non H',rt:=Q } (L2.start ["cell","j"] [.int c,.int j]) H:=by
 simp only [vo,zq,L2.start,zo,zB,zv,tOp,zc,tC,zb,zi,zE,zm,zp,rEq,rI,rI0,yP,List.map,List.replicate,List.length,List.append,jqa,jqb,jqc,jqd,jqe,jqf,jqg,jqh,jqi,jqj,jqk,jql,jqm,jqn,and_true,true_and,and_assoc,jqo,jqp,jqq,Nat.reduceSub,Nat.reduceAdd,jqr,jqs,jqt,Int.reduceToNat,Int.reducePow,Int.reduceNeg,Int.reduceMul,Int.reduceAdd,if_true,ite_true,jqu,ite_false,if_false]
 have P30:=Xu (j:=30) (by decide) (by decide)
 have P40:=Xu (j:=40) (by decide) (by decide)
 have hb:(1000000000000000000000000000000000000000000000000000000000000:Int) < big:=by decide +kernel
 refine ⟨h1,by lia,fun r1 H1 a1 b1 s1=>⟨by decide,yQ (fun _=>?_) fun _=>⟨by lia,by lia,fun r2 H2 a2 b2 s2=>⟨by decide,q _ _ (inW_iff.mpr ?_) (s1.trans s2)⟩⟩⟩⟩
 ·have g1:=Int.emod_nonneg c (b:=10000000000000000000000000000000000000000) (by decide)
  have g2:=Int.emod_lt_of_pos c (b:=10000000000000000000000000000000000000000) (by decide)
  generalize c % 10000000000000000000000000000000000000000=d at *
  have m1:0≤d * (j + 2):=Int.mul_nonneg g1 (by lia)
  have m2:d * (j + 2)≤10000000000000000000000000000000000000000 * 1000:=Int.mul_le_mul (by lia) (by lia) (by lia) (by decide)
  generalize d * (j + 2)=f at *
  have g3:=Int.emod_nonneg (f * 1000003 + j) (b:=2000000000000000000000000000001) (by decide)
  have g4:=Int.emod_lt_of_pos (f * 1000003 + j) (b:=2000000000000000000000000000001) (by decide)
  exact ⟨P40,by decide,⟨by lia,by lia⟩,⟨by lia,by lia⟩,P30,⟨by lia,by lia⟩,by decide,P30,q _ _ (inW_iff.mpr (by lia)) s1⟩
 ·lia
theorem ve {a b:List V} {w:Str} (ha:TermOk a) (hb:TermOk b) (hw:wdJ w) (l:a.length + b.length < 1000):TermOk (a ++ b ++ [.str w]):=by
 refine ⟨fun kvs=>?_,fun z hz=>?_,by rw [List.length_append,List.length_append,List.length_singleton];lia⟩
 ·obtain ⟨r1,g1⟩:=ha.1 kvs
  obtain ⟨r2,g2⟩:=hb.1 kvs
  exact ⟨_,J2 hw.1 g1 g2⟩
 ·rcases List.mem_append.mp hz with hz | hz
  ·rcases List.mem_append.mp hz with hz | hz
   ·exact ha.2.1 z hz
   ·exact hb.2.1 z hz
  ·rw [List.mem_singleton.mp hz];exact .inr ⟨w,rfl,hw.2.1⟩
theorem kA {a b:List V} {w:Str} (ha:tmP a) (hb:tmP b) (hw:wdJ w):tmP (a ++ b ++ [.str w]):=fun z hz=>by
 rcases List.mem_append.mp hz with hz | hz
 ·rcases List.mem_append.mp hz with hz | hz
  ·exact ha z hz
  ·exact hb z hz
 ·rw [List.mem_singleton.mp hz];exact .inr ⟨w,rfl,hw.2.2⟩
theorem kQ {u:V} (h:lfV u):TermOk [u]∧tmP [u]:=by
 obtain ⟨o1,j1,p1⟩:=zb1 h
 exact ⟨Qt o1 j1,fun z hz=>by rw [List.mem_singleton.mp hz];exact p1⟩
theorem YY {c j:Int} {a:Addr} {ws:List Str} (h1:0≤j) (h2:j≤800) (h3:NamesAt H a ws) (h4:ws.length=2) (q:∀ v H',lfV v→Same H H'→Q v H') :
  jq K t { nx:=fun _ H'=>Q .non H',rt:=Q } (L2.start ["cell","j","slots"] [.int c,.int j,.ref a]) H:=by
 simp only [jq,zq,yk,L2.start,zo,zB,zv,tOp,zc,tC,zb,zi,zE,zm,zp,ye,rI,rI0,List.map,List.replicate,List.length,List.append,jqa,jqb,jqc,jqd,jqe,jqf,jqg,jqh,jqi,jqj,jqk,jql,jqm,jqn,and_true,true_and,and_assoc,jqo,jqp,jqq,jqr,jqs,jqt,if_true,ite_true,jqu,ite_false,if_false]
 refine ⟨by lia,by lia,fun r1 H1 a1 b1 s1=>⟨by decide,yQ (fun _=>⟨by lia,by lia,fun r2 H2 a2 b2 s2=>⟨by decide,?_⟩⟩) fun _=>⟨h1,by lia,fun w H2 hw s2=>q _ _ (.inl ⟨w,rfl,hw⟩) (s1.trans s2)⟩⟩⟩
 obtain ⟨x,hx,_,hn⟩:=YI h3 2 h4 (by decide) r2
 have S:=s1.trans s2
 exact ⟨_,SqL.of (S _ _ h3.1),_,hx,q _ _ (.inr ⟨x,rfl,hn⟩) S⟩
def tw:List V:=[V.str (Str.ofString "plus"),V.str (Str.ofString "minus"),V.str (Str.ofString "times"),V.str (Str.ofString "over"),V.str (Str.ofString "rest"),V.str (Str.ofString "under"),V.str (Str.ofString "same"),V.str (Str.ofString "plus"),V.str (Str.ofString "under"),V.str (Str.ofString "minus")]
theorem za0 (r:Int):∃ w:Str,atI tw (r % 10)=some (.str w)∧wdJ w:=by
 obtain ⟨x,hx,hm⟩:=X8 r 10 (xs:=tw) rfl (by decide)
 unfold tw at hm
 simp only [List.mem_cons,List.not_mem_nil,or_false] at hm
 rcases hm with rfl | rfl | rfl | rfl | rfl | rfl | rfl | rfl | rfl | rfl <;> exact ⟨_,hx,by decide +kernel,by decide +kernel,by decide +kernel⟩
theorem Kb {c j:Int} {a l:Addr} {ws:List Str} {u v:V} {x:Str} {Hb:Hp} (h1:0≤j) (h2:j≤700) (hl:H l=some (.lst tw)) (hu:lfV u) (hv:lfV v) (jx:wdJ x) (sb:Same Hb H) (q:∀ p e H',Same Hb H'→Hb p=none→H' p=some (.tup e)→TermOk e→tmP e→Q (.ref p) H') :
  vv K t { nx:=fun _ H'=>Q .non H',rt:=Q } [some (.int c),some (.int j),some (.ref a),some (.ref l),some (.str x),some u,some v,none] H:=by
 simp only [vv,zq,yk,L2.start,zo,zQ,zr,zB,zv,tOp,zc,tC,yb,zb,zi,zE,zm,zp,ye,rI,rI0,List.map,List.replicate,List.length,List.append,jqa,jqb,jqc,jqd,jqe,jqf,jqg,jqh,jqi,jqj,jqk,jql,jqm,jqn,and_true,true_and,and_assoc,jqo,jqp,jqq,jqr,jqs,jqt,if_true,ite_true,jqu,ite_false,if_false]
 obtain ⟨t1,p1⟩:=kQ hu
 obtain ⟨t2,p2⟩:=kQ hv
 refine ⟨h1,by lia,fun r1 H1 _ _ s1=>⟨by decide,yQ (fun _=>⟨by decide,fun p hp=>?_⟩) fun _=>yQ (fun _=>⟨by decide,fun p hp=>?_⟩) fun _=>⟨by lia,by lia,fun n H2 hn s2=>⟨by lia,by lia,fun r3 H3 _ _ s3=>⟨by decide,?_⟩⟩⟩⟩⟩
 ·have S:=sb.trans s1
  exact q p [u] _ (S.trans (isV p hp)) (zF S hp) ze t1 p1
 ·have S:=sb.trans s1
  exact q p ([u] ++ [v] ++ [.str x]) _ (S.trans (isV p hp)) (zF S hp) ze (ve t1 t2 jx (by simp)) (kA p1 p2 jx)
 ·obtain ⟨y,hy,jy⟩:=za0 r3
  have T:=s1.trans (s2.trans s3)
  refine ⟨_,SqL.of (T _ _ hl),_,hy,by decide,fun p hp=>?_⟩
  have S:=sb.trans T
  obtain ⟨t3,p3⟩:=kQ (u:=.int n) (.inl ⟨n,rfl,hn⟩)
  exact q p ([u] ++ ([.int n] ++ [v] ++ [.str y]) ++ [.str x]) _ (S.trans (isV p hp)) (zF S hp) ze (ve t1 (ve t3 t2 jy (by simp)) jx (by simp)) (kA p1 (kA p3 p2 jy) jx)
theorem YZ {c j:Int} {a:Addr} {ws:List Str} (h1:0≤j) (h2:j≤700) (h3:NamesAt H a ws) (h4:ws.length=2) (q:∀ p e H',Same H H'→H p=none→H' p=some (.tup e)→TermOk e→tmP e→Q (.ref p) H') :
  jr K t { nx:=fun _ H'=>Q .non H',rt:=Q } (L2.start ["cell","j","slots","words","word","one","two","kind"] [.int c,.int j,.ref a]) H:=by
 simp only [jr,zq,wZ,L2.start,zo,zQ,zr,zB,zv,tOp,zc,tC,yB,yb,zb,zi,zE,zm,zp,ye,rI,rI0,List.map,List.replicate,List.length,List.append,jqa,jqb,jqc,jqd,jqe,jqf,jqg,jqh,jqi,jqj,jqk,jql,jqm,jqn,and_true,true_and,and_assoc,jqo,jqp,jqq,jqr,jqs,jqt,if_true,ite_true,jqu,ite_false,if_false]
 refine ⟨by decide,fun l hl=>⟨by lia,by lia,fun r1 H1 _ _ s1=>⟨by decide,?_⟩⟩⟩
 have s0:=isV (o:=HO.lst tw) l hl
 have e0:upd H l (HO.lst tw) l=some (.lst tw):=ze
 obtain ⟨x,hx,jx⟩:=za0 r1
 refine ⟨tw,SqL.of (s1 _ _ e0),_,hx,by lia,by lia,ws,h3.same (s0.trans s1),h4,fun u H2 hu s2=>⟨by lia,by lia,ws,h3.same (s0.trans (s1.trans s2)),h4,fun v H3 hv s3=>?_⟩⟩
 exact Kb (ws:=ws) h1 h2 ((s1.trans (s2.trans s3)) _ _ e0) hu hv jx (s0.trans (s1.trans (s2.trans s3))) q
theorem Y0 {c j:Int} {a:Addr} {ws:List Str} (h1:0≤j) (h2:j≤600) (h3:NamesAt H a ws) (h4:ws.length=2) (q:∀ p e H',Same H H'→H p=none→H' p=some (.tup e)→TermOk e→tmP e→Q (.ref p) H') :
  js K t { nx:=fun _ H'=>Q .non H',rt:=Q } (L2.start ["cell","j","slots"] [.int c,.int j,.ref a]) H:=by
 simp only [js,zq,yx,L2.start,zo,zB,zv,tOp,zc,tC,yb,zb,zi,zE,zm,zp,rEq,rI,rI0,yP,List.map,List.replicate,List.length,List.append,jqa,jqb,jqc,jqd,jqe,jqf,jqg,jqh,jqi,jqj,jqk,jql,jqm,jqn,and_true,true_and,and_assoc,jqo,jqp,jqq,jqr,jqs,jqt,if_true,ite_true,jqu,ite_false,if_false]
 refine ⟨h1,by lia,fun r1 H1 a1 b1 s1=>⟨by decide,yQ (fun _=>⟨by lia,by lia,ws,h3.same s1,h4,fun p e H2 s2 fp hp te pe=>q p e H2 (s1.trans s2) (zF s1 fp) hp te pe⟩) fun _=>⟨by lia,by lia,fun r2 H2 a2 b2 s2=>⟨by decide,by decide,fun p hp=>?_⟩⟩⟩⟩
 have S:=s1.trans s2
 have lf:lfV (.int (r2 % 3 - 1)):=.inl ⟨_,rfl,inW_iff.mpr (by lia)⟩
 exact q p _ _ (S.trans (isV p hp)) (zF S hp) ze (kQ lf).1 (kQ lf).2
theorem za1 {x y:V} (r:Int):∃ z,atI [x,y] (r % 2)=some z∧(z=x∨z=y):=by
 obtain ⟨z,hz,hm⟩:=X8 r 2 (xs:=[x,y]) rfl (by decide)
 exact ⟨z,hz,by simpa using hm⟩
theorem zby {x y:V} (r:Int):∃ z,atI [x,y] (1 - r % 2)=some z∧(z=x∨z=y):=by
 have h:r % 2=0∨r % 2=1:=by lia
 rcases h with h | h
 ·rw [h];exact ⟨y,rfl,.inr rfl⟩
 ·rw [h];exact ⟨x,rfl,.inl rfl⟩
section
variable {c kd:Int} {a b:Addr} {ws:List Str} {sh sl:Str} {Hb:Hp}
theorem QK (h3:NamesAt H a ws) (h4:ws.length=2) (nsh:xz sh=true) (nsl:xz sl=true) (S:Same Hb H)
  (q:∀ v r H',Same Hb H'→RwAt (fun b=>Hb b=none) H' v r→rwV r→Q v H') :
  vZ K t { nx:=fun _ H'=>Q .non H',rt:=Q } [some (.int c),some (.ref a),some (.ref b),some (.int kd),some (.str sh),some (.str sl),none] H:=by
 simp only [vZ,xY,yx,zq,yk,L2.start,zo,zQ,zr,zB,zv,tOp,zc,tC,yB,yb,zb,zi,zE,wN,zm,zp,ye,rEq,rI,rI0,yP,List.map,List.replicate,List.length,List.append,jqa,jqb,jqc,jqd,jqe,jqf,jqg,jqh,jqi,jqj,jqk,jql,jqm,jqn,and_true,true_and,and_assoc,jqo,jqp,jqq,Nat.reduceSub,Nat.reduceAdd,jqr,jqs,jqt,Int.reduceToNat,Int.reducePow,Int.reduceNeg,Int.reduceMul,Int.reduceAdd,if_true,ite_true,jqu,ite_false,if_false]
 have inn:∀ {e f:List V},ZB nmP (.give sh e f):=fun {e f}=>by unfold ZB;exact fun _ _ _=>nsh
 obtain ⟨ts,ps⟩:=kQ (u:=.str sl) (.inr ⟨sl,rfl,nsl⟩)
 have say:∀ {H1:Hp},Same H H1→0≤(80:Int)∧(80:Int)≤700∧∃ x,NamesAt H1 a x∧x.length=2∧∀ (p:Addr) (e:List V) (H':Hp),Same H1 H'→H1 p=none→H' p=some (HO.tup e)→TermOk e→tmP e→2≤sizeLine∧∀ (p_1:Addr),H' p_1=none→Q (V.ref p_1) (upd H' p_1 (HO.tup [V.str (Str.ofString "say"),V.ref p])):=fun {H1} s0=>⟨by decide,by decide,ws,h3.same s0,h4,fun p e H2 s1 fp hp te pe=>⟨by decide,fun r hr=>by
  have T:=S.trans (s0.trans s1)
  exact q _ (.say e) _ (T.trans (isV r hr)) ⟨r,p,rfl,zF T hr,zF (S.trans s0) fp,ze,isV r hr _ _ hp⟩ ⟨trivial,pe,te,by unfold ZB;trivial⟩⟩⟩
 refine yQ (fun _=>⟨by decide,by decide,ws,h3,h4,fun p e H1 s1 fp hp te pe=>⟨by decide,fun r hr=>?_⟩⟩) fun _=>yQ (fun _=>⟨by decide,by decide,ws,h3,h4,fun p e H1 s1 fp hp te pe=>⟨by decide,fun p2 hp2=>⟨by decide,fun r hr=>?_⟩⟩⟩) fun _=>yQ (fun _=>⟨by decide,by decide,ws,h3,h4,fun p e H1 s1 fp hp te pe=>⟨by decide,by decide,ws,h3.same s1,h4,fun p2 f H2 s2 fp2 hp2 tf pf=>⟨by decide,fun r hr=>?_⟩⟩⟩) fun _=>yQ (fun _=>⟨by decide,by decide,ws,h3,h4,fun p e H1 s1 fp hp te pe=>⟨by decide,fun r hr=>?_⟩⟩) fun _=>yQ (fun _=>⟨by decide,by decide,fun w H2 hw s2=>⟨by decide,fun p hp=>⟨by decide,fun r hr=>?_⟩⟩⟩) fun _=>yQ (fun _=>⟨by decide,by decide,fun r1 H1 _ _ s1=>⟨by decide,yQ (fun _=>?_) fun _=>say s1⟩⟩) fun _=>say (Same.refl H)
 ·have T:=S.trans s1
  exact q _ (.take sh e sl) _ (T.trans (isV r hr)) ⟨r,p,rfl,zF T hr,zF S fp,ze,isV r hr _ _ hp⟩ ⟨trivial,⟨ju nsh,pe,ju nsl⟩,te,by unfold ZB;trivial⟩
 ·have s2:=isV (o:=HO.tup [V.str sl]) p2 hp2
  have T:=S.trans (s1.trans s2)
  exact q _ (.give sh e [.str sl]) _ (T.trans (isV r hr)) ⟨r,p,p2,rfl,zF T hr,zF S fp,zF (S.trans s1) hp2,ze,(s2.trans (isV r hr)) _ _ hp,isV r hr _ _ ze⟩ ⟨trivial,⟨ju nsh,pe,ps⟩,⟨te,ts⟩,inn⟩
 ·have T:=S.trans (s1.trans s2)
  exact q _ (.give sh e f) _ (T.trans (isV r hr)) ⟨r,p,p2,rfl,zF T hr,zF S fp,zF (S.trans s1) fp2,ze,(s2.trans (isV r hr)) _ _ hp,isV r hr _ _ hp2⟩ ⟨trivial,⟨ju nsh,pe,pf⟩,⟨te,tf⟩,inn⟩
 ·have T:=S.trans s1
  exact q _ (.lt sl e) _ (T.trans (isV r hr)) ⟨r,p,rfl,zF T hr,zF S fp,ze,isV r hr _ _ hp⟩ ⟨trivial,⟨ju nsl,pe⟩,te,by unfold ZB;trivial⟩
 ·have T:=S.trans s2
  have s3:=isV (o:=HO.tup [V.str sl,V.int w,V.str (Str.ofString "same")]) p hp
  have jw:wdJ (Str.ofString "same"):=⟨by decide +kernel,by decide +kernel,by decide +kernel⟩
  obtain ⟨t2,p2⟩:=kQ (u:=.int w) (.inl ⟨w,rfl,hw⟩)
  exact q _ (.off ([.str sl] ++ [.int w] ++ [.str (Str.ofString "same")])) _ (T.trans (s3.trans (isV r hr))) ⟨r,p,rfl,zF (T.trans s3) hr,zF T hp,ze,isV r hr _ _ ze⟩ ⟨trivial,(by unfold ZC;exact kA ps p2 jw),(by unfold vN;exact ve ts t2 jw (by simp)),by unfold ZB;trivial⟩
 ·refine ⟨by decide,fun l0 hl0=>⟨by decide,by decide,fun r2 H2 _ _ s2=>⟨by decide,?_⟩⟩⟩
  have s0:=isV (o:=HO.lst [V.str (Str.ofString "over"),V.str (Str.ofString "rest")]) l0 hl0
  obtain ⟨z,hz,mz⟩:=za1 (x:=V.str (Str.ofString "over")) (y:=V.str (Str.ofString "rest")) r2
  obtain ⟨y,rfl,jy⟩:∃ y:Str,z=.str y∧wdJ y:=by rcases mz with rfl | rfl <;> exact ⟨_,rfl,by decide +kernel,by decide +kernel,by decide +kernel⟩
  refine ⟨_,SqL.of (s2 _ _ ze),_,hz,by decide,fun p1 hp1=>⟨Xu (j:=30) (by decide) (by decide),by decide,fun p2 hp2=>⟨by decide,fun l hl=>⟨by decide,by decide,fun r3 H3 _ _ s6=>⟨by decide,?_⟩⟩⟩⟩⟩
  have s3:=isV (o:=HO.tup [V.str sl,V.int 0,V.str y]) p1 hp1
  have e3:upd H2 p1 (HO.tup [V.str sl,V.int 0,V.str y]) p1=some (.tup [V.str sl,V.int 0,V.str y]):=ze
  generalize upd H2 p1 (HO.tup [V.str sl,V.int 0,V.str y])=H4 at *
  have s4:=isV (o:=HO.tup [V.int 1000000000000000000000000000000,V.int 1,V.str (Str.ofString "plus")]) p2 hp2
  have e4:upd H4 p2 (HO.tup [V.int 1000000000000000000000000000000,V.int 1,V.str (Str.ofString "plus")]) p2=some (.tup [V.int 1000000000000000000000000000000,V.int 1,V.str (Str.ofString "plus")]):=ze
  generalize upd H4 p2 (HO.tup [V.int 1000000000000000000000000000000,V.int 1,V.str (Str.ofString "plus")])=H5 at *
  have s5:=isV (o:=HO.lst [V.ref p1,V.ref p2]) l hl
  have e5:upd H5 l (HO.lst [V.ref p1,V.ref p2]) l=some (.lst [V.ref p1,V.ref p2]):=ze
  generalize upd H5 l (HO.lst [V.ref p1,V.ref p2])=H6 at *
  obtain ⟨z1,hz1,m1⟩:=za1 (x:=V.ref p1) (y:=V.ref p2) r3
  refine ⟨_,SqL.of (s6 _ _ e5),_,hz1,by decide,by decide,fun r4 H7 _ _ s7=>⟨by decide,?_⟩⟩
  obtain ⟨z2,hz2,m2⟩:=zby (x:=V.ref p1) (y:=V.ref p2) r4
  refine ⟨_,SqL.of (s7 _ _ (s6 _ _ e5)),_,hz2,by decide,fun r hr=>?_⟩
  have U2:=S.trans (s1.trans (s0.trans s2))
  have U7:=s5.trans (s6.trans s7)
  have U:=U2.trans (s3.trans (s4.trans U7))
  have jp:wdJ (Str.ofString "plus"):=⟨by decide +kernel,by decide +kernel,by decide +kernel⟩
  obtain ⟨t0,q0⟩:=kQ (u:=.int 0) (.inl ⟨0,rfl,by decide +kernel⟩)
  obtain ⟨tm,qm⟩:=kQ (u:=.int 1000000000000000000000000000000) (.inl ⟨_,rfl,by decide +kernel⟩)
  obtain ⟨t1,q1⟩:=kQ (u:=.int 1) (.inl ⟨1,rfl,by decide +kernel⟩)
  have f1:Hb p1=none:=zF U2 hp1
  have f2:Hb p2=none:=zF (U2.trans s3) hp2
  have both:∀ {z:V},(z=.ref p1∨z=.ref p2)→∃ p e,z=.ref p∧Hb p=none∧H7 p=some (.tup e)∧TermOk e∧tmP e:=fun h=>by
   rcases h with rfl | rfl
   ·exact ⟨p1,[.str sl] ++ [.int 0] ++ [.str y],rfl,f1,(s4.trans U7) _ _ e3,ve ts t0 jy (by simp),kA ps q0 jy⟩
   ·exact ⟨p2,[.int 1000000000000000000000000000000] ++ [.int 1] ++ [.str (Str.ofString "plus")],rfl,f2,U7 _ _ e4,ve tm t1 jp (by simp),kA qm q1 jp⟩
  obtain ⟨pa,e,rfl,ga,ha,ta,oa⟩:=both m1
  obtain ⟨pb,f,rfl,gb,hb,tb,ob⟩:=both m2
  exact q _ (.give sh e f) _ (U.trans (isV r hr)) ⟨r,pa,pb,rfl,zF U hr,ga,gb,ze,isV r hr _ _ ha,isV r hr _ _ hb⟩ ⟨trivial,⟨ju nsh,oa,ob⟩,⟨ta,tb⟩,inn⟩
end
theorem Wk {c:Int} {a b:Addr} {ws us:List Str} (h1:NamesAt H a ws) (h2:ws.length=2) (h3:NamesAt H b us) (h4:us.length=2) (q:∀ v r H',Same H H'→RwAt (fun b=>H b=none) H' v r→rwV r→Q v H') :
  kj K t { nx:=fun _ H'=>Q .non H',rt:=Q } (L2.start ["cell","slots","shelves","kind","shelf","slot","bad"] [.int c,.ref a,.ref b]) H:=by
 simp only [kj,zq,L2.start,zo,zQ,zr,zB,zv,tOp,zc,tC,yB,yb,zb,zi,zE,wN,zm,zp,ye,rEq,rI,rI0,yP,List.map,List.replicate,List.length,List.append,jqa,jqb,jqc,jqd,jqe,jqf,jqg,jqh,jqi,jqj,jqk,jql,jqm,jqn,and_true,true_and,and_assoc,jqo,jqp,jqq,Nat.reduceSub,Nat.reduceAdd,jqr,jqs,jqt,Int.reduceToNat,Int.reducePow,Int.reduceNeg,Int.reduceMul,Int.reduceAdd,if_true,ite_true,jqu,ite_false,if_false]
 refine ⟨by decide,by decide,fun r1 H1 a1 b1 s1=>⟨by decide,by decide,by decide,fun r2 H2 a2 b2 s2=>⟨by decide,?_⟩⟩⟩
 obtain ⟨x,hx,_,nx⟩:=YI (h3.same (s1.trans s2)) 2 h4 (by decide) r2
 refine ⟨_,SqL.of ((s1.trans s2) _ _ h3.1),_,hx,by decide,by decide,fun r3 H3 a3 b3 s3=>⟨by decide,?_⟩⟩
 have S:=s1.trans (s2.trans s3)
 obtain ⟨y,hy,_,ny⟩:=YI (h1.same S) 2 h2 (by decide) r3
 exact ⟨_,SqL.of (S _ _ h1.1),_,hy,QK (h1.same S) h2 nx ny S q⟩
theorem FsAt.to {F G:Addr→Prop} {H H':Hp} (g:∀ b o,F b→H b=some o→G b) (s:∀ b o,F b→H b=some o→H' b=some o):∀ (gs:List Gm) {fs:List V} {sp:List Addr},(∀ a∈sp,∀ o,H a=some o→H' a=some o)→FsAt F H gs fs sp→FsAt G H' gs fs sp
 | [],fs,sp,p,h=>h
 | m :: gs,fs,sp,p,h=>by
  obtain ⟨f,tv,fi,c,xs,fs',sp',e1,e2,h1,h2,h3,h4,h5,h6⟩:=h
  subst e2
  refine ⟨f,tv,fi,c,xs,fs',sp',e1,rfl,p f (by simp) _ h1,p c (by simp) _ h2,RwsAt.to _ g s h3,fun n=>?_,?_,FsAt.to g s gs (fun a ha=>p a (by simp [ha])) h6⟩
  ·obtain ⟨te,a1,a2,a3,a4⟩:=h4 n
   exact ⟨te,a1,g _ _ a2 a3,s _ _ a2 a3,a4⟩
  ·rcases h5 with h5 | ⟨a,ys,A,a1,a2,a3,a4,a5⟩
   ·exact .inl h5
   ·exact .inr ⟨a,ys,A,a1,a2,g _ _ a3 a4,s _ _ a3 a4,RwsAt.to _ g s a5⟩
theorem FsAt.alive {F:Addr→Prop} {H:Hp}:∀ (gs:List Gm) {fs:List V} {sp:List Addr},FsAt F H gs fs sp→∀ a∈sp,∃ o,H a=some o
 | [],fs,sp,h,a,ha=>by rw [h.2] at ha;cases ha
 | m :: gs,fs,sp,h,a,ha=>by
  obtain ⟨f,tv,fi,c,xs,fs',sp',e1,e2,h1,h2,h3,h4,h5,h6⟩:=h
  subst e2
  simp only [List.mem_cons] at ha
  rcases ha with rfl | rfl | ha
  ·exact ⟨_,h1⟩
  ·exact ⟨_,h2⟩
  ·exact FsAt.alive gs h6 a ha
theorem FsAt.len {F:Addr→Prop} {H:Hp}:∀ (gs:List Gm) {fs:List V} {sp:List Addr},FsAt F H gs fs sp→fs.length=gs.length
 | [],fs,sp,h=>by rw [h.1];rfl
 | m :: gs,fs,sp,h=>by
  obtain ⟨f,tv,fi,c,xs,fs',sp',e1,e2,h1,h2,h3,h4,h5,h6⟩:=h
  rw [e1,List.length_cons,List.length_cons,FsAt.len gs h6]
theorem FZ.same {H0 H H':Hp} {FR:Addr} {gs:List Gm} {fs:List V} {sp:List Addr} (Z:FZ H0 H FR gs fs sp) (s:Same H H'):FZ H0 H' FR gs fs sp :=
 ⟨Z.sm.trans s,s _ _ Z.hf,FsAt.to (fun _ _ f _=>f) (fun _ _ _ e=>s _ _ e) gs (fun _ _ _ e=>s _ _ e) Z.fa,Z.nd,Z.nf,Z.fr,Z.f0⟩
theorem qp {α:Type} {xs:List α} {a:α}:atI (xs ++ [a]) (-1)=some a:=by
 unfold atI ixN
 rw [if_neg (by decide),if_pos (by simp;lia)]
 have e:(-1 + ((xs ++ [a]).length:Int)).toNat=xs.length:=by simp;lia
 rw [e]
 simp
theorem FZ.push {H0 H:Hp} {FR c:Addr} {g:Gm} {gs:List Gm} {fs:List V} {sp:List Addr} {xs:List V} {v:V} {r:Rw} {f:Addr} {tv fi:V} {fs':List V} {sp':List Addr} (Z:FZ H0 H FR (g :: gs) fs sp) (e1:fs=.ref f :: fs') (e2:sp=f :: c :: sp') (h1:H f=some (.lst [tv,fi,.ref c])) (h2:H c=some (.lst xs)) (hv:RwAt (Fz H0 sp FR) H v r):FZ H0 (upd H c (.lst (xs ++ [v]))) FR ({ g with D:=g.D.snoc r } :: gs) fs sp:=by
 have fa:=Z.fa
 obtain ⟨f',tv',fi',c',xs',fs1,sp1,e1',e2',h1',h2',h3,h4,h5,h6⟩:=fa
 have nd:=Z.nd
 have ec:c∈sp:=by rw [e2];simp
 subst e1
 subst e2
 obtain ⟨rfl,rfl⟩:f=f'∧fs'=fs1:=by injection e1' with a b;exact ⟨V.ref.inj a,b⟩
 obtain ⟨_,rfl,rfl⟩:f=f∧c=c'∧sp'=sp1:=by injection e2' with a b;injection b with b d;exact ⟨rfl,b,d⟩
 rw [h1] at h1'
 cases h1'
 rw [h2] at h2'
 cases h2'
 rw [List.nodup_cons,List.nodup_cons] at nd
 obtain ⟨n1,n2,n3⟩:=nd
 have nfc:f≠c:=fun z=>n1 (by simp [z])
 have s:∀ b o,Fz H0 (f :: c :: sp') FR b→H b=some o→upd H c (.lst (xs ++ [v])) b=some o:=fun b o fz e=>by rw [zk (fun z=>fz.1 (by simp [z]))];exact e
 refine ⟨yL Z.sm (Z.fr c ec),by rw [zk (fun z=>Z.nf (by rw [z];exact ec))];exact Z.hf,?_,Z.nd,Z.nf,Z.fr,Z.f0⟩
 refine ⟨f,tv,fi,c,xs ++ [v],fs',sp',rfl,rfl,by rw [zk nfc];exact h1,ze,RwsAt.snoc (hv.to r (fun _ _ f _=>f) s) g.D (RwsAt.to _ (fun _ _ f _=>f) s h3),fun n=>?_,?_,FsAt.to (fun _ _ f _=>f) s gs (fun a ha o e=>by rw [zk (fun z=>n2 (by rw [← z];exact ha))];exact e) h6⟩
 ·obtain ⟨te,a1,a2,a3,a4⟩:=h4 n
  exact ⟨te,a1,a2,s _ _ a2 a3,a4⟩
 ·rcases h5 with h5 | ⟨a,ys,A,a1,a2,a3,a4,a5⟩
  ·exact .inl h5
  ·exact .inr ⟨a,ys,A,a1,a2,a3,s _ _ a3 a4,RwsAt.to _ (fun _ _ f _=>f) s a5⟩
theorem FZ.pop {H0 H:Hp} {FR:Addr} {g h:Gm} {gs:List Gm} {fs:List V} {sp:List Addr} (Z:FZ H0 H FR (g :: h :: gs) fs sp):∃ f te fi c xs fs' sp',fs=.ref f :: fs'∧sp=f :: c :: sp'∧FZ H0 (upd H FR (.lst fs'.reverse)) FR (h :: gs) fs' sp'∧upd H FR (.lst fs'.reverse) f=some (.lst [.ref te,fi,.ref c])∧upd H FR (.lst fs'.reverse) te=some (.tup g.e)∧tmP g.e∧Fz H0 sp' FR te∧Fz H0 sp' FR c∧upd H FR (.lst fs'.reverse) c=some (.lst xs)∧RwsAt (Fz H0 sp' FR) (upd H FR (.lst fs'.reverse)) xs g.D∧((g.a=none∧fi=.non)∨∃ a ys A,g.a=some A∧fi=.ref a∧Fz H0 sp' FR a∧upd H FR (.lst fs'.reverse) a=some (.lst ys)∧RwsAt (Fz H0 sp' FR) (upd H FR (.lst fs'.reverse)) ys A):=by
 have fa:=Z.fa
 obtain ⟨f,tv,fi,c,xs,fs',sp',e1,e2,h1,h2,h3,h4,h5,h6⟩:=fa
 have nd:=Z.nd
 have fr:=Z.fr
 have nf:=Z.nf
 subst e2
 rw [List.nodup_cons,List.nodup_cons] at nd
 obtain ⟨n1,n2,n3⟩:=nd
 obtain ⟨te,rfl,a2,a3,a4⟩:=h4 (by simp)
 have g':∀ b o,Fz H0 (f :: c :: sp') FR b→H b=some o→Fz H0 sp' FR b:=fun b o fz _=>⟨fun z=>fz.1 (by simp [z]),fz.2⟩
 have s:∀ b o,Fz H0 (f :: c :: sp') FR b→H b=some o→upd H FR (.lst fs'.reverse) b=some o:=fun b o fz e=>by rw [zk fz.2.1];exact e
 have p:∀ a∈f :: c :: sp',∀ o,H a=some o→upd H FR (.lst fs'.reverse) a=some o:=fun a ha o e=>by rw [zk (fun z=>nf (by rw [← z];exact ha))];exact e
 refine ⟨f,te,fi,c,xs,fs',sp',e1,rfl,⟨yL Z.sm Z.f0,ze,FsAt.to g' s _ (fun a ha=>p a (by simp [ha])) h6,n3,fun z=>nf (by simp [z]),fun a ha=>fr a (by simp [ha]),Z.f0⟩,p f (by simp) _ h1,s _ _ a2 a3,a4,g' _ _ a2 a3,⟨n2,fun z=>nf (by simp [← z]),fr c (by simp)⟩,p c (by simp) _ h2,RwsAt.to _ g' s h3,?_⟩
 rcases h5 with h5 | ⟨a,ys,A,b1,b2,b3,b4,b5⟩
 ·exact .inl h5
 ·exact .inr ⟨a,ys,A,b1,b2,g' _ _ b3 b4,s _ _ b3 b4,RwsAt.to _ g' s b5⟩
theorem ZK {FR:Addr} {H0:Hp} {g h:Gm} {gs:List Gm} {fs:List V} {sp:List Addr} (Z:FZ H0 H FR (g :: h :: gs) fs sp) (hc:h.D.cnt≤500) (q:∀ fs' sp' H',FZ H0 H' FR (qi g h :: gs) fs' sp'→Q .non H') :
  vt K t { nx:=fun _ H'=>Q .non H',rt:=Q } (L2.start ["frames","frame"] [.ref FR]) H:=by
 simp only [vt,L2.start,zu,yR,yf,XL,zo,zQ,zr,zY,tOp,tUn,zc,tC,yB,yb,zb,zi,zE,zm,tBM,qy,tyV,ye,rU,qZ,List.map,List.replicate,List.length,List.append,jqa,jqb,jqc,jqd,jqe,jqf,jqg,jqh,jqi,jqj,jqk,jql,jqm,jqn,and_true,true_and,and_assoc,jqo,jqp,jqq,jqr,jqs,jqt,if_true,ite_true,jqu,ite_false,if_false]
 have hf:=Z.hf
 obtain ⟨f,te,fi,c,xs,fs1,sp1,e1,e2,Z1,h1,h2,h3,h4,h5,h6,h7,h8⟩:=Z.pop
 have er:fs.reverse=fs1.reverse ++ [.ref f]:=by rw [e1,List.reverse_cons]
 rw [er] at hf
 refine ⟨.inl ⟨_,SqL.of hf⟩,fs1.reverse ++ [.ref f],hf,.ref f,kq,?_⟩
 rw [wA]
 obtain ⟨f2,tv2,fi2,c2,xs2,fs2,sp2,d1,d2,k1,k2,k3,k4,k5,k6⟩:=Z1.fa
 have hF1:=Z1.hf
 have er1:fs1.reverse=fs2.reverse ++ [.ref f2]:=by rw [d1,List.reverse_cons]
 generalize upd H FR (HO.lst fs1.reverse)=H1 at *
 rw [er1] at hF1
 have lx:xs2.length < sizeLine:=by
  have:=RwsAt.len h.D k3
  exact Nat.lt_of_le_of_lt (by lia:_≤900) (by decide)
 refine ⟨f,rfl,_,SqL.of h1,_,rfl,?_⟩
 rcases h8 with ⟨ga,rfl⟩ | ⟨a,ys,A,ga,rfl,b3,b4,b5⟩
 ·rw [if_pos rfl]
  refine ⟨_,SqL.of hF1,_,qp,f2,rfl,_,SqL.of k1,_,rfl,.inl ⟨_,SqL.of k2⟩,f,rfl,_,SqL.of h1,_,rfl,f,rfl,_,SqL.of h1,_,rfl,by decide,fun p3 g3=>⟨by decide,fun r hr=>?_⟩⟩
  have s1:=isV (o:=HO.lst []) p3 g3
  have s2:=isV (o:=HO.tup [V.str (Str.ofString "if"),V.ref te,V.ref c,V.ref p3]) r hr
  have S:=s1.trans s2
  have Z2:=Z1.same S
  have al:∀ a∈sp1,∃ o,H1 a=some o:=FsAt.alive _ Z1.fa
  have f3:Fz H0 sp1 FR p3:=⟨(fun z=>by obtain ⟨o,e⟩:=al p3 z;rw [g3] at e;cases e),wL hF1 g3,zF Z1.sm g3⟩
  have fr:Fz H0 sp1 FR r:=⟨(fun z=>by obtain ⟨o,e⟩:=al r z;rw [s1 _ _ e] at hr;cases hr),wL (s1 _ _ hF1) hr,zF (Z1.sm.trans s1) hr⟩
  refine ⟨c2,rfl,xs2,S _ _ k2,lx,?_⟩
  have hv:RwAt (Fz H0 sp1 FR) (upd (upd H1 p3 (HO.lst [])) r (HO.tup [V.str (Str.ofString "if"),V.ref te,V.ref c,V.ref p3])) (.ref r) (.iff g.e g.D .nil):=by
   unfold RwAt
   exact ⟨r,te,c,p3,xs,[],rfl,fr,h4,h5,f3,ze,S _ _ h2,S _ _ h6,h7.mono S,s2 _ _ ze,by unfold RwsAt;rfl⟩
  have:=Z2.push d1 d2 (S _ _ k1) (S _ _ k2) hv
  refine q fs1 sp1 _ ?_
  unfold qi
  rw [ga]
  exact this
 ·rw [if_neg (by simp)]
  refine ⟨_,SqL.of hF1,_,qp,f2,rfl,_,SqL.of k1,_,rfl,.inl ⟨_,SqL.of k2⟩,f,rfl,_,SqL.of h1,_,rfl,f,rfl,_,SqL.of h1,_,rfl,f,rfl,_,SqL.of h1,_,rfl,by decide,fun r hr=>?_⟩
  have s2:=isV (o:=HO.tup [V.str (Str.ofString "if"),V.ref te,V.ref a,V.ref c]) r hr
  have Z2:=Z1.same s2
  have al:∀ a∈sp1,∃ o,H1 a=some o:=FsAt.alive _ Z1.fa
  have fr:Fz H0 sp1 FR r:=⟨(fun z=>by obtain ⟨o,e⟩:=al r z;rw [e] at hr;cases hr),wL hF1 hr,zF Z1.sm hr⟩
  refine ⟨c2,rfl,xs2,s2 _ _ k2,lx,?_⟩
  have hv:RwAt (Fz H0 sp1 FR) (upd H1 r (HO.tup [V.str (Str.ofString "if"),V.ref te,V.ref a,V.ref c])) (.ref r) (.iff g.e A g.D):=by
   unfold RwAt
   exact ⟨r,te,a,c,ys,xs,rfl,fr,h4,b3,h5,ze,s2 _ _ h2,s2 _ _ b4,b5.mono s2,s2 _ _ h6,h7.mono s2⟩
  have:=Z2.push d1 d2 (s2 _ _ k1) (s2 _ _ k2) hv
  refine q fs1 sp1 _ ?_
  unfold qi
  rw [ga]
  exact this
mutual
def szR:Rw→Nat
 | .iff _ a b=>yO a + yO b + 2
 | _=>1
def yO:Rws→Nat
 | .nil=>0
 | .cons r rs=>szR r + yO rs
end
mutual
theorem zaK:∀ (r:Rw) (k:Nat),(xk r k).length≤szR r∧r.cnt≤szR r
 | .iff e a b,k=>by
  have h1:=vE a (k + 1)
  have h2:=vE b (k + 2 + (zD a (k + 1)).length)
  have c:(Rw.iff e a b).cnt=max a.cnt b.cnt + 1:=by rw [Rw.cnt]
  have z:szR (.iff e a b)=yO a + yO b + 2:=by rw [szR]
  rw [xk,c,z]
  unfold blk
  split
  ·exact ⟨by simp;lia,by lia⟩
  ·exact ⟨by simp;lia,by lia⟩
 | .take sh e sl,k=>by simp [xk,szR,Rw.cnt]
 | .give sh e f,k=>by simp [xk,szR,Rw.cnt]
 | .lt sl e,k=>by simp [xk,szR,Rw.cnt]
 | .say e,k=>by simp [xk,szR,Rw.cnt]
 | .off e,k=>by simp [xk,szR,Rw.cnt]
theorem vE:∀ (r:Rws) (k:Nat),(zD r k).length≤yO r∧r.cnt≤yO r
 | .nil,k=>by simp [zD,yO,Rws.cnt]
 | .cons r rs,k=>by
  have h1:=zaK r k
  have h2:=vE rs (k + (xk r k).length)
  rw [zD,yO,Rws.cnt,List.length_append]
  lia
end
theorem Zm (x:Rw):∀ (r:Rws),yO (r.snoc x)=yO r + szR x
 | .nil=>by show yO (.cons x .nil)=_;simp [yO]
 | .cons y r=>by
  show yO (.cons y (r.snoc x))=_
  rw [yO,yO,Zm x r];lia
def szA:Option Rws→Nat
 | none=>0
 | some A=>yO A
def szG:List Gm→Nat
 | []=>0
 | g :: gs=>yO g.D + szA g.a + 2 + szG gs
def okG:List Gm→Prop
 | []=>True
 | g :: gs=>g.D.deep + gs.length≤5∧(xA g.D∧xj g.D∧wI nmP g.D)∧(tmP g.e∧(gs≠[]→TermOk g.e))∧(∀ A,g.a=some A→A.deep + gs.length≤5∧xA A∧xj A∧wI nmP A)∧okG gs
theorem Vi {g h:Gm} {gs:List Gm} (k:okG (g :: h :: gs)):okG (qi g h :: gs)∧szG (qi g h :: gs)=szG (g :: h :: gs):=by
 obtain ⟨k1,k2,k3,k4,k5,k6,k7,k8,k9⟩:=k
 rw [List.length_cons] at k1 k4
 have hx:∀ (x:Rw),x.deep + gs.length≤5→ZC x→vN x→ZB nmP x→szR x=yO g.D + szA g.a + 2→okG ({ h with D:=h.D.snoc x } :: gs)∧szG ({ h with D:=h.D.snoc x } :: gs)=szG (g :: h :: gs):=fun x d p po pn z =>
  ⟨⟨by show (h.D.snoc x).deep + gs.length≤5;rw [Zf];lia,⟨X1 p h.D k6.1,X0 po h.D k6.2.1,X2 pn h.D k6.2.2⟩,k7,k8,k9⟩,by show yO (h.D.snoc x) + szA h.a + 2 + szG gs=yO g.D + szA g.a + 2 + (yO h.D + szA h.a + 2 + szG gs);rw [Zm,z];lia⟩
 unfold qi
 cases ga:g.a with
 | none =>
  refine hx (.iff g.e g.D .nil) ?_ ?_ (by unfold vN;exact ⟨k3.2 (by simp),k2.2.1,by unfold xj;trivial⟩) (by unfold ZB;exact ⟨k2.2.2,by unfold wI;trivial⟩) ?_
  ·have:(Rw.iff g.e g.D .nil).deep=max g.D.deep Rws.nil.deep + 1:=by rw [Rw.deep]
   rw [this,Rws.deep];lia
  ·unfold ZC
   exact ⟨k3.1,k2.1,by unfold xA;trivial⟩
  ·rw [ga,szR,yO];rfl
 | some A =>
  obtain ⟨a1,a2⟩:=k4 A ga
  refine hx (.iff g.e A g.D) ?_ ?_ (by unfold vN;exact ⟨k3.2 (by simp),a2.2.1,k2.2.1⟩) (by unfold ZB;exact ⟨a2.2.2,k2.2.2⟩) ?_
  ·have:(Rw.iff g.e A g.D).deep=max A.deep g.D.deep + 1:=by rw [Rw.deep]
   rw [this];lia
  ·unfold ZC
   exact ⟨k3.1,a2.1,k2.1⟩
  ·rw [ga,szR]
   show yO A + yO g.D + 2=yO g.D + yO A + 2
   lia
theorem rwV.deep {r:Rw} (h:rwV r):r.deep=0∧szR r=1:=by
 have:=h.ni
 cases r with
 | iff e a b=>exact this.elim
 | _=>exact ⟨by simp [Rw.deep],by simp [szR]⟩
def rwI (p FR sa sb:Addr) (H:Hp) (i:Nat) (σ:St) (H':Hp):Prop:=∃ gs fs sp,(∃ o3 o4,σ=[some (.ref p),some (.ref sa),some (.ref sb),some (.ref FR),o3,o4])∧FZ H H' FR gs fs sp∧okG gs∧gs≠[]∧gs.length≤6∧szG gs≤2 * i + 2
section
variable {p FR sa sb:Addr} {ws us:List Str} {c k:Int} {H0:Hp} {i:Nat} {gs:List Gm} {fs:List V} {sp:List Addr} {E:Zx}
theorem YJ (Z:FZ H0 H FR gs fs sp):(fs.reverse).length=gs.length:=by rw [List.length_reverse];exact FsAt.len gs Z.fa
theorem JJ (n1:NamesAt H0 sa ws) (n2:ws.length=2) (n3:NamesAt H0 sb us) (n4:us.length=2) (Z:FZ H0 H FR gs fs sp) (ok:okG gs) (ne:gs≠[]) (l6:gs.length≤6) (sz:szG gs≤2 * i + 2) (hi:i < 63) (q:∀ σ H',rwI p FR sa sb H0 (i + 1) σ H'→E.nx σ H') :
  vx K t E [some (.ref p),some (.ref sa),some (.ref sb),some (.ref FR),some (.int c),some (.int k)] H:=by
 simp only [vx,j0,L2.start,zu,yf,zY,tOp,tUn,zc,tC,zb,zi,tBM,tyV,zp,ye,rU,List.map,List.replicate,List.length,List.append,jqa,jqb,jqc,jqd,jqe,jqf,jqg,jqh,jqi,jqj,jqk,jql,jqm,jqn,and_true,true_and,and_assoc,jqo,jqp,jqq,jqr,jqs,jqt,if_true,ite_true,jqu,ite_false,if_false]
 cases gs with
 | nil=>exact absurd rfl ne
 | cons g gs =>
  obtain ⟨f,tv,fi,cc,xs,fs',sp',e1,e2,h1,h2,h3,h4,h5,h6⟩:=Z.fa
  have hf:=Z.hf
  have er:fs.reverse=fs'.reverse ++ [.ref f]:=by rw [e1,List.reverse_cons]
  rw [er] at hf
  have lx:xs.length < sizeLine:=by
   have a1:=RwsAt.len g.D h3
   have a2:=(vE g.D 0).2
   have a3:szG (g :: gs)=yO g.D + szA g.a + 2 + szG gs:=rfl
   exact Nat.lt_of_le_of_lt (by lia:_≤900) (by decide)
  refine ⟨_,SqL.of hf,_,qp,f,rfl,_,SqL.of h1,_,rfl,.inl ⟨_,SqL.of h2⟩,ws,n1.same Z.sm,n2,us,n3.same Z.sm,n4,fun v r H1 s1 hr vr=>?_⟩
  have Z1:=Z.same s1
  refine ⟨cc,rfl,xs,s1 _ _ h2,lx,?_⟩
  have al:∀ a∈sp,∃ o,H a=some o:=FsAt.alive _ Z.fa
  have hv:RwAt (Fz H0 sp FR) H1 v r:=hr.to r (fun b o fz _=>⟨(fun z=>by obtain ⟨o,e⟩:=al b z;rw [fz] at e;cases e),wL hf fz,zF Z.sm fz⟩) fun b o _ e=>e
  have Z2:=Z1.push e1 e2 (s1 _ _ h1) (s1 _ _ h2) hv
  obtain ⟨d0,z1⟩:=vr.deep
  obtain ⟨o1,o2,o3,o4,o5⟩:=ok
  refine q _ _ ⟨_,fs,sp,⟨_,_,rfl⟩,Z2,⟨by show (g.D.snoc r).deep + gs.length≤5;rw [Zf,d0];lia,⟨X1 vr.pl g.D o2.1,X0 vr.ok g.D o2.2.1,X2 vr.nm g.D o2.2.2⟩,o3,o4,o5⟩,by simp,by simpa using l6,?_⟩
  have a3:szG (g :: gs)=yO g.D + szA g.a + 2 + szG gs:=rfl
  show yO (g.D.snoc r) + szA g.a + 2 + szG gs≤2 * (i + 1) + 2
  rw [Zm,z1]
  lia
end
theorem FZ.out {H0 H:Hp} {FR c:Addr} {gs:List Gm} {fs:List V} {sp:List Addr} (Z:FZ H0 H FR gs fs sp) (c0:H c=none):c ∉ sp∧c≠FR∧H0 c=none :=
 ⟨(fun z=>by obtain ⟨o,e⟩:=FsAt.alive _ Z.fa c z;rw [c0] at e;cases e),wL Z.hf c0,zF Z.sm c0⟩
theorem FZ.new {H0 Hz H:Hp} {FR f c pt:Addr} {gs:List Gm} {fs:List V} {sp:List Addr} {e:List V} (Z:FZ H0 Hz FR gs fs sp) (s:Same Hz H) (te:tmP e) (hp:H pt=some (.tup e)) (p0:Hz pt=none) (hc:H c=some (.lst [])) (c0:Hz c=none) (hf:H f=none):FZ H0 (upd (upd H f (.lst [.ref pt,.non,.ref c])) FR (.lst (fs.reverse ++ [.ref f]))) FR (⟨e,none,.nil⟩ :: gs) (.ref f :: fs) (f :: c :: sp):=by
 obtain ⟨nc,ncF,fc⟩:=Z.out c0
 obtain ⟨np,npF,fp⟩:=Z.out p0
 have ZH:=Z.same s
 obtain ⟨nfs,nF,ff⟩:=ZH.out hf
 have ncf:c≠f:=fun z=>by rw [z,hf] at hc;cases hc
 have npf:pt≠f:=fun z=>by rw [z,hf] at hp;cases hp
 have npc:pt≠c:=zS hp hc (fun z=>nomatch z)
 have kp:∀ {b:Addr} {o:HO},b≠FR→H b=some o→upd (upd H f (.lst [.ref pt,.non,.ref c])) FR (.lst (fs.reverse ++ [.ref f])) b=some o:=fun n e=>by rw [zk n,zk (zL e hf)];exact e
 refine ⟨yL (ZH.sm.trans (isV f hf)) Z.f0,by rw [ze,List.reverse_cons],?_,?_,?_,?_,Z.f0⟩
 ·refine ⟨f,.ref pt,.non,c,[],fs,sp,rfl,rfl,by rw [zk nF,ze],kp ncF hc,by unfold RwsAt;rfl,fun _=>⟨pt,rfl,⟨by simp [npf,npc,np],npF,fp⟩,kp npF hp,te⟩,.inl ⟨rfl,rfl⟩,?_⟩
  refine FsAt.to (fun b o fz e=>⟨?_,fz.2⟩) (fun b o fz e=>kp fz.2.1 (s _ _ e)) gs (fun a ha o e=>kp (fun z=>Z.nf (z ▸ ha)) (s _ _ e)) Z.fa
  simp only [List.mem_cons,not_or]
  exact ⟨zL (s _ _ e) hf,zL e c0,fz.1⟩
 ·rw [List.nodup_cons,List.nodup_cons]
  exact ⟨by simp [Ne.symm ncf,nfs],nc,Z.nd⟩
 ·simp only [List.mem_cons,not_or]
  exact ⟨Ne.symm nF,Ne.symm ncF,Z.nf⟩
 ·intro a ha
  simp only [List.mem_cons] at ha
  rcases ha with rfl | rfl | ha
  ·exact ff
  ·exact fc
  ·exact Z.fr a ha
theorem FZ.turn {H0 H:Hp} {FR f c d:Addr} {g:Gm} {gs:List Gm} {fs fs':List V} {sp sp':List Addr} {tv fi:V} (Z:FZ H0 H FR (g :: gs) fs sp) (e1:fs=.ref f :: fs') (e2:sp=f :: c :: sp') (h1:H f=some (.lst [tv,fi,.ref c])) (d0:H d=none) {H2:Hp} (k:∀ b o,b≠f→H b=some o→H2 b=some o) (hf:H2 f=some (.lst [tv,.ref c,.ref d])) (hd:H2 d=some (.lst [])):FZ H0 H2 FR (⟨g.e,some g.D,.nil⟩ :: gs) fs (f :: d :: sp'):=by
 obtain ⟨nd1,ndF,fd⟩:=Z.out d0
 have fa:=Z.fa
 obtain ⟨f',tv',fi',c',xs',fs1,sp1,e1',e2',h1',h2',h3,h4,h5,h6⟩:=fa
 have nd:=Z.nd
 have nf:=Z.nf
 have fr:=Z.fr
 subst e1
 subst e2
 obtain ⟨rfl,rfl⟩:f=f'∧fs'=fs1:=by injection e1' with a b;exact ⟨V.ref.inj a,b⟩
 obtain ⟨_,rfl,rfl⟩:f=f∧c=c'∧sp'=sp1:=by injection e2' with a b;injection b with b d;exact ⟨rfl,b,d⟩
 rw [h1] at h1'
 cases h1'
 rw [List.nodup_cons,List.nodup_cons] at nd
 obtain ⟨n1,n2,n3⟩:=nd
 simp only [List.mem_cons,not_or] at nd1 nf n1
 have gF:∀ b o,Fz H0 (f :: c :: sp') FR b→H b=some o→Fz H0 (f :: d :: sp') FR b:=fun b o fz e=>⟨by
  have:=fz.1
  simp only [List.mem_cons,not_or] at this ⊢
  exact ⟨this.1,zL e d0,this.2.2⟩,fz.2⟩
 have sF:∀ b o,Fz H0 (f :: c :: sp') FR b→H b=some o→H2 b=some o:=fun b o fz e=>k b o (fun z=>fz.1 (by simp [z])) e
 refine ⟨fun b o e=>k b o (fun z=>by rw [z,fr f (by simp)] at e;cases e) (Z.sm b o e),k _ _ nf.1 Z.hf,?_,?_,?_,?_,Z.f0⟩
 ·refine ⟨f,tv,.ref c,d,[],fs',sp',rfl,rfl,hf,hd,by unfold RwsAt;rfl,fun n=>?_,.inr ⟨c,xs',g.D,rfl,rfl,⟨?_,fun z=>nf.2.1 z.symm,fr c (by simp)⟩,k _ _ (fun z=>n1.1 z.symm) h2',RwsAt.to _ gF sF h3⟩,FsAt.to gF sF gs (fun a ha o e=>k a o (fun z=>n1.2 (z ▸ ha)) e) h6⟩
  ·obtain ⟨te,a1,a2,a3,a4⟩:=h4 n
   exact ⟨te,a1,gF _ _ a2 a3,sF _ _ a2 a3,a4⟩
  ·simp only [List.mem_cons,not_or]
   exact ⟨fun z=>n1.1 z.symm,zL h2' d0,n2⟩
 ·rw [List.nodup_cons,List.nodup_cons]
  exact ⟨by simp only [List.mem_cons,not_or];exact ⟨fun z=>nd1.1 z.symm,n1.2⟩,nd1.2.2,n3⟩
 ·simp only [List.mem_cons,not_or]
  exact ⟨nf.1,Ne.symm ndF,nf.2.2⟩
 ·intro a ha
  simp only [List.mem_cons] at ha
  rcases ha with rfl | rfl | ha
  ·exact fr _ (by simp)
  ·exact fd
  ·exact fr a (by simp [ha])
theorem FZ.sp_nF {H0 H:Hp} {FR f c:Addr} {gs:List Gm} {fs:List V} {sp sp':List Addr} (Z:FZ H0 H FR gs fs sp) (e2:sp=f :: c :: sp'):FR≠f:=fun z=>Z.nf (by rw [e2,z];simp)
section
variable {p FR sa sb:Addr} {ws us:List Str} {c k:Int} {H0:Hp} {i:Nat} {gs:List Gm} {fs:List V} {sp:List Addr} {E:Zx}
theorem zaL (n1:NamesAt H0 sa ws) (n2:ws.length=2) (n3:NamesAt H0 sb us) (n4:us.length=2) (Z:FZ H0 H FR gs fs sp) (ok:okG gs) (l6:gs.length < 6) (sz:szG gs≤2 * i + 2) (q:∀ σ H',rwI p FR sa sb H0 (i + 1) σ H'→E.nx σ H') :
  vz K t E [some (.ref p),some (.ref sa),some (.ref sb),some (.ref FR),some (.int c),some (.int k)] H:=by
 simp only [vz,yx,L2.start,zu,yf,zY,zc,tC,yB,zb,zi,tBM,tyV,zp,List.map,List.replicate,List.length,List.append,jqa,jqb,jqc,jqd,jqe,jqf,jqg,jqh,jqi,jqj,jqk,jql,jqm,jqn,and_true,true_and,and_assoc,jqo,jqp,jqq,jqr,jqs,jqt,if_true,ite_true,jqu,ite_false,if_false]
 have lf:=YJ Z
 refine ⟨.inl ⟨_,SqL.of Z.hf⟩,by decide,by decide,ws,n1.same Z.sm,n2,fun pt e H1 s1 fp1 hpt to te=>⟨by decide,fun cc gc=>⟨by decide,fun f gf=>?_⟩⟩⟩
 have s2:=isV (o:=HO.lst []) cc gc
 have S:=s1.trans s2
 have Z3:=Z.new (f:=f) S te (s2 _ _ hpt) fp1 ze (zF s1 gc) gf
 refine ⟨_,(S.trans (isV f gf)) _ _ Z.hf,Nat.lt_of_le_of_lt (by lia:_≤900) (by decide),?_⟩
 refine q _ _ ⟨_,_,_,⟨_,_,rfl⟩,Z3,⟨by show Rws.nil.deep + gs.length≤5;rw [Rws.deep];lia,⟨by unfold xA;trivial,by unfold xj;trivial,by unfold wI;trivial⟩,⟨te,fun _=>to⟩,(fun A z=>nomatch z),ok⟩,by simp,by simp;lia,?_⟩
 show yO .nil + 0 + 2 + szG gs≤_
 rw [yO];lia
theorem Wl (n1:NamesAt H0 sa ws) (n2:ws.length=2) (n3:NamesAt H0 sb us) (n4:us.length=2) (Z:FZ H0 H FR gs fs sp) (ok:okG gs) (ne:gs≠[]) (l6:gs.length≤6) (sz:szG gs≤2 * i + 2) (hi:i < 63) (q:∀ σ H',rwI p FR sa sb H0 (i + 1) σ H'→E.nx σ H') :
  vy K t E [some (.ref p),some (.ref sa),some (.ref sb),some (.ref FR),some (.int c),some (.int k)] H:=by
 simp only [vy,L2.start,zu,yf,zY,tOp,tUn,zc,tC,zb,zi,zE,wN,zm,tCB,tBM,tyV,zp,xS,ye,rEq,rI0,rU,yN,yP,List.map,List.replicate,List.length,List.append,jqa,jqb,jqc,jqd,jqe,jqf,jqg,jqh,jqi,jqj,jqk,jql,jqm,jqn,and_true,true_and,and_assoc,jqo,jqp,jqq,jqr,jqs,jqt,if_true,ite_true,jqu,ite_false,if_false]
 refine yQ (fun _=>⟨gs.length,.inl ⟨_,SqL.of Z.hf,(YJ Z).symm⟩,yQ (fun h1=>?_) fun _=>JJ n1 n2 n3 n4 Z ok ne l6 sz hi q⟩) fun _=>JJ n1 n2 n3 n4 Z ok ne l6 sz hi q
 simp only [km,xn,L2.start,zu,yf,zY,tOp,tUn,zc,tC,zb,zi,zE,wN,zm,tCB,tBM,tyV,zp,xS,ye,rEq,rI0,rU,yN,yP,List.map,List.replicate,List.length,List.append,jqa,jqb,jqc,jqd,jqe,jqf,jqg,jqh,jqi,jqj,jqk,jql,jqm,jqn,and_true,true_and,and_assoc,jqo,jqp,jqq,jqr,jqs,jqt,if_true,ite_true,jqu,ite_false,if_false]
 match gs,Z,ok,ne,l6,sz,h1 with
 | g :: h :: gs,Z,ok,ne,l6,sz,_ =>
  obtain ⟨k1,k2⟩:=Vi ok
  have a2:=(vE h.D 0).2
  have a3:szG (g :: h :: gs)=yO g.D + szA g.a + 2 + (yO h.D + szA h.a + 2 + szG gs):=rfl
  refine ⟨H0,g,h,gs,fs,sp,Z,by lia,fun fs' sp' H' Z'=>q _ _ ⟨_,fs',sp',⟨_,_,rfl⟩,Z',k1,by simp,by simp at l6 ⊢;lia,by rw [k2];lia⟩⟩
 | [g],Z,ok,ne,l6,sz,h1=>exact absurd h1 (by simp)
theorem JK (n1:NamesAt H0 sa ws) (n2:ws.length=2) (n3:NamesAt H0 sb us) (n4:us.length=2) (Z:FZ H0 H FR gs fs sp) (ok:okG gs) (ne:gs≠[]) (l6:gs.length≤6) (sz:szG gs≤2 * i + 2) (hi:i < 63) (q:∀ σ H',rwI p FR sa sb H0 (i + 1) σ H'→E.nx σ H') :
  vA K t E [some (.ref p),some (.ref sa),some (.ref sb),some (.ref FR),some (.int c),some (.int k)] H:=by
 simp only [vA,Zt,L2.start,zu,yf,zo,zY,tOp,tUn,zc,tC,yB,yb,zb,zi,zE,wN,zm,tCB,tBM,tyV,zp,xS,ye,rEq,rI0,rU,rIn,qZ,yN,yP,List.map,List.replicate,List.length,List.append,jqa,jqb,jqc,jqd,jqe,jqf,jqg,jqh,jqi,jqj,jqk,jql,jqm,jqn,and_true,true_and,and_assoc,jqo,jqp,jqq,jqr,jqs,jqt,if_true,ite_true,jqu,ite_false,if_false]
 refine ⟨by decide,fun p1 g1=>⟨_,.inr (SqT.of ze),rfl,by decide,?_⟩⟩
 have Z1:=Z.same (isV (o:=HO.tup [V.int 14,V.int 15]) p1 g1)
 clear Z
 generalize upd H p1 (HO.tup [V.int 14,V.int 15])=H1 at *
 refine yQ (fun _=>⟨gs.length,.inl ⟨_,SqL.of Z1.hf,(YJ Z1).symm⟩,yQ (fun h1=>?_) fun _=>Wl n1 n2 n3 n4 Z1 ok ne l6 sz hi q⟩) fun _=>Wl n1 n2 n3 n4 Z1 ok ne l6 sz hi q
 cases gs with
 | nil=>exact absurd rfl ne
 | cons g gs =>
  obtain ⟨f,tv,fi,cc,xs,fs',sp',e1,e2,h1,h2,h3,h4,h5,h6⟩:=Z1.fa
  have hf:=Z1.hf
  have er:fs.reverse=fs'.reverse ++ [.ref f]:=by rw [e1,List.reverse_cons]
  rw [er] at hf
  refine ⟨_,SqL.of hf,_,qp,f,rfl,_,SqL.of h1,_,rfl,?_⟩
  refine yQ (fun hn=>?_) fun _=>Wl n1 n2 n3 n4 Z1 ok ne l6 sz hi q
  simp only [ko,Zt,L2.start,zu,yf,zo,zY,tOp,tUn,zc,tC,yB,yb,zb,zi,zE,wN,zm,tCB,tBM,tyV,zp,xS,ye,rEq,rI0,rU,rIn,qZ,yN,yP,List.map,List.replicate,List.length,List.append,jqa,jqb,jqc,jqd,jqe,jqf,jqg,jqh,jqi,jqj,jqk,jql,jqm,jqn,and_true,true_and,and_assoc,jqo,jqp,jqq,jqr,jqs,jqt,if_true,ite_true,jqu,ite_false,if_false]
  have sp0:=Z1.sp_nF e2
  refine ⟨_,SqL.of hf,_,qp,f,rfl,_,SqL.of h1,_,rfl,_,SqL.of hf,_,qp,f,rfl,_,h1,1,rfl,by decide,by decide,by decide,fun d gd=>?_⟩
  have ndf:d≠f:=fun z=>by rw [z,ze] at gd;cases gd
  have d0:H1 d=none:=by rw [zk ndf] at gd;exact gd
  have nFf:FR≠f:=sp0
  have hF2:upd (upd H1 f (HO.lst ([tv,fi,V.ref cc].set 1 (.ref cc)))) d (HO.lst []) FR=some (.lst (fs'.reverse ++ [.ref f])):=by
   rw [zk (fun z=>by rw [← z,hf] at d0;cases d0),zk nFf];exact hf
  have hf2:upd (upd H1 f (HO.lst ([tv,fi,V.ref cc].set 1 (.ref cc)))) d (HO.lst []) f=some (.lst [tv,.ref cc,.ref cc]):=by
   rw [zk (Ne.symm ndf),ze];rfl
  refine ⟨_,SqL.of hF2,_,qp,f,rfl,_,hf2,2,rfl,by decide,by decide,?_⟩
  have fn:fi=.non:=by simpa using hn
  have ga:g.a=none:=by
   rcases h5 with h5 | ⟨a,ys,A,a1,a2,_⟩
   ·exact h5.1
   ·rw [fn] at a2;cases a2
  have Z2:=Z1.turn e1 e2 h1 d0 (H2:=upd (upd (upd H1 f (HO.lst ([tv,fi,V.ref cc].set 1 (.ref cc)))) d (HO.lst [])) f (HO.lst ([tv,V.ref cc,V.ref cc].set 2 (.ref d)))) (fun b o n e=>by
   rw [zk n,zk (fun z=>by rw [z,d0] at e;cases e),zk n];exact e) (by rw [ze];rfl) (by rw [zk ndf,ze])
  obtain ⟨o1,o2,o3,o4,o5⟩:=ok
  refine q _ _ ⟨_,_,_,⟨_,_,rfl⟩,Z2,⟨by show Rws.nil.deep + gs.length≤5;rw [Rws.deep];lia,⟨by unfold xA;trivial,by unfold xj;trivial,by unfold wI;trivial⟩,o3,fun A z=>?_,o5⟩,by simp,by simpa using l6,?_⟩
  ·have z:g.D=A:=Option.some.inj z
   rw [← z];exact ⟨o1,o2⟩
  ·have a3:szG (g :: gs)=yO g.D + szA g.a + 2 + szG gs:=rfl
   rw [ga] at a3
   have a4:szA none=0:=rfl
   show yO .nil + yO g.D + 2 + szG gs≤_
   rw [yO];lia
end
def whI (p FR sa sb:Addr) (H0:Hp) (N:Nat) (o3 o4:Option V) (m:Nat) (σ:St) (H':Hp):Prop:=∃ gs fs sp,σ=[some (.ref p),some (.ref sa),some (.ref sb),some (.ref FR),o3,o4]∧FZ H0 H' FR gs fs sp∧okG gs∧gs.length=m∧gs≠[]∧szG gs≤N
theorem Kc {p FR sa sb:Addr} {H0:Hp} {o3 o4:Option V} {gs:List Gm} {fs:List V} {sp:List Addr} (Z:FZ H0 H FR gs fs sp) (ok:okG gs) (ne:gs≠[]) {N:Nat} (hN:N≤34) (sz:szG gs≤N) (q:∀ v r H',Same H0 H'→RlAt (fun b=>H0 b=none) H' v r→qJ 6 r→xj r→(zD r 0).length + 2≤N→Q v H') :
  vB K t { nx:=fun _ H'=>Q .non H',rt:=Q } [some (.ref p),some (.ref sa),some (.ref sb),some (.ref FR),o3,o4] H:=by
 simp only [vB,Vx,xn,L2.start,zo,zB,zY,tOp,zc,tC,zb,zi,zm,tCB,zp,xS,ye,rI0,yN,List.map,List.replicate,List.length,List.append,jqa,jqb,jqc,jqd,jqe,jqf,jqg,jqh,jqi,jqj,jqk,jql,jqm,jqn,and_true,true_and,and_assoc,jqo,jqp,jqq,jqr,jqs,jqt,if_true,ite_true,jqu,ite_false,if_false]
 refine ⟨whI p FR sa sb H0 N o3 o4,⟨_,gs,fs,sp,rfl,Z,ok,rfl,ne,sz⟩,?_⟩
 rintro m σ H1 ⟨gs,fs,sp,rfl,Z,ok,rfl,ne,sz⟩
 simp only [L2.start,zo,zB,zY,tOp,zc,tC,zb,zi,zm,tCB,zp,xS,ye,rI0,yN,List.map,List.replicate,List.length,List.append,jqa,jqb,jqc,jqd,jqe,jqf,jqg,jqh,jqi,jqj,jqk,jql,jqm,jqn,and_true,true_and,and_assoc,jqo,jqp,jqq,jqr,jqs,jqt,if_true,ite_true,jqu,ite_false,if_false]
 refine ⟨gs.length,.inl ⟨_,SqL.of Z.hf,(YJ Z).symm⟩,yQ (fun c1=>?_) fun c1=>?_⟩
 ·match gs,Z,ok,ne,sz,c1 with
  | g :: h :: gs,Z,ok,ne,sz,_ =>
   obtain ⟨k1,k2⟩:=Vi ok
   have a2:=(vE h.D 0).2
   have a3:szG (g :: h :: gs)=yO g.D + szA g.a + 2 + (yO h.D + szA h.a + 2 + szG gs):=rfl
   refine ⟨whI p FR sa sb H0 N o3 o4 (gs.length + 1),fun σ' H' z=>⟨gs.length + 1,by simp,z⟩,H0,g,h,gs,fs,sp,Z,by lia,fun fs' sp' H' Z'=>⟨_,fs',sp',rfl,Z',k1,by simp,by simp,by rw [k2];exact sz⟩⟩
  | [g],Z,ok,ne,sz,h1=>exact absurd h1 (by simp)
 ·match gs,Z,ok,ne,sz,c1 with
  | [g],Z,ok,ne,sz,_ =>
   obtain ⟨f,tv,fi,cc,xs,fs',sp',e1,e2,h1,h2,h3,h4,h5,h6⟩:=Z.fa
   have hf:=Z.hf
   obtain ⟨rfl,rfl⟩:=h6
   subst e1
   obtain ⟨o1,o2,o3',o4',o5⟩:=ok
   obtain ⟨a0,a1⟩:=vE g.D 0
   have a3:szG [g]=yO g.D + szA g.a + 2 + 0:=rfl
   have fr:=Z.fr cc (by rw [e2];simp)
   refine ⟨_,SqL.of hf,_,rfl,f,rfl,_,SqL.of h1,_,rfl,?_⟩
   exact q (.ref cc) g.D _ Z.sm ⟨cc,xs,rfl,fr,h2,RwsAt.to _ (fun b o fz _=>fz.2.2) (fun b o _ e=>e) h3⟩ ⟨by simp at o1;lia,by lia,o2.1⟩ o2.2.1 (by lia)
  | g :: h :: gs,Z,ok,ne,sz,h1=>exact absurd (show (1:Int) < ((g :: h :: gs).length:Nat) by simp;lia) h1
  | [],Z,ok,ne,sz,h1=>exact absurd rfl ne
theorem Kd {p FR sa sb:Addr} {ws us:List Str} {H0:Hp} {ns:List Int} {gs:List Gm} {fs:List V} {sp:List Addr} (hp:H0 p=some (.lst (ns.map V.int))) (hn:ns.length≤16) (n1:NamesAt H0 sa ws) (n2:ws.length=2) (n3:NamesAt H0 sb us) (n4:us.length=2) (Z:FZ H0 H FR gs fs sp) (ok:okG gs) (ne:gs≠[]) (l6:gs.length≤6) (sz:szG gs≤2) (q:∀ v r H',Same H0 H'→RlAt (fun b=>H0 b=none) H' v r→qJ 6 r→xj r→(zD r 0).length≤40→Q v H') :
  vC K t { nx:=fun _ H'=>Q .non H',rt:=Q } [some (.ref p),some (.ref sa),some (.ref sb),some (.ref FR),none,none] H:=by
 simp only [vC,zq,Zt,L2.start,zu,yf,zo,zQ,zr,zB,zY,tOp,tUn,zc,tC,yB,yb,zb,zi,xD,zE,wN,zm,tCB,tBM,tyV,zp,xS,Zn,ye,rEq,rI,rI0,rU,rIn,qZ,yN,yP,List.map,List.replicate,List.length,List.append,jqa,jqb,jqc,jqd,jqe,jqf,jqg,jqh,jqi,jqj,jqk,jql,jqm,jqn,and_true,true_and,and_assoc,jqo,jqp,jqq,jqr,jqs,jqt,if_true,ite_true,jqu,ite_false,if_false]
 refine ⟨⟨_,SqL.of (Z.sm _ _ hp)⟩,Zb (ns.map V.int) (rwI p FR sa sb H0) ⟨gs,fs,sp,⟨_,_,rfl⟩,Z,ok,ne,l6,sz⟩ (fun i σ H' ⟨_,_,_,_,Z,_⟩=>SqL.of (Z.sm _ _ hp)) ?_ ?_⟩
 ·rintro i v σ H' hv ⟨gs,fs,sp,⟨o3,o4,rfl⟩,Z,ok,ne,l6,sz⟩
  obtain ⟨c,_,rfl⟩:=List.mem_map.mp (List.mem_of_getElem? hv)
  have hi:i < 63:=by have:=(List.getElem?_eq_some_iff.mp hv).1;rw [List.length_map] at this;lia
  simp only [Zt,L2.start,zu,yf,zo,zQ,zr,zB,zY,tOp,tUn,zc,tC,yB,yb,zb,zi,xD,zE,wN,zm,tCB,tBM,tyV,zp,xS,Zn,ye,rEq,rI,rI0,rU,rIn,qZ,yN,yP,List.map,List.replicate,List.length,List.append,jqa,jqb,jqc,jqd,jqe,jqf,jqg,jqh,jqi,jqj,jqk,jql,jqm,jqn,and_true,true_and,and_assoc,jqo,jqp,jqq,jqr,jqs,jqt,if_true,ite_true,jqu,ite_false,if_false]
  refine ⟨by decide,by decide,fun r1 H1 a1 b1 s1=>⟨by decide,by decide,fun p1 g1=>?_⟩⟩
  have Zp:=(Z.same s1).same (isV (o:=HO.tup [V.int 12,V.int 13]) p1 g1)
  exact ⟨_,.inr (SqT.of ze),rfl,by decide,yQ (fun _=>⟨gs.length,.inl ⟨_,SqL.of Zp.hf,(YJ Zp).symm⟩,yQ (fun h6=>zaL n1 n2 n3 n4 Zp ok (by lia) sz fun σ H' z=>z) fun _=>JK n1 n2 n3 n4 Zp ok ne l6 sz hi fun σ H' z=>z⟩) fun _=>JK n1 n2 n3 n4 Zp ok ne l6 sz hi fun σ H' z=>z⟩
 ·rintro σ H' ⟨gs,fs,sp,⟨o3,o4,rfl⟩,Z,ok,ne,l6,sz⟩
  rw [List.length_map] at sz
  exact Kc Z ok ne (N:=2 * ns.length + 2) (by lia) (by lia) fun v r H' z1 z2 z3 z4 z5=>q v r H' z1 z2 z3 z4 (by lia)
theorem Y1 {p:Addr} {ns:List Int} {sa sb:Addr} {ws us:List Str} (hp:H p=some (.lst (ns.map V.int))) (hn:ns.length≤16) (n1:NamesAt H sa ws) (n2:ws.length=2) (n3:NamesAt H sb us) (n4:us.length=2) (q:∀ v r H',Same H H'→RlAt (fun b=>H b=none) H' v r→qJ 6 r→xj r→(zD r 0).length≤40→Q v H') :
  jt K t { nx:=fun _ H'=>Q .non H',rt:=Q } (L2.start ["cells","slots","shelves","frames","cell","kind"] [.ref p,.ref sa,.ref sb]) H:=by
 simp only [jt,Zt,L2.start,zu,yf,zo,zQ,zr,zB,zY,tOp,tUn,zc,tC,yB,yb,zb,zi,xD,zE,wN,zm,tCB,tBM,tyV,zp,xS,Zn,ye,rEq,rI,rI0,rU,rIn,qZ,yN,yP,List.map,List.replicate,List.length,List.append,jqa,jqb,jqc,jqd,jqe,jqf,jqg,jqh,jqi,jqj,jqk,jql,jqm,jqn,and_true,true_and,and_assoc,jqo,jqp,jqq,jqr,jqs,jqt,if_true,ite_true,jqu,ite_false,if_false]
 refine ⟨by decide,fun c gc=>⟨by decide,fun f gf=>⟨by decide,fun FR gF=>?_⟩⟩⟩
 have s1:=isV (o:=HO.lst []) c gc
 have s2:=isV (o:=HO.lst [V.non,V.non,V.ref c]) f gf
 have s3:=isV (o:=HO.lst [V.ref f]) FR gF
 have nfc:f≠c:=wL ze gf
 have nF1:FR≠f:=wL ze gF
 have nF2:FR≠c:=wL (s2 _ _ ze) gF
 refine Kd (gs:=[⟨[],none,.nil⟩]) (fs:=[.ref f]) (sp:=[f,c]) hp hn n1 n2 n3 n4 ⟨s1.trans (s2.trans s3),ze,?_,by simp [nfc],by simp [nF1,nF2],fun a ha=>?_,zF (s1.trans s2) gF⟩ ⟨by simp [Rws.deep],⟨by unfold xA;trivial,by unfold xj;trivial,by unfold wI;trivial⟩,⟨(fun _ z=>nomatch z),fun z=>absurd rfl z⟩,(fun A z=>nomatch z),trivial⟩ (by simp) (by decide) (by simp [szG,yO,szA]) q
 ·exact ⟨f,.non,.non,c,[],[],[],rfl,rfl,s3 _ _ ze,(s2.trans s3) _ _ ze,by unfold RwsAt;rfl,fun n=>absurd rfl n,.inl ⟨rfl,rfl⟩,rfl,rfl⟩
 ·simp only [List.mem_cons,List.not_mem_nil,or_false] at ha
  rcases ha with rfl | rfl
  ·exact zF s1 gf
  ·exact gc
theorem YK {tm sl:Addr} {e:List V} {kvs:List (Key × V)} (F:KF K) (h1:H tm=some (.tup e)) (h2:H sl=some (.dK kvs)) (h3:TermOk e) (h4:yt kvs) (q:∀ H',Same H H'→Q (YA (rk kvs e)) H') :
  vS K t { nx:=fun _ H'=>Q .non H',rt:=Q } (L2.start ["term","slots","parts","part","other","made"] [.ref tm,.ref sl]) H:=by
 simp only [vS,jC,vK,xE,L2.start,xE,zu,yR,yf,XL,zo,zQ,zr,zB,zY,zv,tOp,zc,tC,yB,yb,zb,zi,xD,zE,zm,tB,tCB,tBM,qy,tyV,zp,XC,ye,rIn,wX,List.map,List.replicate,List.length,List.append,jqa,jqb,jqc,jqd,jqe,jqf,jqg,jqh,jqi,jqj,jqk,jql,jqm,jqn,and_true,true_and,and_assoc,jqo,jqp,jqq,jqr,jqs,jqt,if_true,ite_true,jqu,ite_false,if_false]
 refine ⟨by decide,fun l hl=>⟨⟨_,SqT.of (isV l hl _ _ h1)⟩,?_⟩⟩
 have G:=h3.good kvs
 have run0:=G.1 []
 have ns:x9 kvs e []≠.error .stuck:=fun z=>by
  rw [z] at run0
  cases r:rk kvs e with
  | ok i=>rw [r] at run0;cases run0
  | error e'=>rw [r] at run0;cases run0;exact G.2 r
 refine Yl e (rkI kvs e tm sl l H) ⟨[],⟨_,_,_,rfl⟩,rfl,(fun x z=>nomatch z),Nat.le_refl _,ze,isV l hl⟩ (fun i σ H' ⟨st,a,b,c,dd,ee,s⟩=>SqT.of (s _ _ h1)) ?_ ?_
 ·rintro i v σ H' hv ⟨st,⟨o3,o4,o5,rfl⟩,hr,hW,hl',hst,hS⟩
  have hi:i < e.length:=(List.getElem?_eq_some_iff.mp hv).1
  have le:=h3.2.2
  have one:=Jq hr hv
  have ok:=h3.2.1 v (List.mem_of_getElem? hv)
  have fl:kI v=true:=by rcases ok with ⟨j,rfl,_⟩ | ⟨x,rfl,_⟩ <;> rfl
  simp only [vK,xE,L2.start,xE,zu,yR,yf,XL,zo,zQ,zr,zB,zY,zv,tOp,zc,tC,yB,yb,zb,zi,xD,zE,zm,tB,tCB,tBM,qy,tyV,zp,XC,ye,rIn,wX,List.map,List.replicate,List.length,List.append,jqa,jqb,jqc,jqd,jqe,jqf,jqg,jqh,jqi,jqj,jqk,jql,jqm,jqn,and_true,true_and,and_assoc,jqo,jqp,jqq,jqr,jqs,jqt,if_true,ite_true,jqu,ite_false,if_false]
  refine ⟨by decide,fun p hp=>⟨jw,.inr (SqT.of ze),fl,rfl,?_⟩⟩
  have s1:=isV (o:=HO.tup [V.str (Str.ofString "plus"),V.str (Str.ofString "minus"),V.str (Str.ofString "times"),V.str (Str.ofString "over"),V.str (Str.ofString "rest"),V.str (Str.ofString "under"),V.str (Str.ofString "same")]) p hp
  have hst1:=s1 _ _ hst
  have hS1:=hS.trans s1
  have hl1:∀ b u,H b=some u→b≠l:=fun b u z y=>by rw [y,hl] at z;cases z
  generalize upd H' p (HO.tup [V.str (Str.ofString "plus"),V.str (Str.ofString "minus"),V.str (Str.ofString "times"),V.str (Str.ofString "over"),V.str (Str.ofString "rest"),V.str (Str.ofString "under"),V.str (Str.ofString "same")])=H1 at *
  refine yQ (fun c=>?_) fun c=>?_
  ·rcases Qz st with ⟨ll,a,b,rfl⟩ | z
   ·obtain ⟨x,rfl,hx⟩:∃ x:Str,v=.str x∧x.length≤1000:=by
     rcases ok with ⟨j,rfl,_⟩ | h
     ·exact absurd c (by rw [show inV (V.int j) jw=false from rfl];decide)
     ·exact h
    have e1:List.map V.int (ll ++ [a,b])=(ll.map V.int ++ [.int a]) ++ [.int b]:=by simp
    rw [e1] at hst1
    have one':=one.trans (W7 c)
    have wa:=hW a (by simp)
    have wb:=hW b (by simp)
    refine ⟨.inl ⟨_,SqL.of hst1⟩,_,hst1,_,kq,.inl ⟨_,SqL.of ze⟩,_,by rw [wA];exact ze,_,kq,a,rfl,b,rfl,x,rfl,c,wa,wb,fun H2 s2=>?_⟩
    rw [wA,wA] at s2
    have S2:Same H H2:=(yL (yL hS1 hl) hl).trans s2
    cases ej:yM x a b with
    | ok dd =>
     rw [ej] at one'
     have hd:inW dd=true:=by
      unfold yM at ej
      split at ej
      ·cases ej
      ·split at ej
       ·rename_i z;cases ej;exact z
       ·cases ej
     refine ⟨_,.int dd,false,F.i_s,?_⟩
     rw [if_neg (by decide)]
     refine ⟨.inl ⟨_,SqL.of (s2 _ _ ze)⟩,_,s2 _ _ ze,?_,ll ++ [dd],⟨_,_,_,rfl⟩,one',?_,?_,?_,yL S2 hl⟩
     ·rw [List.length_map]
      have:(ll ++ [a,b]).length=ll.length + 2:=by simp
      exact Nat.lt_of_le_of_lt (by lia:ll.length≤1000) (by decide)
     ·intro y hy
      rcases List.mem_append.mp hy with h | h
      ·exact hW y (List.mem_append_left _ h)
      ·have:y=dd:=by simpa using h
       rw [this];exact hd
     ·have:(ll ++ [a,b]).length=ll.length + 2:=by simp
      rw [List.length_append];show ll.length + 1≤i + 1
      lia
     ·rw [List.map_append];exact ze
    | error er =>
     rw [ej] at one'
     have er':rk kvs e=.error er:=by
      have z:=ZS one'
      rw [z] at run0
      cases r:rk kvs e with
      | ok i=>rw [r] at run0;cases run0
      | error e2=>rw [r] at run0;cases run0;rfl
     refine ⟨_,.str _,true,vD "str",?_⟩
     rw [if_pos rfl]
     rw [er'] at q
     exact q H2 S2
   ·exact absurd (ZS (one.trans (z kvs v c))) ns
  ·have st1:xI kvs st v=.ok (st ++ [Yq kvs v]):=by
    unfold xI
    rw [if_neg (by unfold isJ;exact c)]
   have one':=one.trans st1
   have hwv:=Yr h4 ok
   have fin1:∀ u,u=V.int (Yq kvs v)→rkI kvs e tm sl l H (i + 1) [some (V.ref tm),some (V.ref sl),some (V.ref l),some v,o4,o5] (upd H1 l (HO.lst (List.map V.int st ++ [u]))):=fun u hu=>by
    subst hu
    refine ⟨st ++ [Yq kvs v],⟨_,_,_,rfl⟩,one',?_,?_,?_,yL hS1 hl⟩
    ·intro y hy
     rcases List.mem_append.mp hy with h | h
     ·exact hW y h
     ·have:y=Yq kvs v:=by simpa using h
      rw [this];exact hwv
    ·rw [List.length_append];show st.length + 1≤i + 1
     lia
    ·rw [List.map_append];exact ze
   have sz:(List.map V.int st).length < sizeLine:=by
    rw [List.length_map]
    exact Nat.lt_of_le_of_lt (by lia:st.length≤1000) (by decide)
   have hs1:=hS1 _ _ h2
   rcases ok with ⟨j,rfl,hj⟩ | ⟨x,rfl,hx⟩
   ·refine ⟨_,.int j,true,vD "int",?_⟩
    rw [if_pos rfl]
    exact ⟨.inl ⟨_,SqL.of hst1⟩,_,hst1,sz,fin1 _ rfl⟩
   ·refine ⟨_,.str x,false,F.s_i,?_⟩
    rw [if_neg (by decide)]
    refine ⟨.inl ⟨_,SqL.of hst1⟩,.inl ⟨_,.inl hs1⟩,_,DGet.k (k:=.inr x) hs1,_,hst1,sz,fin1 _ ?_⟩
    show (yo kvs (.inr x)).getD (V.int 0)=V.int (match yo kvs (.inr x) with | some (.int i)=>i | _=>0)
    cases e:yo kvs (.inr x) with
    | none=>rfl
    | some u =>
     obtain ⟨i,rfl,_⟩:=h4 _ _ e
     rfl
 ·rintro σ H' ⟨st,⟨o3,o4,o5,rfl⟩,hr,hW,hl',hst,hS⟩
  rw [List.take_length] at hr
  simp only [xE,L2.start,xE,zu,yR,yf,XL,zo,zQ,zr,zB,zY,zv,tOp,zc,tC,yB,yb,zb,zi,xD,zE,zm,tB,tCB,tBM,qy,tyV,zp,XC,ye,rIn,wX,List.map,List.replicate,List.length,List.append,jqa,jqb,jqc,jqd,jqe,jqf,jqg,jqh,jqi,jqj,jqk,jql,jqm,jqn,and_true,true_and,and_assoc,jqo,jqp,jqq,jqr,jqs,jqt,if_true,ite_true,jqu,ite_false,if_false]
  rw [hr] at run0
  cases r:rk kvs e with
  | error e'=>rw [r] at run0;cases run0
  | ok i =>
   rw [r] at run0
   have es:st=[i]:=by injection run0
   subst es
   rw [r] at q
   exact ⟨_,SqL.of hst,_,rfl,q H' hS⟩
section
variable {d:Addr} {a:LAd} {s:RSt} {kn:List Row}
theorem LwAt.same {H':Hp} (L:LwAt H d a s kn) (k:Same H H'):LwAt H' d a s kn :=
 ⟨k _ _ L.id,k _ _ L.hs,k _ _ L.hk,k _ _ L.hg,qN L.hn k,k _ _ L.ha,L.n1,L.n2,L.n3,L.kk,L.kl⟩
theorem LwAt.notup {b:Addr} {zs:List V} (L:LwAt H d a s kn) (h:H b=some (.tup zs)):¬ LOw d a b:=by
 rintro (rfl | rfl | rfl | rfl | rfl | rfl)
 ·rw [L.id] at h;cases h
 ·rw [L.hs] at h;cases h
 ·rw [L.hk] at h;cases h
 ·rw [L.hg] at h;cases h
 ·obtain ⟨xs,e,_⟩:=L.hn;rw [e] at h;cases h
 ·rw [L.ha] at h;cases h
theorem LwAt.keep {H':Hp} (L:LwAt H d a s kn) (k:∀ b o,LOw d a b→H b=some o→H' b=some o) (ts:TSm H H'):LwAt H' d a s kn :=
 ⟨k _ _ (.inl rfl) L.id,k _ _ (.inr (.inl rfl)) L.hs,k _ _ (.inr (.inr (.inl rfl))) L.hk,k _ _ (.inr (.inr (.inr (.inl rfl)))) L.hg,Xx L.hn (fun o e=>k _ _ (.inr (.inr (.inr (.inr (.inl rfl))))) e) ts,k _ _ (.inr (.inr (.inr (.inr (.inr rfl))))) L.ha,L.n1,L.n2,L.n3,L.kk,L.kl⟩
theorem y0 {b:Addr} {o:HO} (h:LOw d a b):LKp d a H (upd H b o):=fun c o' n e=>by rw [zk (fun z=>n (by rw [z];exact h))];exact e
theorem LKp.of_same {H':Hp} (s:Same H H'):LKp d a H H':=fun b o _ e=>s b o e
theorem LKp.trans {H' H'':Hp} (h:LKp d a H H') (k:LKp d a H' H''):LKp d a H H'':=fun b o n e=>k b o n (h b o n e)
theorem LwAt.ts {H':Hp} (L:LwAt H d a s kn) (k:LKp d a H H'):TSm H H':=fun b ys e=>k b _ (L.notup e) e
theorem LwAt.putS (L:LwAt H d a s kn) (kvs:List (Key × V)):LwAt (upd H a.sl (.dK kvs)) d a { s with sl:=kvs } kn:=by
 obtain ⟨xs,hn,pn⟩:=L.hn
 exact ⟨by rw [zk L.n3];exact L.id,ze,by rw [zk (zS L.hk L.hs (fun z=>nomatch z))];exact L.hk,by rw [zk (zS L.hg L.hs (fun z=>nomatch z))];exact L.hg,Xx ⟨xs,hn,pn⟩ (fun o e=>by rw [zk (zS hn L.hs (fun z=>nomatch z))];exact e) (L.ts (y0 (.inr (.inl rfl)))),by rw [zk (zS L.ha L.hs (fun z=>nomatch z))];exact L.ha,L.n1,L.n2,L.n3,L.kk,L.kl⟩
theorem LwAt.putA (L:LwAt H d a s kn) (is:List Int):LwAt (upd H a.sa (.lst (is.map V.int))) d a { s with sa:=is } kn:=by
 obtain ⟨xs,hn,pn⟩:=L.hn
 exact ⟨by rw [zk (zS L.id L.ha (fun z=>nomatch z))];exact L.id,by rw [zk (zS L.hs L.ha (fun z=>nomatch z))];exact L.hs,by rw [zk (zS L.hk L.ha (fun z=>nomatch z))];exact L.hk,by rw [zk (zS L.hg L.ha (fun z=>nomatch z))];exact L.hg,Xx ⟨xs,hn,pn⟩ (fun o e=>by rw [zk L.n2];exact e) (L.ts (y0 (.inr (.inr (.inr (.inr (.inr rfl))))))),ze,L.n1,L.n2,L.n3,L.kk,L.kl⟩
theorem qO {l:List Row} {p q:Pl} {w:Int}:zI (l ++ [(p,w)]) q=if p=q then some w else zI l q:=by
 have h:=xt (l ++ [(p,w)]) q
 rw [vi,qz] at h
 by_cases c:p=q
 ·subst c
  exact (qo l p w).trans (if_pos rfl).symm
 ·rw [if_neg (fun z=>c (w6 z).symm)] at h
  rw [if_neg c]
  have h2:=xt l q
  rw [h2] at h
  cases e1:zI l q with
  | none =>
   rw [e1] at h
   cases e2:zI (l ++ [(p,w)]) q with
   | none=>rfl
   | some i=>rw [e2] at h;cases h
  | some i =>
   rw [e1] at h
   cases e2:zI (l ++ [(p,w)]) q with
   | none=>rw [e2] at h;cases h
   | some j=>rw [e2] at h;cases h;rfl
theorem LwAt.give {p:Pl} {i:Int} (L:LwAt H d a s kn):LwAt (upd (upd H a.kn (.dT (dOf (kn ++ [(p,i)])))) a.gi (.dT (dOf (s.gi ++ [(p,i)])))) d a { s with gi:=s.gi ++ [(p,i)] } (kn ++ [(p,i)]):=by
 obtain ⟨xs,hn,pn⟩:=L.hn
 refine ⟨by rw [zk (zS L.id L.hg (fun z=>nomatch z)),zk (zS L.id L.hk (fun z=>nomatch z))];exact L.id,by rw [zk (zS L.hs L.hg (fun z=>nomatch z)),zk (zS L.hs L.hk (fun z=>nomatch z))];exact L.hs,by rw [zk L.n1];exact ze,ze,Xx ⟨xs,hn,pn⟩ (fun o e=>by rw [zk (zS hn L.hg (fun z=>nomatch z)),zk (zS hn L.hk (fun z=>nomatch z))];exact e) (L.ts ((y0 (.inr (.inr (.inl rfl)))).trans (y0 (.inr (.inr (.inr (.inl rfl))))))),by rw [zk (zS L.ha L.hg (fun z=>nomatch z)),zk (zS L.ha L.hk (fun z=>nomatch z))];exact L.ha,L.n1,L.n2,L.n3,fun q=>?_,?_⟩
 ·rw [qO]
  show _=(zI (s.gi ++ [(p,i)]) q).or (zI s.no q)
  rw [qO]
  by_cases c:p=q
  ·rw [if_pos c,if_pos c];rfl
  ·rw [if_neg c,if_neg c];exact L.kk q
 ·have:=L.kl
  show (kn ++ [(p,i)]).length≤(s.gi ++ [(p,i)]).length + s.no.length
  simp only [List.length_append,List.length_singleton]
  lia
theorem LwAt.put (L:LwAt H d a s kn) (n:Nat) (w:Option Str):LwAt (upd H d (.dK (lwK a n w))) d a { s with n:=n,why:=w } kn:=by
 obtain ⟨xs,hn,pn⟩:=L.hn
 exact ⟨ze,by rw [zk (Ne.symm L.n3)];exact L.hs,by rw [zk (zS L.hk L.id (fun z=>nomatch z))];exact L.hk,by rw [zk (zS L.hg L.id (fun z=>nomatch z))];exact L.hg,Xx ⟨xs,hn,pn⟩ (fun o e=>by rw [zk (zS hn L.id (fun z=>nomatch z))];exact e) (L.ts (y0 (.inl rfl))),by rw [zk (zS L.ha L.id (fun z=>nomatch z))];exact L.ha,L.n1,L.n2,L.n3,L.kk,L.kl⟩
theorem zbz (n:Nat) (w:Option Str) (y:Str):yJ (lwK a n w) (.inr (Str.ofString "why")) (.str y)=lwK a n (some y):=by with_unfolding_all rfl
theorem zb2 (n m:Nat) (w:Option Str):yJ (lwK a n w) (.inr (Str.ofString "at")) (.int m)=lwK a m w:=by with_unfolding_all rfl
theorem LwAt.dW (L:LwAt H d a s kn) (y:Str):DPut H d (.str (Str.ofString "why")) (.str y) (upd H d (.dK (lwK a s.n (some y)))):=by
 rw [← zbz (a:=a) s.n s.why y]
 exact DPut.k (k:=.inr (Str.ofString "why")) L.id (Nat.lt_of_le_of_lt (show 7≤900 by decide) (by decide))
theorem LwAt.dA (L:LwAt H d a s kn) (m:Nat):DPut H d (.str (Str.ofString "at")) (.int m) (upd H d (.dK (lwK a m s.why))):=by
 rw [← zb2 (a:=a) s.n m s.why]
 exact DPut.k (k:=.inr (Str.ofString "at")) L.id (Nat.lt_of_le_of_lt (show 7≤900 by decide) (by decide))
theorem LwAt.gT (L:LwAt H d a s kn):DGet H d (.str (Str.ofString "at")) (some (.int s.n)):=by
 have e:yo (lwK a s.n s.why) (.inr (Str.ofString "at"))=some (.int s.n):=by with_unfolding_all rfl
 rw [← e];exact DGet.k (k:=.inr (Str.ofString "at")) L.id
theorem LwAt.gS (L:LwAt H d a s kn):DGet H d (.str (Str.ofString "slots")) (some (.ref a.sl)):=by
 have e:yo (lwK a s.n s.why) (.inr (Str.ofString "slots"))=some (.ref a.sl):=by with_unfolding_all rfl
 rw [← e];exact DGet.k (k:=.inr (Str.ofString "slots")) L.id
theorem LwAt.gK (L:LwAt H d a s kn):DGet H d (.str (Str.ofString "known")) (some (.ref a.kn)):=by
 have e:yo (lwK a s.n s.why) (.inr (Str.ofString "known"))=some (.ref a.kn):=by with_unfolding_all rfl
 rw [← e];exact DGet.k (k:=.inr (Str.ofString "known")) L.id
theorem LwAt.gG (L:LwAt H d a s kn):DGet H d (.str (Str.ofString "given")) (some (.ref a.gi)):=by
 have e:yo (lwK a s.n s.why) (.inr (Str.ofString "given"))=some (.ref a.gi):=by with_unfolding_all rfl
 rw [← e];exact DGet.k (k:=.inr (Str.ofString "given")) L.id
theorem LwAt.gN (L:LwAt H d a s kn):DGet H d (.str (Str.ofString "notes")) (some (.ref a.no)):=by
 have e:yo (lwK a s.n s.why) (.inr (Str.ofString "notes"))=some (.ref a.no):=by with_unfolding_all rfl
 rw [← e];exact DGet.k (k:=.inr (Str.ofString "notes")) L.id
theorem LwAt.gA (L:LwAt H d a s kn):DGet H d (.str (Str.ofString "said")) (some (.ref a.sa)):=by
 have e:yo (lwK a s.n s.why) (.inr (Str.ofString "said"))=some (.ref a.sa):=by with_unfolding_all rfl
 rw [← e];exact DGet.k (k:=.inr (Str.ofString "said")) L.id
theorem LwAt.gW (L:LwAt H d a s kn):DGet H d (.str (Str.ofString "why")) (some (.str (J5 s.why))):=by
 have e:yo (lwK a s.n s.why) (.inr (Str.ofString "why"))=some (.str (J5 s.why)):=by with_unfolding_all rfl
 rw [← e];exact DGet.k (k:=.inr (Str.ofString "why")) L.id
end
theorem LwAt.note {H4:Hp} {d r q:Addr} {a:LAd} {s:RSt} {kn:List Row} {p:Pl} {w:Int} {xs:List V} (L:LwAt H d a s kn) (hg:zI s.gi p=none) (hn:zI s.no p=none) (hx:H a.no=some (.lst xs)) (px:Paired (kC H) xs s.no) (s4:Same (upd H a.kn (.dT (dOf (kn ++ [(p,w)])))) H4) (hr:H4 r=some (.tup [.ref q,.int w])) (hq:H4 q=some (.tup [.str p.1,.int p.2])) :
  LwAt (upd H4 a.no (.lst (xs ++ [.ref r]))) d a { s with no:=s.no ++ [(p,w)] } (kn ++ [(p,w)]):=by
 have nk:a.kn≠a.no:=zS L.hk hx (fun z=>nomatch z)
 have f:∀ {b:Addr} {o:HO},H b=some o→b≠a.kn→b≠a.no→upd H4 a.no (.lst (xs ++ [.ref r])) b=some o:=fun e n1 n2=>by rw [zk n2];exact s4 _ _ (by rw [zk n1];exact e)
 have h4n:H4 a.no=some (.lst xs):=s4 _ _ (by rw [zk (Ne.symm nk)];exact hx)
 have ts:TSm H (upd H4 a.no (.lst (xs ++ [.ref r]))):=fun b ys e=>f e (zS e L.hk (fun z=>nomatch z)) (zS e hx (fun z=>nomatch z))
 refine ⟨f L.id (zS L.id L.hk (fun z=>nomatch z)) (zS L.id hx (fun z=>nomatch z)),f L.hs (zS L.hs L.hk (fun z=>nomatch z)) (zS L.hs hx (fun z=>nomatch z)),by rw [zk nk];exact s4 _ _ ze,f L.hg (Ne.symm L.n1) (zS L.hg hx (fun z=>nomatch z)),⟨_,ze,?_⟩,f L.ha (zS L.ha L.hk (fun z=>nomatch z)) (Ne.symm L.n2),L.n1,L.n2,L.n3,fun z=>?_,?_⟩
 ·exact Paired.snocP (Paired.mapP px fun _ _ ⟨r,p,e1,e2,e3⟩=>⟨r,p,e1,ts _ _ e2,ts _ _ e3⟩) ⟨r,q,rfl,YC h4n _ _ hr,YC h4n _ _ hq⟩
 ·rw [qO]
  show _=(zI s.gi z).or (zI (s.no ++ [(p,w)]) z)
  rw [qO]
  by_cases c:p=z
  ·rw [if_pos c,if_pos c,← c,hg];rfl
  ·rw [if_neg c,if_neg c];exact L.kk z
 ·have:=L.kl
  show (kn ++ [(p,w)]).length≤s.gi.length + (s.no ++ [(p,w)]).length
  simp only [List.length_append,List.length_singleton]
  lia
section
variable {v:V} {d:Addr} {w i j:Int} {c:Cs} {a:LAd} {s:RSt} {kn:List Row} {m:Nat}
theorem ZL (F:KF K) (h1:CsAt H v c) (h2:jW c) (L:LwAt H d a s kn) (h4:yt s.sl) (q1:∀ H',wJ c s=none→Same H H'→Q .non H') (q2:∀ p q H',wJ c s=some p→Same H H'→H' q=some (.tup [.str p.1,.int p.2])→Q (.ref q) H') :
  vp K t { nx:=fun _ H'=>Q .non H',rt:=Q } (L2.start ["step","state","number"] [v,.ref d]) H:=by
 obtain ⟨p,zs,hd,rfl,hp,h0,ht,hnt⟩:=Wc h1
 simp only [vp,yz,Zd,yh,L2.start,zT,zo,zQ,zr,zB,zv,tOp,zc,tC,yb,zb,zi,zE,tOr,zm,tB,tCB,zp,zT,rNe,wX,yP,List.map,List.replicate,List.length,List.append,jqa,jqb,jqc,jqd,jqe,jqf,jqg,jqh,jqi,jqj,jqk,jql,jqm,jqn,and_true,true_and,and_assoc,jqo,jqp,jqq,jqr,jqs,jqt,if_true,ite_true,jqu,ite_false,if_false]
 refine ⟨_,SqT.of hp,_,h0,rfl,?_⟩
 by_cases hh:hd=Str.ofString "take"
 case neg =>
  rw [if_pos (fun z=>hh (V.str.inj z))]
  exact q1 H (hnt hh s) fun _ _ e=>e
 rw [if_neg (fun z=>z (congrArg V.str hh))]
 obtain ⟨sh,e,sl,te,rfl,a1,a2,ht⟩:=ht hh
 refine ⟨_,SqT.of hp,_,a2,_,L.gS,te,rfl,_,rfl,e,ht,_,L.hs,h2,h4,fun H1 s1=>?_⟩
 cases hk:rk s.sl e with
 | error er =>
  refine ⟨_,.str _,true,vD "str",?_⟩
  rw [if_pos rfl]
  exact q1 H1 (by simp only [wJ,hk]) s1
 | ok n =>
  simp only [YA]
  refine ⟨_,.int n,false,F.i_s,?_⟩
  rw [if_neg (by decide)]
  refine ⟨_,SqT.of (s1 _ _ hp),_,a1,by decide,fun q0 hq0=>?_⟩
  have s2:=isV (o:=HO.tup [V.str sh,V.int n]) q0 hq0
  have hq2:upd H1 q0 (HO.tup [V.str sh,V.int n]) q0=some (.tup [V.str sh,V.int n]):=ze
  generalize upd H1 q0 (HO.tup [V.str sh,V.int n])=H2 at *
  have M2:=L.same (s1.trans s2)
  refine ⟨_,M2.gK,_,rfl,_,.inr ⟨dOf kn,zZ (sh,n),q0,.inl M2.hk,rfl,hq2,rfl⟩,?_⟩
  rw [xt,L.kk]
  have ea:wJ (.row (.take sh e sl)) s=if (zI s.gi (sh,n)).isSome=true∨(zI s.no (sh,n)).isSome=true then none else some (sh,n):=by simp only [wJ,hk]
  rw [ea] at q1 q2
  cases hg:zI s.gi (sh,n) with
  | some i =>
   rw [if_pos (by rfl)]
   exact q1 _ (if_pos (.inl (by rw [hg];rfl))) (s1.trans s2)
  | none =>
   cases hn:zI s.no (sh,n) with
   | some i =>
    rw [if_pos (by rfl)]
    exact q1 _ (if_pos (.inr (by rw [hn];rfl))) (s1.trans s2)
   | none =>
    rw [if_neg (by decide)]
    refine ⟨_,SqT.of ((s1.trans s2) _ _ hp),_,a1,by decide,fun q3 hq3=>?_⟩
    exact q2 (sh,n) q3 _ (if_neg (by rw [hg,hn];simp)) (s1.trans (s2.trans (isV q3 hq3))) ze
theorem YL (h1:CsAt H v c) (L:LwAt H d a s kn) (R:RnOk m s) (hm:m≤40) (q:∀ kn' H',LKp d a H H'→LwAt H' d a (ZG c i j w s) kn'→Q .non H') :
  vT K t { nx:=fun _ H'=>Q .non H',rt:=Q } (L2.start ["step","first","second","state","answer","place"] [v,.int i,.int j,.ref d,.int w]) H:=by
 obtain ⟨p0,zs0,hd0,rfl,hp0,h00,_,_⟩:=Wc h1
 simp only [vT,yK,Zd,yh,L2.start,zu,yf,zT,zo,zQ,zr,zY,zv,tOp,zc,tC,yb,zb,zi,zE,zm,tBM,tyV,zT,rEq,yP,List.map,List.replicate,List.length,List.append,jqa,jqb,jqc,jqd,jqe,jqf,jqg,jqh,jqi,jqj,jqk,jql,jqm,jqn,and_true,true_and,and_assoc,jqo,jqp,jqq,jqr,jqs,jqt,if_true,ite_true,jqu,ite_false,if_false]
 have l1:=R.l1
 have l2:=R.l2
 have l3:=R.l3
 have l4:=R.l4
 have kl:=L.kl
 have ln:(dOf kn).length≤900:=by have:=jk kn;lia
 have lg:(dOf s.gi).length≤900:=by have:=jk s.gi;lia
 have big:∀ {n:Nat},n≤900→n < sizeLine:=fun h=>Nat.lt_of_le_of_lt h (by decide)
 have nil:ZG c i j w s=s→Q .non H:=fun e=>q kn H (fun _ _ _ e=>e) (by rw [e];exact L)
 have no:∀ {x y:Str},x≠y→¬ V.str x=V.str y:=fun h z=>h (V.str.inj z)
 cases c with
 | go en =>
  obtain ⟨p',ep,e2⟩:=h1
  cases ep
  refine ⟨_,SqT.of e2,_,rfl,rfl,?_⟩
  rw [if_neg (no (by decide +kernel))]
  refine ⟨_,SqT.of e2,_,rfl,rfl,?_⟩
  rw [if_neg (no (by decide +kernel))]
  refine ⟨_,SqT.of e2,_,rfl,rfl,?_⟩
  rw [if_neg (no (by decide +kernel))]
  refine ⟨_,SqT.of e2,_,rfl,rfl,?_⟩
  rw [if_neg (no (by decide +kernel))]
  exact nil rfl
 | skip e to =>
  obtain ⟨p',te,ep,e2,e3⟩:=h1
  cases ep
  refine ⟨_,SqT.of e2,_,rfl,rfl,?_⟩
  rw [if_neg (no (by decide +kernel))]
  refine ⟨_,SqT.of e2,_,rfl,rfl,?_⟩
  rw [if_neg (no (by decide +kernel))]
  refine ⟨_,SqT.of e2,_,rfl,rfl,?_⟩
  rw [if_neg (no (by decide +kernel))]
  refine ⟨_,SqT.of e2,_,rfl,rfl,?_⟩
  rw [if_neg (no (by decide +kernel))]
  exact nil rfl
 | row r =>
 have h1:=h1
 obtain ⟨h1,hni⟩:=h1
 cases r with
 | iff e x y=>exact hni.elim
 | off e =>
  unfold RwAt at h1;obtain ⟨p',te,ep,_,_,e2,e3⟩:=h1
  cases ep
  refine ⟨_,SqT.of e2,_,rfl,rfl,?_⟩
  rw [if_neg (no (by decide +kernel))]
  refine ⟨_,SqT.of e2,_,rfl,rfl,?_⟩
  rw [if_neg (no (by decide +kernel))]
  refine ⟨_,SqT.of e2,_,rfl,rfl,?_⟩
  rw [if_neg (no (by decide +kernel))]
  refine ⟨_,SqT.of e2,_,rfl,rfl,?_⟩
  rw [if_neg (no (by decide +kernel))]
  exact nil rfl
 | say e =>
  unfold RwAt at h1;obtain ⟨p',te,ep,_,_,e2,e3⟩:=h1
  cases ep
  refine ⟨_,SqT.of e2,_,rfl,rfl,?_⟩
  rw [if_neg (no (by decide +kernel))]
  refine ⟨_,SqT.of e2,_,rfl,rfl,?_⟩
  rw [if_neg (no (by decide +kernel))]
  refine ⟨_,SqT.of e2,_,rfl,rfl,?_⟩
  rw [if_neg (no (by decide +kernel))]
  refine ⟨_,SqT.of e2,_,rfl,rfl,?_⟩
  rw [if_pos (by rfl)]
  have L1:=L.putA (s.sa ++ [i])
  rw [List.map_append] at L1
  exact ⟨_,L.gA,.inl ⟨_,SqL.of L.ha⟩,_,rfl,_,L.ha,big (by rw [List.length_map];lia),q kn _ (y0 (.inr (.inr (.inr (.inr (.inr rfl)))))) L1⟩
 | lt x e =>
  unfold RwAt at h1;obtain ⟨p',te,ep,_,_,e2,e3⟩:=h1
  cases ep
  refine ⟨_,SqT.of e2,_,rfl,rfl,?_⟩
  rw [if_neg (no (by decide +kernel))]
  refine ⟨_,SqT.of e2,_,rfl,rfl,?_⟩
  rw [if_neg (no (by decide +kernel))]
  refine ⟨_,SqT.of e2,_,rfl,rfl,?_⟩
  rw [if_pos (by rfl)]
  exact ⟨_,L.gS,_,SqT.of e2,_,rfl,_,rfl,_,DPut.k (k:=.inr x) L.hs (big (by lia)),q kn _ (y0 (.inr (.inl rfl))) (L.putS _)⟩
 | give sh e f =>
  unfold RwAt at h1;obtain ⟨p',te,tf,ep,_,_,_,e2,e3,e4⟩:=h1
  cases ep
  refine ⟨_,SqT.of e2,_,rfl,rfl,?_⟩
  rw [if_neg (no (by decide +kernel))]
  refine ⟨_,SqT.of e2,_,rfl,rfl,?_⟩
  rw [if_pos (by rfl)]
  refine ⟨_,L.gK,_,SqT.of e2,_,rfl,by decide,fun q0 hq0=>?_⟩
  have s1:=isV (o:=HO.tup [V.str sh,V.int i]) q0 hq0
  have hq:upd H q0 (HO.tup [V.str sh,V.int i]) q0=some (.tup [V.str sh,V.int i]):=ze
  generalize upd H q0 (HO.tup [V.str sh,V.int i])=H1 at *
  have L1:=L.same s1
  have ep:yJ (dOf s.gi) (zZ (sh,i)) (V.int j)=dOf (s.gi ++ [((sh,i),j)]):=(vi s.gi ((sh,i),j)).symm
  have ek:yJ (dOf kn) (zZ (sh,i)) (V.int j)=dOf (kn ++ [((sh,i),j)]):=(vi kn ((sh,i),j)).symm
  have D:=DPut.t (k:=zZ (sh,i)) (v:=V.int j) L1.hk hq (big ln)
  rw [ek] at D
  refine ⟨_,rfl,_,D,?_⟩
  have K4:LKp d a H1 (upd H1 a.kn (.dT (dOf (kn ++ [((sh,i),j)])))):=y0 (.inr (.inr (.inl rfl)))
  have i4:upd H1 a.kn (.dT (dOf (kn ++ [((sh,i),j)]))) d=some (.dK (lwK a s.n s.why)):=by rw [zk (zS L1.id L1.hk (fun z=>nomatch z))];exact L1.id
  have g4:upd H1 a.kn (.dT (dOf (kn ++ [((sh,i),j)]))) a.gi=some (.dT (dOf s.gi)):=by rw [zk (Ne.symm L1.n1)];exact L1.hg
  have e24:=K4 _ _ (L1.notup (s1 _ _ e2)) (s1 _ _ e2)
  have G4:=L1.give (p:=(sh,i)) (i:=j)
  generalize upd H1 a.kn (.dT (dOf (kn ++ [((sh,i),j)])))=H4 at *
  have eg:yo (lwK a s.n s.why) (.inr (Str.ofString "given"))=some (.ref a.gi):=by with_unfolding_all rfl
  refine ⟨_,by rw [← eg];exact DGet.k (k:=.inr (Str.ofString "given")) i4,_,SqT.of e24,_,rfl,by decide,fun q5 hq5=>?_⟩
  have s5:=isV (o:=HO.tup [V.str sh,V.int i]) q5 hq5
  have h5:upd H4 q5 (HO.tup [V.str sh,V.int i]) q5=some (.tup [V.str sh,V.int i]):=ze
  have D2:=DPut.t (k:=zZ (sh,i)) (v:=V.int j) (s5 _ _ g4) h5 (big lg)
  rw [ep] at D2
  have G5:LwAt (upd (upd H4 q5 (HO.tup [V.str sh,V.int i])) a.gi (.dT (dOf (s.gi ++ [((sh,i),j)])))) d a { s with gi:=s.gi ++ [((sh,i),j)] } (kn ++ [((sh,i),j)]):=by
   refine G4.same fun b o e=>?_
   by_cases c:b=a.gi
   ·rw [c,ze] at e ⊢;exact e
   ·rw [zk c] at e ⊢;exact s5 _ _ e
  exact ⟨_,rfl,_,D2,q _ _ ((LKp.of_same s1).trans (K4.trans ((LKp.of_same s5).trans (y0 (.inr (.inr (.inr (.inl rfl)))))))) G5⟩
 | take sh e x =>
  unfold RwAt at h1;obtain ⟨p',te,ep,_,_,e2,e3⟩:=h1
  cases ep
  refine ⟨_,SqT.of e2,_,rfl,rfl,?_⟩
  rw [if_pos (by rfl)]
  refine ⟨_,SqT.of e2,_,rfl,by decide,fun q0 hq0=>?_⟩
  have s2:=isV (o:=HO.tup [V.str sh,V.int i]) q0 hq0
  have hq:upd H q0 (HO.tup [V.str sh,V.int i]) q0=some (.tup [V.str sh,V.int i]):=ze
  generalize upd H q0 (HO.tup [V.str sh,V.int i])=H2 at *
  have M2:=L.same s2
  have wo:∀ kn' H3,LKp d a H2 H3→LwAt H3 d a (yV (sh,i) w s) kn'→∃ y,DGet H3 d (V.str (Str.ofString "known")) (some y)∧∃ b,y=V.ref b∧∃ z,DGet H3 b (V.ref q0) (some z)∧∃ y2,DGet H3 d (V.str (Str.ofString "slots")) (some y2)∧∃ u,SqT K H3 p0 u∧∃ v,atI u 3=some v∧∃ a_5,y2=V.ref a_5∧∃ H4,DPut H3 a_5 v z H4∧Q V.non H4:=by
   intro kn' H3 k3 L3
   have q3:=k3 _ _ (M2.notup hq) hq
   have kw:zI kn' (sh,i)=some (xG (sh,i) w s):=by
    rw [L3.kk]
    unfold yV xG
    by_cases c:(zI s.gi (sh,i)).isSome=true∨(zI s.no (sh,i)).isSome=true
    ·rw [if_pos c]
     cases e1:zI s.gi (sh,i) with
     | some i=>rfl
     | none =>
      cases e2:zI s.no (sh,i) with
      | some i=>rfl
      | none=>rw [e1,e2] at c;exact absurd c (by simp)
    ·rw [if_neg c]
     have g0:zI s.gi (sh,i)=none:=by cases e1:zI s.gi (sh,i) with | none=>rfl | some i=>exact absurd (.inl (by rw [e1];rfl)) c
     have n0:zI s.no (sh,i)=none:=by cases e1:zI s.no (sh,i) with | none=>rfl | some i=>exact absurd (.inr (by rw [e1];rfl)) c
     show (zI s.gi (sh,i)).or (zI (s.no ++ [((sh,i),w)]) (sh,i))=_
     rw [g0,qo,n0];rfl
   have sl3:(yV (sh,i) w s).sl=s.sl:=W9 ..
   have h3s:=L3.hs
   rw [sl3] at h3s
   refine ⟨_,L3.gK,_,rfl,V.int (xG (sh,i) w s),.inr ⟨_,zZ (sh,i),q0,.inl L3.hk,rfl,q3,by rw [xt,kw];rfl⟩,_,L3.gS,_,SqT.of (k3 _ _ (M2.notup (s2 _ _ e2)) (s2 _ _ e2)),_,rfl,_,rfl,_,DPut.k (k:=.inr x) h3s (big (by lia)),?_⟩
   exact q kn' _ ((LKp.of_same s2).trans (k3.trans (y0 (.inr (.inl rfl))))) (L3.putS _)
  refine ⟨_,M2.gK,_,rfl,_,.inr ⟨dOf kn,zZ (sh,i),q0,.inl M2.hk,rfl,hq,rfl⟩,?_⟩
  rw [xt,L.kk]
  have nw:∀ c:(zI s.gi (sh,i)).isSome=true∨(zI s.no (sh,i)).isSome=true,yV (sh,i) w s=s:=fun c=>by unfold yV;rw [if_pos c]
  cases hg:zI s.gi (sh,i) with
  | some k =>
   rw [if_neg (by simp)]
   exact wo kn H2 (fun _ _ _ e=>e) (by rw [nw (.inl (by rw [hg];rfl))];exact M2)
  | none =>
   cases hn:zI s.no (sh,i) with
   | some k =>
    rw [if_neg (by simp)]
    exact wo kn H2 (fun _ _ _ e=>e) (by rw [nw (.inr (by rw [hn];rfl))];exact M2)
   | none =>
    rw [if_pos (by rfl)]
    have ek:yJ (dOf kn) (zZ (sh,i)) (V.int w)=dOf (kn ++ [((sh,i),w)]):=(vi kn ((sh,i),w)).symm
    have D:=DPut.t (k:=zZ (sh,i)) (v:=V.int w) M2.hk hq (big ln)
    rw [ek] at D
    obtain ⟨xs,hx,px⟩:=M2.hn
    have nk:a.kn≠a.no:=zS M2.hk hx (fun z=>nomatch z)
    have i3:upd H2 a.kn (.dT (dOf (kn ++ [((sh,i),w)]))) d=some (.dK (lwK a s.n s.why)):=by rw [zk (zS M2.id M2.hk (fun z=>nomatch z))];exact M2.id
    have en3:yo (lwK a s.n s.why) (.inr (Str.ofString "notes"))=some (.ref a.no):=by with_unfolding_all rfl
    have x3:upd H2 a.kn (.dT (dOf (kn ++ [((sh,i),w)]))) a.no=some (.lst xs):=by rw [zk (Ne.symm nk)];exact hx
    have q3:upd H2 a.kn (.dT (dOf (kn ++ [((sh,i),w)]))) q0=some (.tup [V.str sh,V.int i]):=by rw [zk (zS hq M2.hk (fun z=>nomatch z))];exact hq
    refine ⟨_,M2.gK,_,rfl,_,D,V.ref a.no,by rw [← en3];exact DGet.k (k:=.inr (Str.ofString "notes")) i3,.inl ⟨_,SqL.of x3⟩,by decide,fun r hr'=>?_⟩
    have s4:=isV (o:=HO.tup [V.ref q0,V.int w]) r hr'
    have r4:upd (upd H2 a.kn (.dT (dOf (kn ++ [((sh,i),w)])))) r (HO.tup [V.ref q0,V.int w]) r=some (.tup [V.ref q0,V.int w]):=ze
    have lx:=Paired.length px
    refine ⟨_,rfl,xs,s4 _ _ x3,big (by lia),?_⟩
    have L5:=M2.note hg hn hx px s4 r4 (s4 _ _ q3)
    have en5:yV (sh,i) w s={ s with no:=s.no ++ [((sh,i),w)] }:=by unfold yV;rw [if_neg (by rw [hg,hn];simp)]
    refine wo (kn ++ [((sh,i),w)]) _ ?_ (by rw [en5];exact L5)
    exact (y0 (.inr (.inr (.inl rfl)))).trans ((LKp.of_same s4).trans (y0 (.inr (.inr (.inr (.inr (.inl rfl)))))))
end
def hdE:Rw→List V
 | .take _ e _=>e
 | .give _ e _=>e
 | .lt _ e=>e
 | .say e=>e
 | .off e=>e
 | .iff e _ _=>e
section
variable {v:V} {r:Rw}
theorem QL {F:Addr→Prop} (h:RwAt F H v r):∃ p xs hd te,v=.ref p∧F p∧H p=some (.tup xs)∧atI xs 0=some (.str hd)∧atI xs (1 + if inV (.str hd) [V.str (Str.ofString "take"),V.str (Str.ofString "give"),V.str (Str.ofString "let")]=true then 1 else 0)=some (.ref te)∧F te∧H te=some (.tup (hdE r)):=by
 cases r with
 | take sh e x=>unfold RwAt at h;obtain ⟨p,te,rfl,f1,f2,e1,e2⟩:=h;exact ⟨p,_,Str.ofString "take",te,rfl,f1,e1,rfl,by rw [if_pos (by decide +kernel)];rfl,f2,e2⟩
 | give sh e f=>unfold RwAt at h;obtain ⟨p,te,tf,rfl,f1,f2,f3,e1,e2,e3⟩:=h;exact ⟨p,_,Str.ofString "give",te,rfl,f1,e1,rfl,by rw [if_pos (by decide +kernel)];rfl,f2,e2⟩
 | lt x e=>unfold RwAt at h;obtain ⟨p,te,rfl,f1,f2,e1,e2⟩:=h;exact ⟨p,_,Str.ofString "let",te,rfl,f1,e1,rfl,by rw [if_pos (by decide +kernel)];rfl,f2,e2⟩
 | say e=>unfold RwAt at h;obtain ⟨p,te,rfl,f1,f2,e1,e2⟩:=h;exact ⟨p,_,Str.ofString "say",te,rfl,f1,e1,rfl,by rw [if_neg (by decide +kernel)];rfl,f2,e2⟩
 | off e=>unfold RwAt at h;obtain ⟨p,te,rfl,f1,f2,e1,e2⟩:=h;exact ⟨p,_,Str.ofString "off",te,rfl,f1,e1,rfl,by rw [if_neg (by decide +kernel)];rfl,f2,e2⟩
 | iff e a b=>unfold RwAt at h;obtain ⟨p,te,la,lb,xs,ys,rfl,f1,f2,f3,f4,e1,e2,_⟩:=h;exact ⟨p,_,Str.ofString "if",te,rfl,f1,e1,rfl,by rw [if_neg (by decide +kernel)];rfl,f2,e2⟩
theorem zaM (h:vN r):TermOk (hdE r):=by
 cases r <;> (unfold vN at h;unfold hdE)
 ·exact h
 ·exact h.1
 ·exact h
 ·exact h
 ·exact h
 ·exact h.1
end
def hdC:Cs→List V
 | .row r=>hdE r
 | .skip e _=>e
 | .go _=>[]
def kE:Cs→Int→Int→Int→RSt→RSt
 | .skip _ to,i,_,_,s=>{ s with n:=if i=0 then to else s.n + 1 }
 | .row (.off _),i,_,_,s=>{ s with n:=s.n + 1,why:=if i=0 then s.why else some (Str.ofString "told") }
 | c,i,j,w,s=>{ ZG c i j w s with n:=s.n + 1 }
theorem za2 (c:Cs) (i j w:Int) (s:RSt):(ZG c i j w s).n=s.n:=by
 unfold ZG
 split
 ·exact JB ..
 ·rfl
 ·rfl
 ·rfl
 ·rfl
theorem QM {c:Cs} {w:Int} {s:RSt} {er:Er} (hg:∀ k,c≠.go k) (h:rk s.sl (hdC c)=.error er) (hi:∀ r,c=.row r→W2 r):z0 c w s={ s with why:=some (jB er) }:=by
 cases c with
 | go k=>exact absurd rfl (hg k)
 | skip e to=>simp only [hdC] at h;simp only [z0,yX,h]
 | row r =>
  cases r with
  | iff e x y=>exact (hi _ rfl).elim
  | _=>simp only [hdC,hdE] at h;simp only [z0,yX,doR,h]
section
variable {p d:Addr} {w i j:Int} {c:Cs} {a:LAd} {s:RSt} {kn:List Row} {m:Nat}
theorem xp (h1:CsAt H (.ref p) c) (L:LwAt H d a s kn) (R:RnOk m s) (hm:m≤40) (q:∀ kn' H',LKp d a H H'→LwAt H' d a (ZG c i j w s) kn'→Q (.int ((s.n + 1:Nat):Int)) H') :
  ww K t { nx:=fun _ H'=>Q .non H',rt:=Q } [some (.ref p),some (.ref d),some (.int w),some (.int i),some (.int j)] H:=by
 simp only [ww,vP,yh,L2.start,zo,zB,zY,tOp,zc,tC,zb,zi,zp,rI0,List.map,List.replicate,List.length,List.append,jqa,jqb,jqc,jqd,jqe,jqf,jqg,jqh,jqi,jqj,jqk,jql,jqm,jqn,and_true,true_and,and_assoc,jqo,jqp,jqq,jqr,jqs,jqt,if_true,ite_true,jqu,ite_false,if_false]
 refine ⟨c,h1,a,s,kn,L,m,R,hm,fun kn' H' k L'=>⟨_,L'.gT,_,rfl,?_⟩⟩
 rw [za2]
 exact q kn' H' k L'
theorem Zv (F:KF K) (h1:CsAt H (.ref p) c) (hg:∀ k,c≠.go k) (L:LwAt H d a s kn) (R:RnOk m s) (hm:m≤40) (q:∀ kn' H',LKp d a H H'→LwAt H' d a { kE c i j w s with n:=s.n } kn'→Q (.int ((kE c i j w s).n:Nat)) H') :
  yW K t { nx:=fun _ H'=>Q .non H',rt:=Q } [some (.ref p),some (.ref d),some (.int w),some (.int i),some (.int j)] H:=by
 simp only [yW,yK,yh,L2.start,zT,zo,zB,zY,zv,tOp,zc,tC,zb,zi,zE,wN,zm,tB,tCB,zp,zT,rEq,rNe,rI0,wX,yP,List.map,List.replicate,List.length,List.append,jqa,jqb,jqc,jqd,jqe,jqf,jqg,jqh,jqi,jqj,jqk,jql,jqm,jqn,and_true,true_and,and_assoc,jqo,jqp,jqq,jqr,jqs,jqt,if_true,ite_true,jqu,ite_false,if_false]
 refine ⟨_,.int j,false,F.i_s,?_⟩
 rw [if_neg (by decide)]
 have no:∀ {x y:Str},x≠y→¬ V.str x=V.str y:=fun h z=>h (V.str.inj z)
 cases c with
 | go k=>exact absurd rfl (hg k)
 | skip e to =>
  have h1':=h1
  obtain ⟨p',te,ep,e2,e3⟩:=h1
  cases ep
  refine ⟨_,SqT.of e2,_,rfl,rfl,?_⟩
  rw [if_neg (no (by decide +kernel))]
  refine ⟨_,SqT.of e2,_,rfl,rfl,?_⟩
  rw [if_pos (by rfl)]
  by_cases c0:i=0
  ·rw [if_pos c0]
   have q:=q kn H (fun _ _ _ e=>e) L
   simp only [kE,if_pos c0] at q
   exact ⟨_,SqT.of e2,_,rfl,q⟩
  ·rw [if_neg c0]
   simp only [kE,if_neg c0] at q
   exact xp h1' L R hm q
 | row r =>
  have h1':=h1
  obtain ⟨h1,hni⟩:=h1
  cases r with
  | iff e x y=>exact hni.elim
  | off e =>
   unfold RwAt at h1;obtain ⟨p',te,ep,_,_,e2,e3⟩:=h1
   cases ep
   refine ⟨_,SqT.of e2,_,rfl,rfl,?_⟩
   rw [if_pos (by rfl)]
   by_cases c0:i=0
   ·rw [if_neg (fun z=>z c0)]
    refine ⟨_,SqT.of e2,_,rfl,rfl,?_⟩
    rw [if_neg (no (by decide +kernel))]
    simp only [kE,if_pos c0] at q
    exact xp h1' L R hm q
   ·rw [if_pos c0]
    have L1:=L.put s.n (some (Str.ofString "told"))
    have k1:LKp d a H (upd H d (.dK (lwK a s.n (some (Str.ofString "told"))))):=y0 (.inl rfl)
    have e21:=k1 _ _ (L.notup e2) e2
    have h11:=CsAt.ts (L.ts k1) h1'
    refine ⟨_,L.dW _,_,SqT.of e21,_,rfl,rfl,?_⟩
    rw [if_neg (no (by decide +kernel))]
    simp only [kE,if_neg c0] at q
    exact xp (s:={ s with n:=s.n,why:=some (Str.ofString "told") }) h11 L1 ⟨R.so,R.gw,R.nw,R.l1,R.l2,R.l3,R.l4,R.nd⟩ hm fun kn' H' k=>q kn' H' (k1.trans k)
  | take sh e x =>
   unfold RwAt at h1;obtain ⟨p',te,ep,_,_,e2,e3⟩:=h1
   cases ep
   refine ⟨_,SqT.of e2,_,rfl,rfl,?_⟩
   rw [if_neg (no (by decide +kernel))]
   refine ⟨_,SqT.of e2,_,rfl,rfl,?_⟩
   rw [if_neg (no (by decide +kernel))]
   refine xp h1' L R hm fun kn' H' k L'=>q kn' H' k ?_
   have z:=za2 (.row (.take sh e x)) i j w s
   have:{ kE (.row (.take sh e x)) i j w s with n:=s.n }=ZG (.row (.take sh e x)) i j w s:=by rw [← z];rfl
   rw [this];exact L'
  | give sh e f =>
   unfold RwAt at h1;obtain ⟨p',te,tf,ep,_,_,_,e2,e3,e4⟩:=h1
   cases ep
   refine ⟨_,SqT.of e2,_,rfl,rfl,?_⟩
   rw [if_neg (no (by decide +kernel))]
   refine ⟨_,SqT.of e2,_,rfl,rfl,?_⟩
   rw [if_neg (no (by decide +kernel))]
   exact xp h1' L R hm q
  | lt x e =>
   unfold RwAt at h1;obtain ⟨p',te,ep,_,_,e2,e3⟩:=h1
   cases ep
   refine ⟨_,SqT.of e2,_,rfl,rfl,?_⟩
   rw [if_neg (no (by decide +kernel))]
   refine ⟨_,SqT.of e2,_,rfl,rfl,?_⟩
   rw [if_neg (no (by decide +kernel))]
   exact xp h1' L R hm q
  | say e =>
   unfold RwAt at h1;obtain ⟨p',te,ep,_,_,e2,e3⟩:=h1
   cases ep
   refine ⟨_,SqT.of e2,_,rfl,rfl,?_⟩
   rw [if_neg (no (by decide +kernel))]
   refine ⟨_,SqT.of e2,_,rfl,rfl,?_⟩
   rw [if_neg (no (by decide +kernel))]
   exact xp h1' L R hm q
theorem jv {y:Str} {u:V} {er:Er} (L:LwAt H d a s kn) (hy:y=jB er) (q:∀ kn' H',LKp d a H H'→LwAt H' d a { s with why:=some (jB er) } kn'→Q (.int (s.n:Nat)) H') :
  yW K t { nx:=fun _ H'=>Q .non H',rt:=Q } [some (.ref p),some (.ref d),some (.int w),some u,some (.str y)] H:=by
 simp only [yW,yK,yh,L2.start,zT,zo,zB,zY,zv,tOp,zc,tC,zb,zi,zE,wN,zm,tB,tCB,zp,zT,rEq,rNe,rI0,wX,yP,List.map,List.replicate,List.length,List.append,jqa,jqb,jqc,jqd,jqe,jqf,jqg,jqh,jqi,jqj,jqk,jql,jqm,jqn,and_true,true_and,and_assoc,jqo,jqp,jqq,jqr,jqs,jqt,if_true,ite_true,jqu,ite_false,if_false]
 refine ⟨_,.str y,true,vD "str",?_⟩
 rw [if_pos rfl,hy]
 have L1:=L.put s.n (some (jB er))
 exact ⟨_,L.dW _,_,L1.gT,q kn _ (y0 (.inl rfl)) L1⟩
theorem Vj (F:KF K) (h1:CsAt H (.ref p) c) (h2:jW c) (hg:∀ k,c≠.go k) (L:LwAt H d a s kn) (R:RnOk m s) (hm:m≤40) (q:∀ kn' H',LKp d a H H'→LwAt H' d a { z0 c w s with n:=s.n } kn'→Q (.int ((z0 c w s).n:Nat)) H') :
  wx K t { nx:=fun _ H'=>Q .non H',rt:=Q } [some (.ref p),some (.ref d),some (.int w),some (YA (rk s.sl (hdC c))),none] H:=by
 have hni:∀ r,c=.row r→W2 r:=fun r e=>by rw [e] at h1;exact h1.2
 obtain ⟨p0,zs,hd,ep,hp,h0,_,_⟩:=Wc h1
 cases ep
 have no:∀ {x y:Str},x≠y→¬ V.str x=V.str y:=fun h z=>h (V.str.inj z)
 have gf:hd=Str.ofString "give"→∃ sh e f tf,c=.row (.give sh e f)∧atI zs 3=some (.ref tf)∧H tf=some (.tup f):=fun eh=>by
  cases c with
  | go k=>exact absurd rfl (hg k)
  | skip e to=>obtain ⟨p',te,ep,e2,_⟩:=h1;cases ep;rw [e2] at hp;cases hp;cases h0;exact absurd eh (by decide +kernel)
  | row r =>
   have h1:=h1.1
   cases r with
   | give sh e f=>unfold RwAt at h1;obtain ⟨p',te,tf,ep,_,_,_,e2,e3,e4⟩:=h1;cases ep;rw [e2] at hp;cases hp;exact ⟨sh,e,f,tf,rfl,rfl,e4⟩
   | iff e x y=>exact (hni _ rfl).elim
   | take sh e x=>unfold RwAt at h1;obtain ⟨p',te,ep,_,_,e2,_⟩:=h1;cases ep;rw [e2] at hp;cases hp;cases h0;exact absurd eh (by decide +kernel)
   | lt x e=>unfold RwAt at h1;obtain ⟨p',te,ep,_,_,e2,_⟩:=h1;cases ep;rw [e2] at hp;cases hp;cases h0;exact absurd eh (by decide +kernel)
   | say e=>unfold RwAt at h1;obtain ⟨p',te,ep,_,_,e2,_⟩:=h1;cases ep;rw [e2] at hp;cases hp;cases h0;exact absurd eh (by decide +kernel)
   | off e=>unfold RwAt at h1;obtain ⟨p',te,ep,_,_,e2,_⟩:=h1;cases ep;rw [e2] at hp;cases hp;cases h0;exact absurd eh (by decide +kernel)
 have ng:hd≠Str.ofString "give"→∀ i,rk s.sl (hdC c)=.ok i→z0 c w s=kE c i i w s:=fun nh i hk=>by
  cases c with
  | go k=>exact absurd rfl (hg k)
  | skip e to=>simp only [hdC] at hk;simp only [z0,yX,hk,kE]
  | row r =>
   cases r with
   | give sh e f=>have h1:=h1.1;unfold RwAt at h1;obtain ⟨p',te,tf,ep,_,_,_,e2,e3,e4⟩:=h1;cases ep;rw [e2] at hp;cases hp;cases h0;exact absurd rfl nh
   | iff e x y=>exact (hni _ rfl).elim
   | take sh e x=>simp only [hdC,hdE] at hk;simp only [z0,yX,doR,hk,kE,ZG]
   | lt x e=>simp only [hdC,hdE] at hk;simp only [z0,yX,doR,hk,kE,ZG]
   | say e=>simp only [hdC,hdE] at hk;simp only [z0,yX,doR,hk,kE,ZG]
   | off e =>
    simp only [hdC,hdE] at hk
    by_cases c0:i=0
    ·simp only [z0,yX,hk,kE,if_pos c0]
    ·simp only [z0,yX,hk,kE,if_neg c0]
 simp only [wx,yz,yK,yh,L2.start,zT,zo,zQ,zr,zB,zY,zv,tOp,zc,tC,zb,zi,zE,wN,jc,zm,tB,tCB,zp,zT,rEq,rNe,rI0,wX,yP,List.map,List.replicate,List.length,List.append,jqa,jqb,jqc,jqd,jqe,jqf,jqg,jqh,jqi,jqj,jqk,jql,jqm,jqn,and_true,true_and,and_assoc,jqo,jqp,jqq,jqr,jqs,jqt,if_true,ite_true,jqu,ite_false,if_false]
 refine ⟨_,SqT.of hp,_,h0,rfl,?_⟩
 cases hk:rk s.sl (hdC c) with
 | error er =>
  have es:=QM (w:=w) hg hk hni
  rw [es] at q
  simp only [YA]
  by_cases hh:hd=Str.ofString "give"
  ·rw [if_pos (congrArg V.str hh)]
   refine ⟨_,.str _,true,vD "str",?_⟩
   rw [if_neg (by decide)]
   exact jv L rfl q
  ·rw [if_neg (no hh)]
   exact jv L rfl q
 | ok i =>
  simp only [YA]
  by_cases hh:hd=Str.ofString "give"
  ·rw [if_pos (congrArg V.str hh)]
   obtain ⟨sh,e,f,tf,rfl,a3,hf⟩:=gf hh
   refine ⟨_,.int i,false,F.i_s,?_⟩
   rw [if_pos rfl]
   refine ⟨_,SqT.of hp,_,a3,_,L.gS,tf,rfl,_,rfl,f,hf,_,L.hs,h2.2,R.so,fun H1 s1=>?_⟩
   have L1:=L.same s1
   have hk:rk s.sl e=.ok i:=hk
   cases hk2:rk s.sl f with
   | error er =>
    have es:z0 (.row (.give sh e f)) w s={ s with why:=some (jB er) }:=by simp only [z0,yX,doR,hk,hk2]
    rw [es] at q
    exact jv L1 rfl fun kn' H' k=>q kn' H' ((LKp.of_same s1).trans k)
   | ok j =>
    have es:z0 (.row (.give sh e f)) w s=kE (.row (.give sh e f)) i j w s:=by simp only [z0,yX,doR,hk,hk2,kE,ZG]
    rw [es] at q
    exact Zv F (h1.same s1) hg L1 R hm fun kn' H' k=>q kn' H' ((LKp.of_same s1).trans k)
  ·rw [if_neg (no hh)]
   rw [ng hh i hk] at q
   exact Zv F h1 hg L R hm q
theorem ZM {v:V} (F:KF K) (h1:CsAt H v c) (h2:jW c) (L:LwAt H d a s kn) (R:RnOk m s) (hm:m≤40) (wn:s.why=none) (q:∀ kn' H',LKp d a H H'→LwAt H' d a { z0 c w s with n:=s.n } kn'→Q (.int ((z0 c w s).n:Nat)) H') :
  xZ K t { nx:=fun _ H'=>Q .non H',rt:=Q } (L2.start ["step","state","answer","first","second"] [v,.ref d,.int w]) H:=by
 have no:∀ {x y:Str},x≠y→¬ V.str x=V.str y:=fun h z=>h (V.str.inj z)
 have hx:(∃ k,c=.go k)∨∃ p xs hd te,v=.ref p∧(∀ k,c≠.go k)∧H p=some (.tup xs)∧atI xs 0=some (.str hd)∧hd≠Str.ofString "go"∧atI xs (1 + if inV (.str hd) [V.str (Str.ofString "take"),V.str (Str.ofString "give"),V.str (Str.ofString "let")]=true then 1 else 0)=some (.ref te)∧H te=some (.tup (hdC c))∧TermOk (hdC c):=by
  cases c with
  | go k=>exact .inl ⟨k,rfl⟩
  | skip e to =>
   obtain ⟨p,te,rfl,e1,e2⟩:=h1
   exact .inr ⟨p,_,_,te,rfl,fun k z=>(nomatch z),e1,rfl,by decide +kernel,by rw [if_neg (by decide +kernel)];rfl,e2,h2⟩
  | row r =>
   obtain ⟨p,xs,hd,te,rfl,_,e1,e2,e3,_,e4⟩:=QL h1.1
   refine .inr ⟨p,xs,hd,te,rfl,fun k z=>(nomatch z),e1,e2,fun z=>?_,e3,e4,zaM h2⟩
   have h1:=h1.1
   cases r <;> (unfold RwAt at h1)
   ·obtain ⟨p',te,ep,_,_,e5,_⟩:=h1;cases ep;rw [e5] at e1;cases e1;cases e2;exact absurd z (by decide +kernel)
   ·obtain ⟨p',te,tf,ep,_,_,_,e5,_⟩:=h1;cases ep;rw [e5] at e1;cases e1;cases e2;exact absurd z (by decide +kernel)
   ·obtain ⟨p',te,ep,_,_,e5,_⟩:=h1;cases ep;rw [e5] at e1;cases e1;cases e2;exact absurd z (by decide +kernel)
   ·obtain ⟨p',te,ep,_,_,e5,_⟩:=h1;cases ep;rw [e5] at e1;cases e1;cases e2;exact absurd z (by decide +kernel)
   ·obtain ⟨p',te,ep,_,_,e5,_⟩:=h1;cases ep;rw [e5] at e1;cases e1;cases e2;exact absurd z (by decide +kernel)
   ·obtain ⟨p',te,la,lb,xs',ys',ep,_,_,_,_,e5,_⟩:=h1;cases ep;rw [e5] at e1;cases e1;cases e2;exact absurd z (by decide +kernel)
 rcases hx with ⟨k,rfl⟩ | ⟨p,xs,hd,te,rfl,hg,e1,e2,ngo,e3,e4,to⟩
 ·obtain ⟨p,rfl,e1⟩:=h1
  simp only [xZ,yz,yK,yh,L2.start,Yo,zT,zo,zQ,zr,zB,zY,zv,tOp,zc,tC,yb,zb,zi,zE,wN,jc,zm,tB,tCB,zp,zT,rEq,rNe,rI0,rIn,wX,yP,List.map,List.replicate,List.length,List.append,jqa,jqb,jqc,jqd,jqe,jqf,jqg,jqh,jqi,jqj,jqk,jql,jqm,jqn,and_true,true_and,and_assoc,jqo,jqp,jqq,jqr,jqs,jqt,if_true,ite_true,jqu,ite_false,if_false]
  refine ⟨_,SqT.of e1,_,rfl,rfl,?_⟩
  rw [if_pos (by rfl)]
  exact ⟨_,SqT.of e1,_,rfl,q kn H (fun _ _ _ e=>e) L⟩
 ·simp only [xZ,yz,yK,yh,L2.start,Yo,zT,zo,zQ,zr,zB,zY,zv,tOp,zc,tC,yb,zb,zi,zE,wN,jc,zm,tB,tCB,zp,zT,rEq,rNe,rI0,rIn,wX,yP,List.map,List.replicate,List.length,List.append,jqa,jqb,jqc,jqd,jqe,jqf,jqg,jqh,jqi,jqj,jqk,jql,jqm,jqn,and_true,true_and,and_assoc,jqo,jqp,jqq,jqr,jqs,jqt,if_true,ite_true,jqu,ite_false,if_false]
  refine ⟨_,SqT.of e1,_,e2,rfl,?_⟩
  rw [if_neg (no ngo)]
  refine ⟨_,SqT.of e1,_,e2,by decide,fun pt hpt=>?_⟩
  have s1:=isV (o:=HO.tup [V.str (Str.ofString "take"),V.str (Str.ofString "give"),V.str (Str.ofString "let")]) pt hpt
  have L1:=L.same s1
  refine ⟨_,.inr (SqT.of ze),rfl,by decide +kernel,_,SqT.of (s1 _ _ e1),_,e3,_,L1.gS,te,rfl,_,rfl,hdC c,s1 _ _ e4,_,L1.hs,to,R.so,fun H2 s2=>?_⟩
  have S:=s1.trans s2
  exact Vj F (h1.same S) h2 hg (L.same S) R hm fun kn' H' k=>q kn' H' ((LKp.of_same S).trans k)
theorem Wm (L:LwAt H d a s kn) (hw:s.why≠some (Str.ofString "")) (lg:s.gi.length≤60) (q:∀ r o gl out H',Same H H'→H' r=some (.tup [o,.ref a.no,.ref gl])→X6 H' o (qh s)→kD H' gl out→Zh s out→Q (.ref r) H') :
  kg K t { nx:=fun _ H'=>Q .non H',rt:=Q } (L2.start ["state"] [.ref d]) H:=by
 simp only [kg,K7,yh,qd,Xp,L2.start,zo,zB,zv,tOp,zc,tC,yB,yb,zb,zi,zE,zm,tCB,rNe,yP,List.map,List.replicate,List.length,List.append,jqa,jqb,jqc,jqd,jqe,jqf,jqg,jqh,jqi,jqj,jqk,jql,jqm,jqn,and_true,true_and,and_assoc,jqo,jqp,jqq,jqr,jqs,jqt,if_true,ite_true,jqu,ite_false,if_false]
 refine ⟨_,L.gW,rfl,?_⟩
 cases e:s.why with
 | some y =>
  have ny:y≠Str.ofString "":=fun z=>hw (by rw [e,z])
  have gw:=L.gW
  rw [e] at gw
  have nz:¬ V.str (J5 (some y))=V.str (Str.ofString ""):=fun z=>ny (V.str.inj z)
  rw [if_pos nz]
  refine ⟨_,gw,by decide,fun p hp=>?_⟩
  have s1:=isV (o:=HO.tup [V.str (Str.ofString "off"),V.str (J5 (some y))]) p hp
  refine ⟨_,(L.same s1).gN,by decide,fun gl hgl=>⟨by decide,fun r hr=>?_⟩⟩
  have s2:=isV (o:=HO.lst []) gl hgl
  have s3:=isV (o:=HO.tup [V.ref p,V.ref a.no,V.ref gl]) r hr
  refine q r (.ref p) gl [] _ (s1.trans (s2.trans s3)) ze ?_ ⟨[],s3 _ _ ze,.nil⟩ (by unfold Zh;rw [e])
  unfold qh
  rw [e]
  exact ⟨p,rfl,(s2.trans s3) _ _ ze⟩
 | none =>
  rw [if_neg (fun z=>z rfl)]
  refine ⟨_,L.gA,_,rfl,_,.inl ⟨SqL.of L.ha,fun l hl=>⟨by decide,fun p hp=>?_⟩⟩⟩
  have s1:=isV (o:=HO.tup (s.sa.map V.int)) l hl
  have e1:upd H l (HO.tup (s.sa.map V.int)) l=some (.tup (s.sa.map V.int)):=ze
  generalize upd H l (HO.tup (s.sa.map V.int))=H1 at *
  have s2:=isV (o:=HO.tup [V.str (Str.ofString "done"),V.ref l]) p hp
  have e2:upd H1 p (HO.tup [V.str (Str.ofString "done"),V.ref l]) p=some (.tup [V.str (Str.ofString "done"),V.ref l]):=ze
  generalize upd H1 p (HO.tup [V.str (Str.ofString "done"),V.ref l])=H2 at *
  have M2:=L.same (s1.trans s2)
  refine ⟨_,M2.gN,_,M2.gG,_,rfl,_,M2.hg,fun v hv=>⟨_,ze,s.gi,by rw [zk (zL M2.hg hv)];exact M2.hg,by have:=jk s.gi;lia,fun l3 ys srt H3 s3 f3 h3 pr ri mi=>⟨by decide,fun r2 hr2=>?_⟩⟩⟩
  have sv:=isV (o:=jQ v a.gi) v hv
  have s4:=isV (o:=HO.tup [V.ref p,V.ref a.no,V.ref l3]) r2 hr2
  refine q r2 (.ref p) l3 srt _ (s1.trans (s2.trans (sv.trans (s3.trans s4)))) ze ?_ ⟨ys,s4 _ _ h3,kr s4 pr⟩ (by unfold Zh;rw [e];exact ⟨ri,mi⟩)
  unfold qh
  rw [e]
  exact ⟨p,l,rfl,(sv.trans (s3.trans s4)) _ _ e2,(s2.trans (sv.trans (s3.trans s4))) _ _ e1⟩
end
theorem zaN {c:Cs} {w:Int} {s:RSt} (wn:s.why=none):(z0 c w s).why≠some (Str.ofString ""):=by
 have er:∀ e:Er,some (jB e)≠some (Str.ofString ""):=fun e z=>absurd (Option.some.inj z) (by cases e <;> decide +kernel)
 have nz:s.why≠some (Str.ofString ""):=fun z=>by rw [wn] at z;cases z
 cases c with
 | go k=>exact nz
 | skip e to=>cases hk:rk s.sl e with
  | error x=>simp only [z0,yX,hk];exact er x
  | ok i=>simp only [z0,yX,hk];exact nz
 | row r =>
  cases r with
  | off e=>cases hk:rk s.sl e with
   | error x=>simp only [z0,yX,hk];exact er x
   | ok i =>
    simp only [z0,yX,hk]
    split
    ·exact nz
    ·exact fun z=>absurd (Option.some.inj z) (by decide +kernel)
  | iff e a b=>exact nz
  | take sh e x=>cases hk:rk s.sl e with
   | error x=>simp only [z0,yX,doR,hk];exact er x
   | ok i =>
    simp only [z0,yX,doR,hk]
    have:(yV (sh,i) w s).why=s.why:=by unfold yV;split <;> rfl
    rw [this];exact nz
  | give sh e f=>cases hk:rk s.sl e with
   | error x=>simp only [z0,yX,doR,hk];exact er x
   | ok i=>cases hk2:rk s.sl f with
    | error x=>simp only [z0,yX,doR,hk,hk2];exact er x
    | ok j=>simp only [z0,yX,doR,hk,hk2];exact nz
  | lt x e=>cases hk:rk s.sl e with
   | error x=>simp only [z0,yX,doR,hk];exact er x
   | ok i=>simp only [z0,yX,doR,hk];exact nz
  | say e=>cases hk:rk s.sl e with
   | error x=>simp only [z0,yX,doR,hk];exact er x
   | ok i=>simp only [z0,yX,doR,hk];exact nz
theorem QN {rows:List Row} {xs:List V} (h:Paired (kC H) xs rows):∀ v∈xs,PlV H 4 v:=by
 intro v hv
 obtain ⟨i,hi⟩:=List.getElem?_of_mem hv
 obtain ⟨q,_,r,p,rfl,e1,e2⟩:=Paired.getP h hi
 refine .tup e1 fun y hy=>?_
 simp only [List.mem_cons,List.not_mem_nil,or_false] at hy
 rcases hy with rfl | rfl
 ·refine .tup e2 fun y hy=>?_
  simp only [List.mem_cons,List.not_mem_nil,or_false] at hy
  rcases hy with rfl | rfl
  ·exact .str _
  ·exact .int _
 ·exact .int _
theorem zb3 {r nl gl:Addr} {o:V} {oc:Oc} {no gi:List Row} (hr:H r=some (.tup [o,.ref nl,.ref gl])) (ho:X6 H o oc) (hn:kD H nl no) (hg:kD H gl gi):PlV H 6 (.ref r):=by
 obtain ⟨xs,hx,px⟩:=hn
 obtain ⟨ys,hy,py⟩:=hg
 refine .tup hr fun z hz=>?_
 simp only [List.mem_cons,List.not_mem_nil,or_false] at hz
 rcases hz with rfl | rfl | rfl
 ·cases oc with
  | done sa =>
   obtain ⟨o',y,rfl,e1,e2⟩:=ho
   refine .tup e1 fun z hz=>?_
   simp only [List.mem_cons,List.not_mem_nil,or_false] at hz
   rcases hz with rfl | rfl
   ·exact .str _
   ·refine .tup e2 fun z hz=>?_
    obtain ⟨i,_,rfl⟩:=List.mem_map.mp hz
    exact .int i
  | off w =>
   obtain ⟨o',rfl,e1⟩:=ho
   refine .tup e1 fun z hz=>?_
   simp only [List.mem_cons,List.not_mem_nil,or_false] at hz
   rcases hz with rfl | rfl
   ·exact .str _
   ·exact .str _
 ·exact .lst hx (QN px)
 ·exact .lst hy (QN py)
structure RunL (t:Adr) (H0 H:Hp) (x d:Addr) (a:RAd) (b:LAd) (C:List Cs) (s:RSt) (kn:List Row):Prop where
 sm:Same H0 H
 R:RnAt t H x a C s
 L:LwAt H d b s kn
structure zbA (H0:Hp) (x d:Addr) (a:RAd) (b:LAd):Prop where
 fx:∀ z,Ow x a z→H0 z=none
 fd:∀ z,LOw d b z→H0 z=none
 ds:∀ z,OwA x a z→¬ LOw d b z
section
variable {l p x d:Addr} {xs:List V} {C:List Cs} {ns:List Int} {H0:Hp} {a:RAd} {b:LAd} {s:RSt} {kn:List Row} {m:Nat} {o4 o5 o6:Option V}
theorem RunL.same {H':Hp} (S:RunL t H0 H x d a b C s kn) (k:Same H H'):RunL t H0 H' x d a b C s kn:=⟨S.sm.trans k,S.R.same k,S.L.same k⟩
theorem YM (S:RunL t H0 H x d a b C s kn) (O:X7 C) (I:RnI C m s) (hm:m≤40) (wz:s.why≠some (Str.ofString "")) (ho:yy C s=true) (q:∀ H',Same H0 H'→Q (.bl true) H') :
  vX K t { nx:=fun _ H'=>Q .non H',rt:=Q } [some (.ref l),some (.ref p),some (.ref x),some (.ref d),o4,o5,o6,none] H:=by
 simp only [vX,yq,wK,xX,xh,j2,XX,yg,L2.start,zo,zQ,zr,zB,tOp,zc,tC,zb,zi,kG,zp,KJ,qZ,List.map,List.replicate,List.length,List.append,jqa,jqb,jqc,jqd,jqe,jqf,jqg,jqh,jqi,jqj,jqk,jql,jqm,jqn,and_true,true_and,and_assoc,jqo,jqp,jqq,jqr,jqs,jqt,if_true,ite_true,jqu,ite_false,if_false]
 have l2:=I.ok.l2
 have l3:=I.ok.l3
 have na:jX C s=none:=by unfold jX;rw [if_pos ho]
 refine ⟨_,_,S.R.ix,rfl,a,C,s,S.R,by lia,I.ok.nd,by lia,fun H1 z=>(by rw [ho] at z;cases z),fun r o nl gl out H1 _ s1 _ _ _ hr hoc hn hg gi=>?_⟩
 have S1:=S.same s1
 refine ⟨_,_,S1.R.ix,rfl,a,C,s,S1.R,fun H2 s2=>?_⟩
 rw [ho,if_pos (by rfl)]
 have S2:=S1.same s2
 refine ⟨_,_,S2.R.ix,rfl,a,C,s,S2.R,O.ok,I.ok.so,fun H3 _ s3=>⟨?_,fun H4 s4=>?_⟩,fun p q0 H2 z=>by rw [na] at z;cases z⟩
 ·have U:=s2.trans s3
  exact zb3 (U _ _ hr) (JI hoc U) (qN hn U) (qN hg U)
 have S4:=S2.same (s3.trans s4)
 refine ⟨b,s,kn,S4.L,wz,by lia,fun r2 o2 gl2 out2 H5 s5 hr2 ho2 hg2 gi2=>?_⟩
 have S5:=S4.same s5
 have U:=s2.trans (s3.trans (s4.trans s5))
 have eo:=zaH gi2 gi
 rw [eo] at hg2
 have gk:=zb0 I gi
 have wk:∀ w,qh s=.off w→PyData.strOk w=true:=fun w z=>by
  unfold qh at z
  cases e:s.why with
  | none=>rw [e] at z;cases z
  | some v=>rw [e] at z;cases z;exact I.wy _ e
 have d1:=QI (K:=K) (U _ _ hr) (JI hoc U) (qN hn U) (qN hg U)
 have d2:=QI (K:=K) hr2 ho2 S5.L.hn hg2
 have pp:zX (ppD (qh s) s.no out)=true:=by
  have a1:=QH wk
  have a2:=Vg I.nn
  have a3:=Vg gk
  simp only [ppD,zX,yu,Bool.and_eq_true,and_true] at a1 a2 a3 ⊢
  exact ⟨a1,a2,a3⟩
 have dd:(ppD (qh s) s.no out).depth≤64:=by
  have a1:=zaG (qh s)
  have a2:=JH s.no
  have a3:=JH out
  simp only [ppD,PyData.depth,PyData.depthAll] at a1 a2 a3 ⊢
  lia
 exact ⟨_,d1,_,d2,pp,pp,dd,dd,fun b hb=>by rw [hb.mpr rfl];exact q _ S5.sm⟩
def rlI (t:Adr) (H0:Hp) (l p x d:Addr) (a:RAd) (b:LAd) (C:List Cs) (k:Nat) (σ:St) (H:Hp):Prop:=∃ s kn,(∃ o4 o5 o6,σ=[some (.ref l),some (.ref p),some (.ref x),some (.ref d),o4,o5,o6,none])∧RunL t H0 H x d a b C s kn∧RnI C k s∧s.why≠some (Str.ofString "")
theorem Vk {D:Zx} {c:Cs} {v:V} (h4:H0 p=some (.lst (ns.map V.int))) (h5:0 < ns.length) (h6:ns.length≤63) (O:X7 C) (DD:zbA H0 x d a b) (S:RunL t H0 H x d a b C s kn) (I:RnI C m s) (hm:m < 40) (ho:yy C s=false) (hc:C[s.n]?=some c) (hv:CsAt H v c) (q:∀ σ H',rlI t H0 l p x d a b C (m + 1) σ H'→D.nx σ H') :
  vV K t D [some (.ref l),some (.ref p),some (.ref x),some (.ref d),some (.int m),some v,o6,none] H:=by
 simp only [vV,yk,jZ,vn,yK,yg,L2.start,zo,zQ,zr,zB,zv,tOp,zc,tC,zb,zi,zE,zm,tCB,zp,xS,ye,rI,rI0,jA,yN,List.map,List.replicate,List.length,List.append,jqa,jqb,jqc,jqd,jqe,jqf,jqg,jqh,jqi,jqj,jqk,jql,jqm,jqn,and_true,true_and,and_assoc,jqo,jqp,jqq,jqr,jqs,jqt,if_true,ite_true,jqu,ite_false,if_false]
 have no:¬ yy C s=true:=by rw [ho];decide
 have wn:s.why=none:=by
  cases e:s.why with
  | none=>rfl
  | some v=>exact absurd (show yy C s=true by unfold yy;rw [e];rfl) no
 have ln:(ns.map V.int).length=ns.length:=List.length_map ..
 have hp:=S.sm _ _ h4
 obtain ⟨v0,hv0,hm0⟩:=X8 m ns.length (xs:=ns.map V.int) ln (by lia)
 obtain ⟨i,_,rfl⟩:=List.mem_map.mp hm0
 refine ⟨ns.length,.inl ⟨_,SqL.of hp,ln.symm⟩,by lia,_,SqL.of hp,_,hv0,_,rfl,by decide,by lia,by lia,fun w H1 hw s1=>?_⟩
 have S1:=S.same s1
 have es:vh C w s=z0 c w s:=by unfold vh;rw [if_neg no,hc]
 have I2:=zaF (w:=w) O I ho hw
 have ok:=O.ok c (List.mem_of_getElem? hc)
 refine ⟨_,_,S1.R.ix,rfl,m,a,C,s,S1.R,O.ok,I.ok,by lia,fun H2 k2 R2=>?_⟩
 rw [if_neg (fun z=>z trivial)]
 have L2':LwAt H2 d b s kn:=S1.L.keep (fun z o oz e=>k2 z o (fun y=>DD.ds z (.inl y) oz) e) (S1.R.ts k2)
 have s2:Same H0 H2:=fun z o e=>k2 z o (fun y=>by rw [DD.fx z y] at e;cases e) (S1.sm _ _ e)
 refine ⟨c,CsAt.ts (S1.R.ts k2) (hv.same s1),ok,b,s,kn,L2',m,I.ok,by lia,wn,fun kn' H3 k3 L3=>⟨_,L3.dA _,q _ _ ?_⟩⟩
 rw [es] at R2 I2
 have R3:RnAt t H3 x a C (z0 c w s):=R2.keep (fun z o oz e=>k3 z o (DD.ds z oz) e) (L2'.ts k3)
 have s3:Same H0 H3:=fun z o e=>k3 z o (fun y=>by rw [DD.fd z y] at e;cases e) (s2 _ _ e)
 have k4:LKp d b H3 (upd H3 d (.dK (lwK b (z0 c w s).n (z0 c w s).why))):=y0 (.inl rfl)
 exact ⟨z0 c w s,kn',⟨_,_,_,rfl⟩,⟨fun z o e=>k4 z o (fun y=>by rw [DD.fd z y] at e;cases e) (s3 _ _ e),R3.keep (fun z o oz e=>k4 z o (DD.ds z oz) e) (L3.ts k4),L3.put _ _⟩,I2,zaN wn⟩
theorem zbB {c:Cs} (O:X7 C) (hc:C[s.n]?=some c) {p:Pl} (h:wJ c s=some p):PyData.strOk p.1=true:=by
 have pl:=O.pl c (List.mem_of_getElem? hc)
 cases c with
 | go to=>cases h
 | skip e to=>cases h
 | row r =>
  cases r with
  | take sh e x =>
   simp only [wJ] at h
   split at h
   ·cases h
   ·split at h
    ·cases h
    ·cases h;exact pl.1
  | _=>cases h
theorem QO {D:Zx} (h1:H0 l=some (.lst xs)) (h2:Paired (CsAt H0) xs C) (h4:H0 p=some (.lst (ns.map V.int))) (h5:0 < ns.length) (h6:ns.length≤63) (O:X7 C) (DD:zbA H0 x d a b) (S:RunL t H0 H x d a b C s kn) (I:RnI C m s) (hm:m < 40) (ho:yy C s=false) (q:∀ σ H',rlI t H0 l p x d a b C (m + 1) σ H'→D.nx σ H') :
  vW K t D [some (.ref l),some (.ref p),some (.ref x),some (.ref d),some (.int m),o5,o6,none] H:=by
 simp only [vW,yq,wK,xX,vm,yK,XX,yh,yg,L2.start,zo,zQ,zr,zB,zv,tOp,zc,tC,zb,zi,zE,tOr,zm,tCB,zp,xS,ye,rI,rI0,qD,jA,yN,List.map,List.replicate,List.length,List.append,jqa,jqb,jqc,jqd,jqe,jqf,jqg,jqh,jqi,jqj,jqk,jql,jqm,jqn,and_true,true_and,and_assoc,jqo,jqp,jqq,jqr,jqs,jqt,if_true,ite_true,jqu,ite_false,if_false]
 have no:¬ yy C s=true:=by rw [ho];decide
 have lt:=ZW no
 have lx:=Paired.length h2
 have hc:C[s.n]?=some C[s.n]:=List.getElem?_eq_getElem lt
 have hv:xs[s.n]?=some xs[s.n]:=List.getElem?_eq_getElem (by lia)
 have cv:=xm h2 hv hc
 have ea:jX C s=wJ C[s.n] s:=by unfold jX;rw [if_neg no,hc];rfl
 have l2:=I.ok.l2
 have l3:=I.ok.l3
 refine ⟨_,_,S.R.ix,rfl,a,C,s,S.R,fun H1 s1=>?_⟩
 rw [ho]
 rw [if_neg (by decide)]
 have S1:=S.same s1
 refine ⟨_,_,S1.R.ix,rfl,a,C,s,S1.R,by lia,I.ok.nd,by lia,fun H2 _ s2=>?_,fun r o nl gl out H3 h=>by rw [ho] at h;cases h⟩
 rw [if_neg (fun z=>z trivial)]
 have S2:=S1.same s2
 refine ⟨_,S2.L.gT,_,_,rfl,SqL.of (S2.sm _ _ h1),_,ZO hv,?_⟩
 have ok:=O.ok _ (List.getElem_mem lt)
 refine ⟨_,_,S2.R.ix,rfl,a,C,s,S2.R,O.ok,I.ok.so,fun H3 ha s3=>?_,fun p1 q1 H3 ha s3 hq=>?_⟩
 ·have S3:=S2.same s3
  rw [ea] at ha
  refine ⟨C[s.n],cv.same S3.sm,ok,b,s,kn,S3.L,I.ok.so,fun H4 _ s4=>?_,fun p2 q2 H4 z=>by rw [ha] at z;cases z⟩
  refine ⟨_,.non,_,.non,rfl,rfl,by decide,by decide,fun b hb=>?_⟩
  rw [hb.mpr rfl,if_neg (by decide)]
  exact Vk h4 h5 h6 O DD (S3.same s4) I hm ho hc (cv.same (S3.same s4).sm) q
 ·have S3:=S2.same s3
  rw [ea] at ha
  refine ⟨C[s.n],cv.same S3.sm,ok,b,s,kn,S3.L,I.ok.so,fun H4 z=>(by rw [ha] at z;cases z),fun p2 q2 H4 hb s4 hq2=>?_⟩
  rw [ha] at hb
  cases hb
  have pk:=Vd (zbB O hc ha)
  have pd:=Ve p1
  refine ⟨_,V4 (s4 _ _ hq),_,V4 hq2,pk,pk,by lia,by lia,fun b hb=>?_⟩
  rw [hb.mpr rfl,if_neg (by decide)]
  exact Vk h4 h5 h6 O DD (S3.same s4) I hm ho hc (cv.same (S3.same s4).sm) q
theorem QP (h1:H0 l=some (.lst xs)) (h2:Paired (CsAt H0) xs C) (h4:H0 p=some (.lst (ns.map V.int))) (h5:0 < ns.length) (h6:ns.length≤63) (O:X7 C) (DD:zbA H0 x d a b) (S:RunL t H0 H x d a b C st0 kn) (q:∀ H',Same H0 H'→Q (.bl true) H') :
  vY K t { nx:=fun _ H'=>Q .non H',rt:=Q } [some (.ref l),some (.ref p),some (.ref x),some (.ref d),none,none,none,none] H:=by
 simp only [vY,Vw,yK,XX,yh,yg,L2.start,zo,zQ,zr,zB,zv,tOp,zc,tC,zb,zi,xD,zE,tOr,zm,kG,tCB,zp,xS,v6,ye,rNe,rI,rI0,KJ,qD,qZ,jA,yN,yP,List.map,List.replicate,List.length,List.append,jqa,jqb,jqc,jqd,jqe,jqf,jqg,jqh,jqi,jqj,jqk,jql,jqm,jqn,and_true,true_and,and_assoc,jqo,jqp,jqq,jqr,jqs,jqt,if_true,ite_true,jqu,ite_false,if_false]
 have lx:=Paired.length h2
 have cl:=O.le
 have I0:RnI C 0 st0:=⟨⟨(fun k v e=>by cases e),(fun r h=>nomatch h),(fun r h=>nomatch h),Nat.le_refl _,Nat.le_refl _,Nat.le_refl _,Nat.le_refl _,List.nodup_nil⟩,(fun r h=>nomatch h),(fun r h=>nomatch h),fun _=>Nat.le_refl _,fun w z=>nomatch z⟩
 refine ⟨xs.length,.inl ⟨_,SqL.of (S.sm _ _ h1),rfl⟩,by lia,by lia,Yk (rlI t H0 l p x d a b C) ⟨st0,kn,⟨_,_,_,rfl⟩,S,I0,fun z=>nomatch z⟩ ?_ ?_⟩
 ·rintro i σ H1 hi ⟨s,kn,⟨o4,o5,o6,rfl⟩,S,I,wz⟩
  simp only [yK,XX,yh,yg,L2.start,zo,zQ,zr,zB,zv,tOp,zc,tC,zb,zi,xD,zE,tOr,zm,kG,tCB,zp,xS,v6,ye,rNe,rI,rI0,KJ,qD,qZ,jA,yN,yP,List.map,List.replicate,List.length,List.append,jqa,jqb,jqc,jqd,jqe,jqf,jqg,jqh,jqi,jqj,jqk,jql,jqm,jqn,and_true,true_and,and_assoc,jqo,jqp,jqq,jqr,jqs,jqt,if_true,ite_true,jqu,ite_false,if_false,Int.zero_add]
  have hi:i < C.length:=by lia
  refine ⟨_,S.L.gT,xs.length,.inl ⟨_,SqL.of (S.sm _ _ h1),rfl⟩,_,rfl,?_⟩
  by_cases c1:C.length≤s.n
  ·rw [if_pos (by lia)]
   exact YM S O I (by lia) wz (by unfold yy;rw [decide_eq_true c1,Bool.or_true]) q
  rw [if_neg (by lia)]
  refine ⟨_,S.L.gW,rfl,?_⟩
  cases e:s.why with
  | some y =>
   have nz:¬ V.str (J5 (some y))=V.str (Str.ofString ""):=fun z=>wz (by rw [e];exact congrArg some (V.str.inj z))
   rw [if_pos nz]
   exact YM S O I (by lia) wz (by unfold yy;rw [e];rfl) q
  | none =>
   rw [if_neg (fun z=>z rfl)]
   exact QO h1 h2 h4 h5 h6 O DD S I (by lia) (by unfold yy;rw [e,decide_eq_false c1];rfl) fun σ H' z=>z
 ·rintro σ H1 ⟨s,kn,⟨o4,o5,o6,rfl⟩,S,I,wz⟩
  refine YM S O I (by lia) wz ?_ q
  unfold yy
  cases e:s.why with
  | some y=>rfl
  | none =>
   have:=I.at_ e
   rw [decide_eq_true (by lia),Bool.or_true]
theorem Wn (h1:H l=some (.lst xs)) (h2:Paired (CsAt H) xs C) (O:X7 C) (h4:H p=some (.lst (ns.map V.int))) (h5:0 < ns.length) (h6:ns.length≤63) (q:∀ H',Same H H'→Q (.bl true) H') :
  kh K t { nx:=fun _ H'=>Q .non H',rt:=Q } (L2.start ["code","cells","run","state","k","step","answer","paper"] [.ref l,.ref p]) H:=by
 simp only [kh,jY,yK,XX,yh,kW,yg,Kt,L2.start,zag,KC,XO,zo,zQ,zr,zB,zv,tOp,zc,tC,yB,zb,zi,xD,zE,tOr,zm,kG,tCB,zp,xS,v6,Yc,ye,rNe,rI,rI0,KJ,qD,qZ,jA,yN,yP,List.map,List.replicate,List.length,List.append,jqa,jqb,jqc,jqd,jqe,jqf,jqg,jqh,jqi,jqj,jqk,jql,jqm,jqn,and_true,true_and,and_assoc,jqo,jqp,jqq,jqr,jqs,jqt,if_true,ite_true,jqu,ite_false,if_false]
 refine ⟨xs,.inl (SqL.of h1),fun hd hhd=>?_⟩
 have s0:=isV (o:=HO.lst xs) hd hhd
 have hh1:upd H hd (HO.lst xs) hd=some (.lst xs):=ze
 generalize upd H hd (HO.lst xs)=H1 at *
 intro x dx hx hdx nxd
 have s2:Same H1 (upd (upd H1 dx (HO.own x)) x (HO.ins t.c_Run dx [])):=fun b o e=>by rw [zk (zL e hx),zk (zL e hdx)];exact e
 refine ⟨_,ze,_,s2 _ _ hh1,C,w4 (s0.trans s2) h2,fun H3 a k3 R3 fr=>?_⟩
 obtain ⟨s3,fr⟩:=zbx (Same.refl H1) hx hdx k3 fr
 have S3:=s0.trans s3
 intro d hd'
 have t1:=isV (o:=HO.dK []) d hd'
 have e1:upd H3 d (HO.dK []) d=some (HO.dK []):=ze
 generalize upd H3 d (HO.dK [])=H4 at *
 intro sl hsl
 have t2:=isV (o:=HO.dK []) sl hsl
 have e2:upd H4 sl (HO.dK []) sl=some (HO.dK []):=ze
 generalize upd H4 sl (HO.dK [])=H5 at *
 intro kn hkn
 have t3:=isV (o:=HO.dT []) kn hkn
 have e3:upd H5 kn (HO.dT []) kn=some (HO.dT []):=ze
 generalize upd H5 kn (HO.dT [])=H6 at *
 intro gi hgi
 have t4:=isV (o:=HO.dT []) gi hgi
 have e4:upd H6 gi (HO.dT []) gi=some (HO.dT []):=ze
 generalize upd H6 gi (HO.dT [])=H7 at *
 refine ⟨by decide,fun no hno=>?_⟩
 have t5:=isV (o:=HO.lst []) no hno
 have e5:upd H7 no (HO.lst []) no=some (HO.lst []):=ze
 generalize upd H7 no (HO.lst [])=H8 at *
 refine ⟨by decide,fun sa hsa=>?_⟩
 have t6:=isV (o:=HO.lst []) sa hsa
 have e6:upd H8 sa (HO.lst []) sa=some (HO.lst []):=ze
 generalize upd H8 sa (HO.lst [])=H9 at *
 refine ⟨(t2.trans (t3.trans (t4.trans (t5.trans t6)))) _ _ e1,(lwK ⟨sl,kn,gi,no,sa⟩ 0 none),rfl,(by show (7:Nat)≤15;decide),?_⟩
 have T:=t1.trans (t2.trans (t3.trans (t4.trans (t5.trans t6))))
 have f:∀ {z:Addr} {o:HO},H9 z=some o→z≠d→upd H9 d (HO.dK (kX [] (lwK ⟨sl,kn,gi,no,sa⟩ 0 none))) z=some o:=fun e n=>by rw [zk n];exact e
 have n2:sl≠d:=xo e1 hsl
 have n3:kn≠d:=xo (t2 _ _ e1) hkn
 have n4:gi≠d:=xo ((t2.trans t3) _ _ e1) hgi
 have n5:no≠d:=xo ((t2.trans (t3.trans t4)) _ _ e1) hno
 have n6:sa≠d:=xo ((t2.trans (t3.trans (t4.trans t5))) _ _ e1) hsa
 have fr2:∀ z,LOw d ⟨sl,kn,gi,no,sa⟩ z→H3 z=none:=by
  rintro z (rfl | rfl | rfl | rfl | rfl | rfl)
  ·exact hd'
  ·exact zF t1 hsl
  ·exact zF (t1.trans t2) hkn
  ·exact zF (t1.trans (t2.trans t3)) hgi
  ·exact zF (t1.trans (t2.trans (t3.trans t4))) hno
  ·exact zF (t1.trans (t2.trans (t3.trans (t4.trans t5)))) hsa
 have T':Same H3 (upd H9 d (HO.dK (kX [] (lwK ⟨sl,kn,gi,no,sa⟩ 0 none)))):=fun z o e=>f (T _ _ e) (zL e hd')
 refine QP (H0:=H) (kn:=[]) (a:=a) (b:=⟨sl,kn,gi,no,sa⟩) h1 h2 h4 h5 h6 O ⟨fun z h=>zF s0 (fr z (.inl h)),fun z h=>zF S3 (fr2 z h),fun z h k=>R3.has h (fr2 z k)⟩ ⟨S3.trans T',R3.same T',?_⟩ q
 exact ⟨ze,f ((t3.trans (t4.trans (t5.trans t6))) _ _ e2) n2,f ((t4.trans (t5.trans t6)) _ _ e3) n3,f ((t5.trans t6) _ _ e4) n4,⟨[],f (t6 _ _ e5) n5,.nil⟩,f e6 n6,Ne.symm (xo e3 hgi),Ne.symm (xo e5 hsa),Ne.symm n2,fun _=>rfl,Nat.zero_le _⟩
end
theorem zbC {i:Nat} {j c:Int} (hj:0≤j) (hc:0 < c) (h:i < XZ 0 j c):(i:Int) * c < j:=by
 unfold XZ at h
 split at h
 ·have h2:(i:Int)≤(j - 0 - 1) / c:=by lia
  have h3:=(Int.le_ediv_iff_mul_le hc).mp h2
  lia
 ·lia
theorem zaO (ns:List Int) (k m:Nat) (hk:k < ns.length) (hm:1≤m):∃ ys:List Int,XE (ns.map V.int) (some (k:Int)) (some ((k + m:Nat):Int))=ys.map V.int∧ys.length≤m∧0 < ys.length:=by
 refine ⟨(ns.drop k).take m,?_,?_,?_⟩
 ·unfold XE
  rw [List.length_map,HT.sIx_nat,HT.sIx_nat,List.map_take,List.map_drop,Nat.min_eq_left (by lia:k≤ns.length)]
  by_cases c:k + m≤ns.length
  ·rw [Nat.min_eq_left c,Nat.add_sub_cancel_left]
  ·rw [Nat.min_eq_right (by lia)]
   rw [List.take_of_length_le (by simp),List.take_of_length_le (by simp;lia)]
 ·rw [List.length_take];lia
 ·rw [List.length_take,List.length_drop];lia
def lwI (a sa sb cl:Addr) (mn:Int) (H:Hp) (i:Nat) (σ:St) (H':Hp):Prop:=(∃ o5 o6,σ=[some (.ref a),some (.ref sa),some (.ref sb),some (.int mn),some (.ref cl),o5,o6])∧Same H H'
theorem QQ {a sa sb cl:Addr} {mn:Int} {cs:List Int} {ws us:List Str} (n1:NamesAt H sa ws) (n2:ws.length=2) (n3:NamesAt H sb us) (n4:us.length=2) (hc:H cl=some (.lst (cs.map V.int))) (lc:cs.length≤63) (m1:1≤mn) (m2:mn≤16) (q:∀ H',Q (.bl true) H') :
  YB K t { nx:=fun _ H'=>Q .non H',rt:=Q } [some (.ref a),some (.ref sa),some (.ref sb),some (.int mn),some (.ref cl),none,none] H:=by
 simp only [YB,jl,qg,j3,Xq,L2.start,zo,zQ,zr,zB,zv,tOp,zc,tC,zb,zi,xD,zE,jc,tB,tCB,tSl,x8,zp,xS,rI0,VF,yN,List.map,List.replicate,List.length,List.append,jqa,jqb,jqc,jqd,jqe,jqf,jqg,jqh,jqi,jqj,jqk,jql,jqm,jqn,and_true,true_and,and_assoc,jqo,jqp,jqq,jqr,jqs,jqt,if_true,ite_true,jqu,ite_false,if_false]
 have lm:(cs.map V.int).length=cs.length:=List.length_map ..
 refine ⟨cs.length,.inl ⟨_,SqL.of hc,by rw [lm]⟩,by lia,by lia,by lia,by lia,by lia,by lia,Vh (lwI a sa sb cl mn H) ⟨⟨_,_,rfl⟩,Same.refl H⟩ ?_ ?_⟩
 ·rintro i σ H1 hi ⟨⟨o5,o6,rfl⟩,s1⟩
  simp only [Xq,L2.start,zo,zQ,zr,zB,zv,tOp,zc,tC,zb,zi,xD,zE,jc,tB,tCB,tSl,x8,zp,xS,rI0,VF,yN,List.map,List.replicate,List.length,List.append,jqa,jqb,jqc,jqd,jqe,jqf,jqg,jqh,jqi,jqj,jqk,jql,jqm,jqn,and_true,true_and,and_assoc,jqo,jqp,jqq,jqr,jqs,jqt,if_true,ite_true,jqu,ite_false,if_false,Int.zero_add]
  refine ⟨_,SqL.of (s1 _ _ hc),fun p hp=>?_⟩
  have lt:=zbC (by lia) (by lia) hi
  have im:0≤(i:Int) * mn:=Int.mul_nonneg (by lia) (by lia)
  obtain ⟨k,ek⟩:∃ k:Nat,(i:Int) * mn=k:=⟨((i:Int) * mn).toNat,(Int.toNat_of_nonneg im).symm⟩
  obtain ⟨m,em⟩:∃ m:Nat,mn=m:=⟨mn.toNat,by lia⟩
  obtain ⟨es,ee,le,pe⟩:=zaO cs k m (by lia) (by lia)
  have e2:(i:Int) * mn + mn=((k + m:Nat):Int):=by rw [ek,em];lia
  rw [e2,ek,ee]
  have s2:=isV (o:=HO.lst (es.map V.int)) p hp
  have S2:=s1.trans s2
  have hp2:upd H1 p (HO.lst (es.map V.int)) p=some (.lst (es.map V.int)):=ze
  refine ⟨es,hp2,by lia,ws,n1.same S2,n2,us,n3.same S2,n4,fun v r H3 s3 hv ok rk lr=>?_⟩
  refine ⟨r,hv.any,ok,by lia,fun l xs H4 s4 fl hl pr=>?_⟩
  refine ⟨xs,hl,_,pr,zbZ ok rk lr,es,(s3.trans s4) _ _ hp2,pe,by lia,fun H5 s5=>?_⟩
  rw [if_neg (by decide)]
  exact ⟨⟨_,_,rfl⟩,S2.trans (s3.trans (s4.trans s5))⟩
 ·rintro σ H1 ⟨⟨o5,o6,rfl⟩,s1⟩
  simp only [W3,Xq,L2.start,zo,zQ,zr,zB,zv,tOp,zc,tC,zb,zi,xD,zE,jc,tB,tCB,tSl,x8,zp,xS,rI0,VF,yN,List.map,List.replicate,List.length,List.append,jqa,jqb,jqc,jqd,jqe,jqf,jqg,jqh,jqi,jqj,jqk,jql,jqm,jqn,and_true,true_and,and_assoc,jqo,jqp,jqq,jqr,jqs,jqt,if_true,ite_true,jqu,ite_false,if_false]
  exact q _
theorem zaP {a:Addr} {ns:List Int} (hS:SqL K H a (ns.map V.int)) (hn:ns.length≤63) (q:∀ H',Q (.bl true) H') :
  V2 K t { nx:=fun _ H'=>Q .non H',rt:=Q } (L2.start ["script","slots","shelves","many","cells","at","part"] [.ref a]) H:=by
 simp only [V2,W4,y8,zq,wD,Xq,L2.start,zo,zQ,zr,zB,zv,tOp,zc,tC,zb,zi,xD,zE,jc,tB,tCB,tSl,x8,xr,zp,xS,rI,rI0,VF,yN,List.map,List.replicate,List.length,List.append,jqa,jqb,jqc,jqd,jqe,jqf,jqg,jqh,jqi,jqj,jqk,jql,jqm,jqn,and_true,true_and,and_assoc,jqo,jqp,jqq,jqr,jqs,jqt,if_true,ite_true,jqu,ite_false,if_false]
 refine ⟨ns,0,rfl,hS,hn,fun c1 H1 s1=>⟨by decide,by decide,fun sa ws H2 s2 n1 n2=>⟨ns,1,rfl,hS.mono (s1.trans s2),hn,fun c2 H3 s3=>⟨by decide,by decide,fun sb us H4 s4 n3 n4=>?_⟩⟩⟩⟩
 have S4:=s1.trans (s2.trans (s3.trans s4))
 refine ⟨ns,0,rfl,hS.mono S4,hn,fun c3 H5 s5=>⟨by decide,by decide,fun r H6 a6 b6 s6=>⟨by decide,_,hS.mono (S4.trans (s5.trans s6)),fun p hp=>?_⟩⟩⟩
 obtain ⟨cs,ec,lc⟩:=zaI ns none (some 120)
 rw [ec]
 have s7:=isV (o:=HO.lst (cs.map V.int)) p hp
 have g1:=Int.emod_nonneg r (b:=16) (by decide)
 have g2:=Int.emod_lt_of_pos r (b:=16) (by decide)
 exact QQ (n1.same (s3.trans (s4.trans (s5.trans (s6.trans s7))))) (by lia) (n3.same (s5.trans (s6.trans s7))) (by lia) ze (by lia) (by lia) (by lia) q
end
section
variable {P:Program} {w:World} {K:W.Frag} {mg:Str→Option Value} {base:Heap} {t:Adr}
theorem zJ (T:Txt K mg t):FnOk P w K mg base (CX1 P w) 1 t.a__law_draw t.d__law_draw ["cell","j"] (zq):=by
 refine T.f__law_draw.ok0 sc__law_draw (fun vs H Q E h=>?_) (fun cdv A outer s H vs Q E hr h=>?_)
 ·obtain ⟨c,j,rfl,_⟩:=h;rfl
 obtain ⟨c,j,rfl,h1,h2,q⟩:=h
 exact ⟨jm K t,(zg (zP (i:=2) sc__law_draw.nd rfl (Or.inl rfl) (zw yj (zw z6 (zw xV (zw yj (pv 0) (zd (i:=1000000007))) (zd (i:=6700417))) (zw xV (zw xV (zw z6 (pv 1) (zd (i:=1))) (zd (i:=104729))) (zd (i:=65537)))) (zd (i:=1000000009))))
  (zh (zx (zw KL (zw yj (zw xV (zw yj (zw xV (pv 2) (pv 2)) (zd (i:=1000000009))) (pv 2)) (zd (i:=1000000009))) (zd (i:=32)))))),YU h1 h2 q⟩
theorem kR (T:Txt K mg t):FnOk P w K mg base (CX1 P w) 2 t.a__law_names t.d__law_names ["cell","many"] (wD):=by
 refine T.f__law_names.ok0 sc__law_names (fun vs H Q E h=>?_) (fun cdv A outer s H vs Q E hr h=>?_)
 ·obtain ⟨c,m,rfl,_⟩:=h;rfl
 obtain ⟨c,m,rfl,h1,h2,q⟩:=h
 exact ⟨vQ K t,(zg (zP (i:=2) sc__law_names.nd rfl (Or.inl rfl) (zw z6 (zd (i:=1)) (zw yj (zt (FnOk.mono (zJ T) (by decide)) hr rfl T.m__law_draw T.f__law_draw.kp T.b__law_draw .nil zC (za (pv 0) (za (zd (i:=1)) zf))) (zd (i:=6)))))
  (zg (zP (i:=3) sc__law_names.nd rfl (Or.inr rfl) (zl (x:="zyxwvtsrqpnmlkjhgfdcb")))
  (zg (zM (zn yi (pv 2) (zd (i:=6)) (zy _)) (zh (zP (i:=3) sc__law_names.nd rfl (Or.inr rfl) (zl (x:="zyxwvutsrqponmlkjihgfedcba"))))
    zA)
  (zg (zP (i:=4) sc__law_names.nd rfl (Or.inr rfl) (zl (x:="")))
  (zg (jG PassesOwn.never rfl (qS rfl T.b_range (za (pv 2) zf)) (wW (i:=5) sc__law_names.nd rfl (Or.inl rfl)) (zh (zP (i:=4) sc__law_names.nd rfl (Or.inr rfl) (zw jg (pv 4) (zG Kv (pv 3) (zw yj (zt (FnOk.mono (zJ T) (by decide)) hr rfl T.m__law_draw T.f__law_draw.kp T.b__law_draw .nil zC (za (pv 0) (za (zw z6 (zd (i:=2)) (pv 5)) zf))) (zV yA rfl T.b_len xF (za (pv 3) zf))) (fun _ _=>rfl))))))
  (zg (zP (i:=6) sc__law_names.nd rfl (Or.inr rfl) (zw yj (zt (FnOk.mono (zJ T) (by decide)) hr rfl T.m__law_draw T.f__law_draw.kp T.b__law_draw .nil zC (za (pv 0) (za (zd (i:=8)) zf))) (pv 2)))
  (zg (zP (i:=7) sc__law_names.nd rfl (Or.inl rfl) (zw yj (zt (FnOk.mono (zJ T) (by decide)) hr rfl T.m__law_draw T.f__law_draw.kp T.b__law_draw .nil zC (za (pv 0) (za (zd (i:=9)) zf))) (zV yA rfl T.b_len xF (za (pv 3) zf))))
  (zg (zP (i:=3) sc__law_names.nd rfl (Or.inr rfl) (zw jg (v7 XU (pv 3) (jh (pv 7)) qw) (v7 XU (pv 3) qw (jh (pv 7)))))
  (zh (zx (Q9 rfl (osc:=zj yZ) (N:=["cell","many","size","signs","stem","k","at","turn"]) (xs:=["k"]) (ix:=[4,6,3]) (by decide +kernel) (qS rfl T.b_range (za (pv 1) zf)) (fun _ _ _ _=>(wW (i:=0) (show List.Nodup (["k","stem","at","signs"]:List Str) from (by decide +kernel)) rfl (Or.inl rfl) (.inr rfl))) (fun _ _ _ _=>Q8) (fun _ _ _ _=>(zw jg (zw jg (v7 XU (pv 1) qw (jh (pv 2))) (zG Kv (pv 3) (pv 0) (fun _ _=>rfl))) (v7 XU (pv 1) (jh (zw z6 (pv 2) (zd (i:=1)))) qw)))))))))))))),YE h1 h2 q⟩
theorem wU (T:Txt K mg t):FnOk P w K mg base (CX1 P w) 1 t.a__law_cell_at t.d__law_cell_at ["script","k"] (y8 K):=by
 refine T.f__law_cell_at.ok0 ZD (fun vs H Q E h=>?_) (fun cdv A outer s H vs Q E hr h=>?_)
 ·obtain ⟨a,ns,k,rfl,_⟩:=h;rfl
 obtain ⟨a,ns,k,rfl,hS,hl,q⟩:=h
 exact ⟨wR K t,(zg (zM (zn jI (pv 1) (zV yA rfl T.b_len xF (za (pv 0) zf)) (zy _)) (zh (zx (zG zU (pv 0) (pv 1) (fun _ _=>rfl))))
   zA)
  (zh (zx (zd (i:=0))))),Zj hS hl q⟩
theorem Vl (T:Txt K mg t):FnOk P w K mg base (CX1 P w) 1 t.a_Run_init t.d_Run_init ["self","code"] (jY t):=by
 refine T.f_Run_init.ok0 WX (fun vs H Q E h=>?_) (fun cdv A outer s H vs Q E hr h=>?_)
 ·obtain ⟨x,l,dx,xs,C,rfl,_⟩:=h;rfl
 obtain ⟨x,l,dx,xs,C,rfl,h1,h2,h3,q⟩:=h
 exact ⟨j4 K t,(zg (vL (f:="code") (pv 0) (xH qx rfl T.b_list ZQ (za (pv 1) zf)) rfl)
  (zg (vL (f:="at") (pv 0) (zd (i:=0)) rfl)
  (zg (vL (f:="why") (pv 0) xl rfl)
  (zg (vL (f:="slots") (pv 0) Wy rfl)
  (zg (vL (f:="gifts") (pv 0) qA rfl)
  (zg (vL (f:="notes") (pv 0) qA rfl)
  (zh (vL (f:="sayings") (pv 0) (yG zf) rfl)))))))),We (rnF T) h1 h2 h3 q⟩
theorem wM (T:Txt K mg t):FnOk P w K mg base (CX1 P w) 1 t.a_Run_over t.d_Run_over ["self"] (yq t):=by
 refine T.f_Run_over.ok0 WY (fun vs H Q E h=>?_) (fun cdv A outer s H vs Q E hr h=>?_)
 ·obtain ⟨x,a,C,s,rfl,_⟩:=h;rfl
 obtain ⟨x,a,C,s,rfl,h1,q⟩:=h
 exact ⟨j5 K t,(zh (zx (zbG (vH ZN (yn (f:="why") (pv 0) rfl) xl (zy _)) (Vv (vH zaR (yn (f:="at") (pv 0) rfl) (zV yA rfl T.b_len xF (za (yn (f:="code") (pv 0) rfl) zf)) (zy _)))))),Wd (rnF T) h1 q⟩
theorem qP (T:Txt K mg t):FnOk P w K mg base (CX1 P w) 2 t.a_Run_paper t.d_Run_paper ["self"] (xX t):=by
 refine T.f_Run_paper.ok0 sc_Run_paper (fun vs H Q E h=>?_) (fun cdv A outer s H vs Q E hr h=>?_)
 ·obtain ⟨x,a,C,s,rfl,_⟩:=h;rfl
 obtain ⟨x,a,C,s,rfl,h1,h2,h3,h4,q1,q2⟩:=h
 exact ⟨jn K t,(zg (zM (qR (xC (xU (pv 0) T.cl_Run T.me_Run_over (FnOk.mono (wM T) (by decide)) hr T.b_Run_over .nil zC))) (zh (zx xl))
   zA)
  (zg (zP (i:=1) sc_Run_paper.nd rfl (Or.inl rfl) (xH (ZA rfl) rfl T.b_list ZQ (za (Yx (yn (f:="notes") (pv 0) rfl)) zf)))
  (zg (zM (zn ZN (yn (f:="why") (pv 0) rfl) xl (zy _)) (zh (zx (zW (za (zW (za (zl (x:="off")) (za (yn (f:="why") (pv 0) rfl) zf))) (za (pv 1) (za (yG zf) zf))))))
    zA)
  (zh (zx (zW (za (zW (za (zl (x:="done")) (za (xH kJ rfl T.b_tuple Yg (za (yn (f:="sayings") (pv 0) rfl) zf)) zf))) (za (pv 1) (za (zV (vJ rfl (hu3 hr)) rfl T.b_sorted Xj (za (Yx (yn (f:="gifts") (pv 0) rfl)) zf)) zf))))))))),YW (rnF T) h1 h2 h3 h4 q1 q2⟩
theorem x0 (T:Txt K mg t):FnOk P w K mg base (CX1 P w) 2 t.a__law_number t.d__law_number ["cell","j"] (yk):=by
 refine T.f__law_number.ok0 Yz (fun vs H Q E h=>?_) (fun cdv A outer s H vs Q E hr h=>?_)
 ·obtain ⟨c,j,rfl,_⟩:=h;rfl
 obtain ⟨c,j,rfl,h1,h2,q⟩:=h
 exact ⟨vo K t,(zg (zM (zn yi (zw yj (zt (FnOk.mono (zJ T) (by decide)) hr rfl T.m__law_draw T.f__law_draw.kp T.b__law_draw .nil zC (za (pv 0) (za (pv 1) zf))) (zd (i:=10))) (zd (i:=3)) (zy _)) (zh (zx (zw kT (zw yj (zw z6 (zw xV (zw xV (zw yj (pv 0) (zw jH (zd (i:=10)) (zd (i:=40)))) (zw z6 (pv 1) (zd (i:=2)))) (zd (i:=1000003))) (pv 1)) (zw z6 (zw xV (zd (i:=2)) (zw jH (zd (i:=10)) (zd (i:=30)))) (zd (i:=1)))) (zw jH (zd (i:=10)) (zd (i:=30))))))
   zA)
  (zh (zx (zw kT (zw yj (zt (FnOk.mono (zJ T) (by decide)) hr rfl T.m__law_draw T.f__law_draw.kp T.b__law_draw .nil zC (za (pv 0) (za (zw z6 (pv 1) (zd (i:=1))) zf))) (zd (i:=6))) (zd (i:=2)))))),ZJ h1 h2 q⟩
theorem Vm (T:Txt K mg t):FnOk P w K mg base (CX1 P w) 1 t.a__law_two t.d__law_two ["one","other","word"] (vK):=by
 refine T.f__law_two.ok0 sc__law_two (fun vs H Q E h=>?_) (fun cdv A outer s H vs Q E hr h=>?_)
 ·obtain ⟨a,b,w,rfl,_⟩:=h;rfl
 obtain ⟨a,b,w,rfl,h1,h2,h3,q⟩:=h
 exact ⟨j8 K t,(zg (zM (PW.pt (jd (zn w5 (pv 2) (zW (za (zl (x:="over")) (za (zl (x:="rest")) zf))) (by with_unfolding_all rfl)) (vG (zn yi (pv 1) (zd (i:=0)) (zy _))))) (zh (zx (zl (x:="nought"))))
   zA)
  (zg (zM (zn yi (pv 2) (zl (x:="over")) (zy _)) (zh (zx (zw Yn (pv 0) (pv 1))))
    zA)
  (zg (zM (zn yi (pv 2) (zl (x:="rest")) (zy _)) (zh (zx (zw kT (pv 0) (zw xV (zw Yn (pv 0) (pv 1)) (pv 1)))))
    zA)
  (zg (zM (zn yi (pv 2) (zl (x:="under")) (zy _)) (zh (zx (xH jL rfl T.b_int q9 (za (vH jI (pv 0) (pv 1) (zy _)) zf))))
    zA)
  (zg (zM (zn yi (pv 2) (zl (x:="same")) (zy _)) (zh (zx (xH jL rfl T.b_int q9 (za (vH yi (pv 0) (pv 1) (zy _)) zf))))
    zA)
  (zg (zP (i:=3) sc__law_two.nd rfl (Or.inl rfl) (zw xV (pv 0) (pv 1)))
  (zg (zM (zn yi (pv 2) (zl (x:="plus")) (zy _)) (zh (zP (i:=3) sc__law_two.nd rfl (Or.inl rfl) (zw z6 (pv 0) (pv 1))))
    zA)
  (zg (zM (zn yi (pv 2) (zl (x:="minus")) (zy _)) (zh (zP (i:=3) sc__law_two.nd rfl (Or.inl rfl) (zw kT (pv 0) (pv 1))))
    zA)
  (zg (zM (PW.pt (Z0 (zn Jg (pv 3) (zw jH (zd (i:=10)) (zd (i:=30))) (zy _)) (kS (zn jI (pv 3) (qt jf (zw jH (zd (i:=10)) (zd (i:=30)))) (zy _))))) (zh (zx (zl (x:="great"))))
    zA)
  (zh (zx (pv 3)))))))))))),Wj h1 h2 h3 q⟩
theorem v5 (T:Txt K mg t):FnOk P w K mg base (CX1 P w) 2 t.a__law_worth t.d__law_worth ["term","slots"] (yz):=by
 refine T.f__law_worth.ok0 sc__law_worth (fun vs H Q E h=>?_) (fun cdv A outer s H vs Q E hr h=>?_)
 ·obtain ⟨tm,sl,e,kvs,rfl,_⟩:=h;rfl
 obtain ⟨tm,sl,e,kvs,rfl,h1,h2,h3,h4,q⟩:=h
 exact ⟨vS K t,(zg (zP (i:=2) sc__law_worth.nd rfl (Or.inl rfl) (yG zf))
  (zg (jG PassesOwn.never rfl (Km (pv 0)) (wW (i:=3) sc__law_worth.nd rfl (Or.inl rfl)) (zh (zM (zn w5 (pv 3) (zW (za (zl (x:="plus")) (za (zl (x:="minus")) (za (zl (x:="times")) (za (zl (x:="over")) (za (zl (x:="rest")) (za (zl (x:="under")) (za (zl (x:="same")) zf)))))))) (by with_unfolding_all rfl)) (zg (zP (i:=4) sc__law_worth.nd rfl (Or.inl rfl) (qV PySem.F.plainAttrs_list PySem.F.slot_list_pop PySem.F.type_list_pop qW (pv 2)))
  (zg (zP (i:=5) sc__law_worth.nd rfl (Or.inl rfl) (zt (FnOk.mono (Vm T) (by decide)) hr rfl T.m__law_two T.f__law_two.kp T.b__law_two .nil zC (za (qV PySem.F.plainAttrs_list PySem.F.slot_list_pop PySem.F.type_list_pop qW (pv 2)) (za (pv 4) (za (pv 3) zf)))))
  (zg (zM (xC (zV xW rfl T.b_isinstance yd (za (pv 5) (za (xq rfl T.b_str q8 rfl) zf)))) (zh (zx (pv 5)))
    zA)
  (zh (yD (vI PySem.F.plainAttrs_list PySem.F.slot_list_append PySem.F.type_list_append yr (pv 2) (za (pv 5) zf)))))))
   (zh (zM (xC (zV xW rfl T.b_isinstance yd (za (pv 3) (za (xq rfl T.b_int q9 rfl) zf)))) (zh (yD (vI PySem.F.plainAttrs_list PySem.F.slot_list_append PySem.F.type_list_append yr (pv 2) (za (pv 3) zf))))
   (zh (yD (vI PySem.F.plainAttrs_list PySem.F.slot_list_append PySem.F.type_list_append yr (pv 2) (za (Wz (z8 hr) (pv 1) (pv 3) (zd (i:=0)) ⟨rfl,rfl,rfl,rfl⟩) zf)))))))))
  (zh (zx (zG zU (pv 2) (zd (i:=0)) (fun _ _=>rfl)))))),YK (kf K) h1 h2 h3 h4 q⟩
theorem Y2 (T:Txt K mg t):FnOk P w K mg base (CX1 P w) 1 t.a__law_moved t.d__law_moved ["step","first","second","state","answer"] (vP):=by
 refine T.f__law_moved.ok0 sc__law_moved (fun vs H Q E h=>?_) (fun cdv A outer s H vs Q E hr h=>?_)
 ·obtain ⟨v,i,j,d,w,c,a,s,kn,m,rfl,_⟩:=h;rfl
 obtain ⟨v,i,j,d,w,c,a,s,kn,m,rfl,h1,h2,h3,h4,q⟩:=h
 exact ⟨vT K t,(zh (zM (zn yi (zG zR (pv 0) (zd (i:=0)) (fun _ _=>rfl)) (zl (x:="take")) (zy _)) (zg (zP (i:=5) sc__law_moved.nd rfl (Or.inl rfl) (zW (za (zG zR (pv 0) (zd (i:=1)) (fun _ _=>rfl)) (za (pv 1) zf))))
  (zg (zM (zn (Yu (z8 hr)) (pv 5) (ya (z8 hr) (pv 3) (zl (x:="known")) (fun _ _=>rfl)) (by with_unfolding_all rfl)) (zg (xB (z8 hr) (ya (z8 hr) (pv 3) (zl (x:="known")) (fun _ _=>rfl)) (pv 5) (pv 4) rfl)
  (zh (yD (vI PySem.F.plainAttrs_list PySem.F.slot_list_append PySem.F.type_list_append yr (ya (z8 hr) (pv 3) (zl (x:="notes")) (fun _ _=>rfl)) (za (zW (za (pv 5) (za (pv 4) zf))) zf)))))
   zA)
  (zh (xB (z8 hr) (ya (z8 hr) (pv 3) (zl (x:="slots")) (fun _ _=>rfl)) (zG zR (pv 0) (zd (i:=3)) (fun _ _=>rfl)) (ya (z8 hr) (ya (z8 hr) (pv 3) (zl (x:="known")) (fun _ _=>rfl)) (pv 5) (fun _ _=>rfl)) rfl))))
   (zh (zM (zn yi (zG zR (pv 0) (zd (i:=0)) (fun _ _=>rfl)) (zl (x:="give")) (zy _)) (zg (xB (z8 hr) (ya (z8 hr) (pv 3) (zl (x:="known")) (fun _ _=>rfl)) (zW (za (zG zR (pv 0) (zd (i:=1)) (fun _ _=>rfl)) (za (pv 1) zf))) (pv 2) rfl)
  (zh (xB (z8 hr) (ya (z8 hr) (pv 3) (zl (x:="given")) (fun _ _=>rfl)) (zW (za (zG zR (pv 0) (zd (i:=1)) (fun _ _=>rfl)) (za (pv 1) zf))) (pv 2) rfl)))
   (zh (zM (zn yi (zG zR (pv 0) (zd (i:=0)) (fun _ _=>rfl)) (zl (x:="let")) (zy _)) (zh (xB (z8 hr) (ya (z8 hr) (pv 3) (zl (x:="slots")) (fun _ _=>rfl)) (zG zR (pv 0) (zd (i:=1)) (fun _ _=>rfl)) (pv 1) rfl))
   (zh (zM (zn yi (zG zR (pv 0) (zd (i:=0)) (fun _ _=>rfl)) (zl (x:="say")) (zy _)) (zh (yD (vI PySem.F.plainAttrs_list PySem.F.slot_list_append PySem.F.type_list_append yr (ya (z8 hr) (pv 3) (zl (x:="said")) (fun _ _=>rfl)) (za (pv 1) zf))))
   zA)))))))),YL h1 h2 h3 h4 q⟩
theorem YN (T:Txt K mg t):FnOk P w K mg base (CX1 P w) 3 t.a__law_walked t.d__law_walked ["step","state","answer"] (vn):=by
 refine T.f__law_walked.ok0 sc__law_walked (fun vs H Q E h=>?_) (fun cdv A outer s H vs Q E hr h=>?_)
 ·obtain ⟨v,d,w,c,a,s,kn,m,rfl,_⟩:=h;rfl
 obtain ⟨v,d,w,c,a,s,kn,m,rfl,h1,h2,h3,h4,h5,h6,q⟩:=h
 exact ⟨xZ K t,(zg (zM (zn yi (zG zR (pv 0) (zd (i:=0)) (fun _ _=>rfl)) (zl (x:="go")) (zy _)) (zh (zx (zG zR (pv 0) (zd (i:=1)) (fun _ _=>rfl))))
   zA)
  (zg (zP (i:=3) sc__law_walked.nd rfl (Or.inl rfl) (zt (FnOk.mono (v5 T) (by decide)) hr rfl T.m__law_worth T.f__law_worth.kp T.b__law_worth .nil zC (za (zG zR (pv 0) (zw z6 (zd (i:=1)) (xH jL rfl T.b_int q9 (za (vH w5 (zG zR (pv 0) (zd (i:=0)) (fun _ _=>rfl)) (zW (za (zl (x:="take")) (za (zl (x:="give")) (za (zl (x:="let")) zf)))) (by with_unfolding_all rfl)) zf))) (fun _ _=>rfl)) (za (ya (z8 hr) (pv 1) (zl (x:="slots")) (fun _ _=>rfl)) zf))))
  (zg (zP (i:=4) sc__law_walked.nd rfl (Or.inl rfl) (pv 3))
  (zg (zM (PW.pt (jd (zn yi (zG zR (pv 0) (zd (i:=0)) (fun _ _=>rfl)) (zl (x:="give")) (zy _)) (vG (qR (xC (zV xW rfl T.b_isinstance yd (za (pv 3) (za (xq rfl T.b_str q8 rfl) zf)))))))) (zh (zP (i:=4) sc__law_walked.nd rfl (Or.inl rfl) (zt (FnOk.mono (v5 T) (by decide)) hr rfl T.m__law_worth T.f__law_worth.kp T.b__law_worth .nil zC (za (zG zR (pv 0) (zd (i:=3)) (fun _ _=>rfl)) (za (ya (z8 hr) (pv 1) (zl (x:="slots")) (fun _ _=>rfl)) zf)))))
    zA)
  (zg (zM (xC (zV xW rfl T.b_isinstance yd (za (pv 4) (za (xq rfl T.b_str q8 rfl) zf)))) (zg (xB (z8 hr) (pv 1) (zl (x:="why")) (pv 4) rfl)
  (zh (zx (ya (z8 hr) (pv 1) (zl (x:="at")) (fun _ _=>rfl)))))
   zA)
  (zg (zM (PW.pt (jd (zn yi (zG zR (pv 0) (zd (i:=0)) (fun _ _=>rfl)) (zl (x:="off")) (zy _)) (vG (zn Y7 (pv 3) (zd (i:=0)) (zy _))))) (zh (xB (z8 hr) (pv 1) (zl (x:="why")) (zl (x:="told")) rfl))
    zA)
  (zg (zM (PW.pt (jd (zn yi (zG zR (pv 0) (zd (i:=0)) (fun _ _=>rfl)) (zl (x:="skip")) (zy _)) (vG (zn yi (pv 3) (zd (i:=0)) (zy _))))) (zh (zx (zG zR (pv 0) (zd (i:=2)) (fun _ _=>rfl))))
    zA)
  (zg (yD (zt (FnOk.mono (Y2 T) (by decide)) hr rfl T.m__law_moved T.f__law_moved.kp T.b__law_moved .nil zC (za (pv 0) (za (pv 3) (za (pv 4) (za (pv 1) (za (pv 2) zf)))))))
  (zh (zx (zw z6 (ya (z8 hr) (pv 1) (zl (x:="at")) (fun _ _=>rfl)) (zd (i:=1))))))))))))),ZM (kf K) h1 h2 h3 h4 h5 h6 q⟩
theorem Y3 (T:Txt K mg t):∀ n,FnOk P w K mg base (CX1 P w) (1 + n) t.a__law_plain t.d__law_plain ["found"] (xh n):=by
 intro n
 induction n with
 | zero=>exact ⟨fun vs H Q E h=>(kt h).elim,fun A outer s H args us vs Q E hr he hb hv h=>(kt h).elim⟩
 | succ n IH =>
 refine T.f__law_plain.ok0 sc__law_plain (k:=1 + n) (fun vs H Q E h=>?_) (fun cdv A outer s H vs Q E hr h=>?_)
 ·obtain ⟨v,rfl,_⟩:=h;rfl
 obtain ⟨v,rfl,h1,q⟩:=h
 exact ⟨vU K t n,(zg (zM (xC (zV Xs rfl T.b_isinstance yd (za (pv 0) (za (zW (za (xq rfl T.b_list ZQ rfl) (za (xq rfl T.b_tuple Yg rfl) zf))) zf)))) (zg (jG PassesOwn.never rfl (zbr (pv 0)) (wW (i:=1) sc__law_plain.nd rfl (Or.inl rfl)) (zh (zM (qR (xC (zt (FnOk.mono IH (by lia)) hr rfl T.m__law_plain T.f__law_plain.kp T.b__law_plain .nil zC (za (pv 1) zf)))) (zh (zx (kF (b:=false))))
   zA)))
  (zh (zx (kF (b:=true)))))
   zA)
  (zh (zx (XB (zV Xs rfl T.b_isinstance yd (za (pv 0) (za (zW (za (xq rfl T.b_int q9 rfl) (za (xq rfl T.b_str q8 rfl) zf))) zf))) (Vv (za9 (zV xW rfl T.b_isinstance yd (za (pv 0) (za (xq rfl T.b_bool Jl rfl) zf))))))))),YH (kf K) h1 q⟩
theorem V8 (T:Txt K mg t):FnOk P w K mg base (CX1 P w) 1 t.a_divided t.d_divided ["word","first","second"] (qe t):=by
 refine T.f_divided.ok1 VY (fun vs H Q E h=>?_) (fun cdv A outer s H vs Q E hr h=>?_)
 ·obtain ⟨w,a,b,rfl,_⟩:=h;rfl
 obtain ⟨w,a,b,rfl,hw,ha,hb,q⟩:=h
 exact ⟨qj K t E,(zg (zM (zn yi (pv 2) (zd (i:=0)) (zy _)) (zh (WF rfl T.x_Nought Jm rfl T.g_Nought (za (Jn (pv 0)) zf)))
   zA)
  (zh (zx (jF (zn yi (pv 0) (zl (x:="over")) (zy _)) (zw Yn (pv 1) (pv 2)) (zw QW (pv 1) (pv 2)))))),W5 hw ha hb q⟩
theorem V9 (T:Txt K mg t):FnOk P w K mg base (CX1 P w) 2 t.a_come_to t.d_come_to ["word","first","second"] (qf t):=by
 refine T.f_come_to.ok1 VZ (fun vs H Q E h=>?_) (fun cdv A outer s H vs Q E hr h=>?_)
 ·obtain ⟨w,a,b,rfl,_⟩:=h;rfl
 obtain ⟨w,a,b,rfl,hw,ha,hb,q⟩:=h
 exact ⟨qk K t E,(zg (zM (zn yi (pv 0) (zl (x:="plus")) (zy _)) (zh (zx (zw z6 (pv 1) (pv 2))))
   zA)
  (zg (zM (zn yi (pv 0) (zl (x:="minus")) (zy _)) (zh (zx (zw kT (pv 1) (pv 2))))
    zA)
  (zg (zM (zn yi (pv 0) (zl (x:="times")) (zy _)) (zh (zx (zw xV (pv 1) (pv 2))))
    zA)
  (zg (zM (zn yi (pv 0) (zl (x:="under")) (zy _)) (zh (zx (jF (zn jI (pv 1) (pv 2) (zy _)) (zd (i:=1)) (zd (i:=0)))))
    zA)
  (zg (zM (zn yi (pv 0) (zl (x:="same")) (zy _)) (zh (zx (jF (zn yi (pv 1) (pv 2) (zy _)) (zd (i:=1)) (zd (i:=0)))))
    zA)
  (zh (zx (zt (FnOk.mono (V8 T) (by decide)) hr rfl T.m_divided T.f_divided.kp T.b_divided .nil vg (za (pv 0) (za (pv 1) (za (pv 2) zf))))))))))),W6 hw ha hb q⟩
theorem Vn (T:Txt K mg t):FnOk P w K mg base (CX1 P w) 1 t.a_is_worth t.d_is_worth ["thing"] (jU):=by
 refine T.f_is_worth.ok0 WZ (fun vs H Q E h=>?_) (fun cdv A outer s H vs Q E hr h=>?_)
 ·obtain ⟨i,rfl,_⟩:=h;rfl
 obtain ⟨i,rfl,q⟩:=h
 exact ⟨j9 K t,(zg (zM (PW.pt (Z0 (qR (xC (zV xW rfl T.b_isinstance yd (za (pv 0) (za (xq rfl T.b_int q9 rfl) zf))))) (kS (xC (zV xW rfl T.b_isinstance yd (za (pv 0) (za (xq rfl T.b_bool Jl rfl) zf))))))) (zh (zx (kF (b:=false))))
   zA)
  (zh (zx (Kq zaQ zaQ (qt jf (zw jH (zd (i:=10)) (zd (i:=30)))) (pv 0) (zw jH (zd (i:=10)) (zd (i:=30))))))),X9 (kf K).i_b q⟩
theorem Ke (T:Txt K mg t):FnOk P w K mg base (CX1 P w) 3 t.a_joined t.d_joined ["word","first","second"] (Zg t):=by
 refine T.f_joined.ok1 sc_joined (fun vs H Q E h=>?_) (fun cdv A outer s H vs Q E hr h=>?_)
 ·obtain ⟨w,a,b,rfl,_⟩:=h;rfl
 obtain ⟨w,a,b,rfl,hw,ha,hb,q⟩:=h
 exact ⟨Zi K t E,(zg (zP (i:=3) sc_joined.nd rfl (Or.inl rfl) (zt (FnOk.mono (V9 T) (by decide)) hr rfl T.m_come_to T.f_come_to.kp T.b_come_to .nil vg (za (pv 0) (za (pv 1) (za (pv 2) zf)))))
  (zg (zM (qR (xC (zt (FnOk.mono (Vn T) (by decide)) hr rfl T.m_is_worth T.f_is_worth.kp T.b_is_worth .nil vg (za (pv 3) zf)))) (zh (WF rfl T.x_Great Jm rfl T.g_Great (za (Jn (pv 0)) zf)))
    zA)
  (zh (zx (pv 3))))),V3 hw ha hb q⟩
theorem Vo (T:Txt K mg t):FnOk P w K mg base (CX1 P w) 4 t.a_reckoned t.d_reckoned ["term","slots"] (jV t):=by
 refine T.f_reckoned.ok1 sc_reckoned (fun vs H Q E h=>?_) (fun cdv A outer s H vs Q E hr h=>?_)
 ·obtain ⟨kvs,tm,sl,ps,r,rfl,_⟩:=h;rfl
 obtain ⟨kvs,tm,sl,ps,r,rfl,h1,h2,h3,h4,h5,h6,q⟩:=h
 exact ⟨ka K t E,(zg (zP (i:=2) sc_reckoned.nd rfl (Or.inl rfl) (yG zf))
  (zg (jG zcd rfl (Km (pv 0)) (wW (i:=3) sc_reckoned.nd rfl (Or.inl rfl)) (zh (zM (zn w5 (pv 3) (QT rfl T.g_JOINING rfl) (by with_unfolding_all rfl)) (zg (zP (i:=4) sc_reckoned.nd rfl (Or.inl rfl) (qV PySem.F.plainAttrs_list PySem.F.slot_list_pop PySem.F.type_list_pop qW (pv 2)))
  (zg (zP (i:=5) sc_reckoned.nd rfl (Or.inl rfl) (qV PySem.F.plainAttrs_list PySem.F.slot_list_pop PySem.F.type_list_pop qW (pv 2)))
  (zh (yD (vI PySem.F.plainAttrs_list PySem.F.slot_list_append PySem.F.type_list_append yr (pv 2) (za (zt (FnOk.mono (Ke T) (by decide)) hr rfl T.m_joined T.f_joined.kp T.b_joined .nil vg (za (pv 3) (za (pv 5) (za (pv 4) zf)))) zf))))))
   (zh (yD (vI PySem.F.plainAttrs_list PySem.F.slot_list_append PySem.F.type_list_append yr (pv 2) (za (jF (xC (zV xW rfl T.b_isinstance yd (za (pv 3) (za (xq rfl T.b_str q8 rfl) zf)))) (Wz (z8 hr) (pv 1) (pv 3) (zd (i:=0)) ⟨rfl,rfl,rfl,rfl⟩) (pv 3)) zf)))))))
  (zh (zx (qV PySem.F.plainAttrs_list PySem.F.slot_list_pop PySem.F.type_list_pop qW (pv 2)))))),Wa (kf K).i_s T.v_JOINING h1 h2 h3 h4 h5 h6 q⟩
theorem yH (T:Txt K mg t):FnOk P w K mg base (CX1 P w) 5 t.a_Run_worth_of t.d_Run_worth_of ["self","term"] (zN t):=by
 refine T.f_Run_worth_of.ok1 ZE (fun vs H Q E h=>?_) (fun cdv A outer s H vs Q E hr h=>?_)
 ·obtain ⟨x,tm,e,a,C,s,rfl,_⟩:=h;rfl
 obtain ⟨x,tm,e,a,C,s,rfl,h1,h2,h3,h4,q⟩:=h
 exact ⟨wS K t E,(zh (zx (zt (FnOk.mono (Vo T) (by decide)) hr rfl T.m_reckoned T.f_reckoned.kp T.b_reckoned .nil vg (za (pv 1) (za (yn (f:="slots") (pv 0) rfl) zf))))),Zk (rnF T) h1 h2 h3 h4 q⟩
theorem wV (T:Txt K mg t):FnOk P w K mg base (CX1 P w) 6 t.a_Run_place_in t.d_Run_place_in ["self","due"] (z9 t):=by
 refine T.f_Run_place_in.ok1 ZF (fun vs H Q E h=>?_) (fun cdv A outer s H vs Q E hr h=>?_)
 ·obtain ⟨x,p,xs,sh,te,e,a,C,s,rfl,_⟩:=h;rfl
 obtain ⟨x,p,xs,sh,te,e,a,C,s,rfl,h1,h2,h3,h4,h5,h6,h7,q1,q2⟩:=h
 exact ⟨wT K t E,(zh (zx (zW (za (zG zR (pv 1) (zd (i:=1)) (fun _ _=>rfl)) (za (xT (pv 0) T.cl_Run T.me_Run_worth_of (FnOk.mono (yH T) (by decide)) hr T.b_Run_worth_of .nil vg (za (zG zR (pv 1) (zd (i:=2)) (fun _ _=>rfl)) zf)) zf))))),Zl (rnF T) h1 h2 h3 h4 h5 h6 h7 q1 q2⟩
theorem Zw (T:Txt K mg t):FnOk P w K mg base (CX1 P w) 7 t.a_Run_asks t.d_Run_asks ["self"] (wK t):=by
 refine T.f_Run_asks.ok0 sc_Run_asks (fun vs H Q E h=>?_) (fun cdv A outer s H vs Q E hr h=>?_)
 ·obtain ⟨x,a,C,s,rfl,_⟩:=h;rfl
 obtain ⟨x,a,C,s,rfl,h1,h2,h3,q1,q2⟩:=h
 exact ⟨kc K t,(zg (zM (PW.pt (Z0 (xC (xU (pv 0) T.cl_Run T.me_Run_over (FnOk.mono (wM T) (by decide)) hr T.b_Run_over .nil zC)) (kS (zn Y7 (zG zR (zG zU (yn (f:="code") (pv 0) rfl) (yn (f:="at") (pv 0) rfl) (fun _ _=>rfl)) (zd (i:=0)) (fun _ _=>rfl)) (zl (x:="take")) (zy _))))) (zh (zx xl))
   zA)
  (zg (zau (And.intro rfl rfl) rfl (zab (i:=1) sc_Run_asks.nd rfl (Or.inl rfl) (WN (pv 0) T.cl_Run T.me_Run_place_in (FnOk.mono (wV T) (by decide)) hr T.b_Run_place_in (za (zG zU (yn (f:="code") (pv 0) rfl) (yn (f:="at") (pv 0) rfl) (fun _ _=>rfl)) zf))) rfl T.g_Great rfl T.g_Nought (fun _=>(zh (zx xl))))
  (zg (zM (PW.pt (Z0 (zn (ZU (z8 hr)) (pv 1) (yn (f:="gifts") (pv 0) rfl) (by with_unfolding_all rfl)) (kS (zn (ZU (z8 hr)) (pv 1) (yn (f:="notes") (pv 0) rfl) (by with_unfolding_all rfl))))) (zh (zx xl))
    zA)
  (zh (zx (pv 1)))))),Wg T h1 h2 h3 q1 q2⟩
theorem YO (T:Txt K mg t):FnOk P w K mg base (CX1 P w) 3 t.a__law_wanted t.d__law_wanted ["step","state"] (vm):=by
 refine T.f__law_wanted.ok0 sc__law_wanted (fun vs H Q E h=>?_) (fun cdv A outer s H vs Q E hr h=>?_)
 ·obtain ⟨v,d,c,a,s,kn,rfl,_⟩:=h;rfl
 obtain ⟨v,d,c,a,s,kn,rfl,h1,h2,h3,h4,q1,q2⟩:=h
 exact ⟨vp K t,(zg (zM (zn Y7 (zG zR (pv 0) (zd (i:=0)) (fun _ _=>rfl)) (zl (x:="take")) (zy _)) (zh (zx xl))
   zA)
  (zg (zP (i:=2) sc__law_wanted.nd rfl (Or.inl rfl) (zt (FnOk.mono (v5 T) (by decide)) hr rfl T.m__law_worth T.f__law_worth.kp T.b__law_worth .nil zC (za (zG zR (pv 0) (zd (i:=2)) (fun _ _=>rfl)) (za (ya (z8 hr) (pv 1) (zl (x:="slots")) (fun _ _=>rfl)) zf))))
  (zg (zM (PW.pt (Z0 (xC (zV xW rfl T.b_isinstance yd (za (pv 2) (za (xq rfl T.b_str q8 rfl) zf)))) (kS (zn (ZU (z8 hr)) (zW (za (zG zR (pv 0) (zd (i:=1)) (fun _ _=>rfl)) (za (pv 2) zf))) (ya (z8 hr) (pv 1) (zl (x:="known")) (fun _ _=>rfl)) (by with_unfolding_all rfl))))) (zh (zx xl))
    zA)
  (zh (zx (zW (za (zG zR (pv 0) (zd (i:=1)) (fun _ _=>rfl)) (za (pv 2) zf)))))))),ZL (kf K) h1 h2 h3 h4 q1 q2⟩
theorem Wo (T:Txt K mg t):FnOk P w K mg base (CX1 P w) 1 t.a_Run_taken t.d_Run_taken ["self","place","worth"] (xy t):=by
 refine T.f_Run_taken.ok0 X3 (fun vs H Q E h=>?_) (fun cdv A outer s H vs Q E hr h=>?_)
 ·obtain ⟨x,q,p,w,a,C,s,rfl,_⟩:=h;rfl
 obtain ⟨x,q,p,w,a,C,s,rfl,h1,h2,h3,q⟩:=h
 exact ⟨jo K t,(zg (zM (zn (ZU (z8 hr)) (pv 1) (yn (f:="gifts") (pv 0) rfl) (by with_unfolding_all rfl)) (zh (zx (ya (z8 hr) (yn (f:="gifts") (pv 0) rfl) (pv 1) (fun _ _=>rfl))))
   zA)
  (zg (zM (zn (Yu (z8 hr)) (pv 1) (yn (f:="notes") (pv 0) rfl) (by with_unfolding_all rfl)) (zh (xB (z8 hr) (yn (f:="notes") (pv 0) rfl) (pv 1) (pv 2) rfl))
    zA)
  (zh (zx (ya (z8 hr) (yn (f:="notes") (pv 0) rfl) (pv 1) (fun _ _=>rfl)))))),YV (rnF T) h1 h2 h3 q⟩
theorem Vp (T:Txt K mg t):FnOk P w K mg base (CX1 P w) 7 t.a_Run_does t.d_Run_does ["self","due","worth"] (xQ t):=by
 refine T.f_Run_does.ok1 sc_Run_does (fun vs H Q E h=>?_) (fun cdv A outer s H vs Q E hr h=>?_)
 ·obtain ⟨x,v,r,w,m,a,C,s,rfl,_⟩:=h;rfl
 obtain ⟨x,v,r,w,m,a,C,s,rfl,h1,h2,h3,h4,h5,h6,q1,q2⟩:=h
 exact ⟨xR K t E,(zh (zM (zn yi (zG zR (pv 1) (zd (i:=0)) (fun _ _=>rfl)) (zl (x:="take")) (zy _)) (zh (xB (z8 hr) (yn (f:="slots") (pv 0) rfl) (zG zR (pv 1) (zd (i:=3)) (fun _ _=>rfl)) (xT (pv 0) T.cl_Run T.me_Run_taken (FnOk.mono (Wo T) (by decide)) hr T.b_Run_taken .nil vg (za (xT (pv 0) T.cl_Run T.me_Run_place_in (FnOk.mono (wV T) (by decide)) hr T.b_Run_place_in .nil vg (za (pv 1) zf)) (za (pv 2) zf))) rfl))
   (zh (zM (zn yi (zG zR (pv 1) (zd (i:=0)) (fun _ _=>rfl)) (zl (x:="give")) (zy _)) (zg (zP (i:=3) sc_Run_does.nd rfl (Or.inl rfl) (xT (pv 0) T.cl_Run T.me_Run_place_in (FnOk.mono (wV T) (by decide)) hr T.b_Run_place_in .nil vg (za (pv 1) zf)))
  (zh (xB (z8 hr) (yn (f:="gifts") (pv 0) rfl) (pv 3) (xT (pv 0) T.cl_Run T.me_Run_worth_of (FnOk.mono (yH T) (by decide)) hr T.b_Run_worth_of .nil vg (za (zG zR (pv 1) (zd (i:=3)) (fun _ _=>rfl)) zf)) rfl)))
   (zh (zM (zn yi (zG zR (pv 1) (zd (i:=0)) (fun _ _=>rfl)) (zl (x:="let")) (zy _)) (zh (xB (z8 hr) (yn (f:="slots") (pv 0) rfl) (zG zR (pv 1) (zd (i:=1)) (fun _ _=>rfl)) (xT (pv 0) T.cl_Run T.me_Run_worth_of (FnOk.mono (yH T) (by decide)) hr T.b_Run_worth_of .nil vg (za (zG zR (pv 1) (zd (i:=2)) (fun _ _=>rfl)) zf)) rfl))
   (zh (yD (vI PySem.F.plainAttrs_list PySem.F.slot_list_append PySem.F.type_list_append yr (yn (f:="sayings") (pv 0) rfl) (za (xT (pv 0) T.cl_Run T.me_Run_worth_of (FnOk.mono (yH T) (by decide)) hr T.b_Run_worth_of .nil vg (za (zG zR (pv 1) (zd (i:=1)) (fun _ _=>rfl)) zf)) zf)))))))))),Wh (rnF T) h1 h2 h3 h4 h5 h6 q1 q2⟩
theorem Y4 (T:Txt K mg t):FnOk P w K mg base (CX1 P w) 8 t.a_Run_led_by t.d_Run_led_by ["self","due","worth"] (vO t):=by
 refine T.f_Run_led_by.ok1 YT (fun vs H Q E h=>?_) (fun cdv A outer s H vs Q E hr h=>?_)
 ·obtain ⟨x,v,c,w,m,a,C,s,rfl,_⟩:=h;rfl
 obtain ⟨x,v,c,w,m,a,C,s,rfl,h1,h2,h3,h4,h5,q1,q2⟩:=h
 exact ⟨xi K t E,(zg (zM (zn yi (zG zR (pv 1) (zd (i:=0)) (fun _ _=>rfl)) (zl (x:="go")) (zy _)) (zh (zx (zG zR (pv 1) (zd (i:=1)) (fun _ _=>rfl))))
   zA)
  (zg (zM (zn yi (zG zR (pv 1) (zd (i:=0)) (fun _ _=>rfl)) (zl (x:="skip")) (zy _)) (zh (zx (jF (zn yi (xT (pv 0) T.cl_Run T.me_Run_worth_of (FnOk.mono (yH T) (by decide)) hr T.b_Run_worth_of .nil vg (za (zG zR (pv 1) (zd (i:=1)) (fun _ _=>rfl)) zf)) (zd (i:=0)) (zy _)) (zG zR (pv 1) (zd (i:=2)) (fun _ _=>rfl)) (zw z6 (yn (f:="at") (pv 0) rfl) (zd (i:=1))))))
    zA)
  (zg (zM (zn yi (zG zR (pv 1) (zd (i:=0)) (fun _ _=>rfl)) (zl (x:="off")) (zy _)) (zh (zM (zn Y7 (xT (pv 0) T.cl_Run T.me_Run_worth_of (FnOk.mono (yH T) (by decide)) hr T.b_Run_worth_of .nil vg (za (zG zR (pv 1) (zd (i:=1)) (fun _ _=>rfl)) zf)) (zd (i:=0)) (zy _)) (zh (vL (f:="why") (pv 0) (zl (x:="told")) rfl))
    zA))
    (zh (yD (xT (pv 0) T.cl_Run T.me_Run_does (FnOk.mono (Vp T) (by decide)) hr T.b_Run_does .nil vg (za (pv 1) (za (pv 2) zf))))))
  (zh (zx (zw z6 (yn (f:="at") (pv 0) rfl) (zd (i:=1)))))))),YD (rnF T) h1 h2 h3 h4 h5 q1 q2⟩
theorem Vq (T:Txt K mg t):FnOk P w K mg base (CX1 P w) 9 t.a_Run_step t.d_Run_step ["self","worth"] (jZ t):=by
 refine T.f_Run_step.ok0 W0 (fun vs H Q E h=>?_) (fun cdv A outer s H vs Q E hr h=>?_)
 ·obtain ⟨x,w,m,a,C,s,rfl,_⟩:=h;rfl
 obtain ⟨x,w,m,a,C,s,rfl,h1,h2,h3,h4,q⟩:=h
 exact ⟨ke K t,(zg (zM (xC (xU (pv 0) T.cl_Run T.me_Run_over (FnOk.mono (wM T) (by decide)) hr T.b_Run_over .nil zC)) (zh QU)
   zA)
  (zh (Qh (And.intro rfl rfl) rfl (zat (f:="at") (pv 0) (WN (pv 0) T.cl_Run T.me_Run_led_by (FnOk.mono (Y4 T) (by decide)) hr T.b_Run_led_by (za (zG zU (yn (f:="code") (pv 0) rfl) (yn (f:="at") (pv 0) rfl) (fun _ _=>rfl)) (za (pv 1) zf))) rfl) rfl T.g_Great rfl T.g_Nought (fun _=>(zh (vL (f:="why") (pv 0) (zl (x:="great")) rfl))) (fun _=>(zh (vL (f:="why") (pv 0) (zl (x:="nought")) rfl)))))),Wf T h1 h2 h3 h4 q⟩
theorem Vr (T:Txt K mg t):FnOk P w K mg base (CX1 P w) 1 t.a__law_due t.d__law_due ["state"] (j2):=by
 refine T.f__law_due.ok0 W1 (fun vs H Q E h=>?_) (fun cdv A outer s H vs Q E hr h=>?_)
 ·obtain ⟨d,a,s,kn,rfl,_⟩:=h;rfl
 obtain ⟨d,a,s,kn,rfl,h1,h2,h3,q⟩:=h
 exact ⟨kg K t,(zg (zM (zn Y7 (ya (z8 hr) (pv 0) (zl (x:="why")) (fun _ _=>rfl)) (zl (x:="")) (zy _)) (zh (zx (zW (za (zW (za (zl (x:="off")) (za (ya (z8 hr) (pv 0) (zl (x:="why")) (fun _ _=>rfl)) zf))) (za (ya (z8 hr) (pv 0) (zl (x:="notes")) (fun _ _=>rfl)) (za (yG zf) zf))))))
   zA)
  (zh (zx (zW (za (zW (za (zl (x:="done")) (za (xH kJ rfl T.b_tuple Yg (za (ya (z8 hr) (pv 0) (zl (x:="said")) (fun _ _=>rfl)) zf)) zf))) (za (ya (z8 hr) (pv 0) (zl (x:="notes")) (fun _ _=>rfl)) (za (zV (vJ rfl (hu3 hr)) rfl T.b_sorted Xj (za (Yx (ya (z8 hr) (pv 0) (zl (x:="given")) (fun _ _=>rfl))) zf)) zf))))))),Wm h1 h2 h3 q⟩
theorem Vs (T:Txt K mg t):FnOk P w K mg base (CX1 P w) 10 t.a__law_run t.d__law_run ["code","cells"] (j3):=by
 refine T.f__law_run.ok0 sc__law_run (fun vs H Q E h=>?_) (fun cdv A outer s H vs Q E hr h=>?_)
 ·obtain ⟨l,p,xs,C,ns,rfl,_⟩:=h;rfl
 obtain ⟨l,p,xs,C,ns,rfl,h1,h2,h3,h4,h5,h6,q⟩:=h
 refine ⟨kh K t,?_,Wn h1 h2 h3 h4 h5 h6 q⟩
 refine zg ?_ ?_
 ·refine zP (i:=2) ?z ?a ?b ?c (hs:=?d) (hf:=?e)
  case z=>exact sc__law_run.nd
  case a=>rfl
  case b=>exact (Or.inl rfl)
  case c =>
   exact (Q0 T.mk_Run (FnOk.mono (Vl T) (by decide)) hr rfl T.g_Run T.b_Run_init .nil zC (za (xH qx rfl T.b_list ZQ (za (pv 0) zf)) zf))
  case d=>rfl
  case e=>first | exact .inl rfl | exact .inr rfl | assumption
 ·refine zg ?_ ?_
  ·refine zP (i:=3) ?z ?a ?b ?c (hs:=?d) (hf:=?e)
   case z=>exact sc__law_run.nd
   case a=>rfl
   case b=>exact (Or.inl rfl)
   case c =>
    refine Q6 ?h0 ?h1 ?h2 ?h3 ?h4
    case h0=>exact (vf (zl (x:="at")) (zd (i:=0)) (vf (zl (x:="slots")) Wy (vf (zl (x:="known")) qA (vf (zl (x:="given")) qA (vf (zl (x:="notes")) (yG zf) (vf (zl (x:="said")) (yG zf) (vf (zl (x:="why")) (zl (x:="")) Q5)))))))
    case h1=>rfl
    case h2=>rfl
    case h3=>simp
    case h4=>decide
   case d=>rfl
   case e=>first | exact .inl rfl | exact .inr rfl | assumption
  ·refine zg ?_ ?_
   ·refine jG PassesOwn.never rfl ?i ?g ?b
    case i=>exact (qS rfl T.b_range (za (zV yA rfl T.b_len xF (za (pv 0) zf)) zf))
    case g=>exact (wW (i:=4) sc__law_run.nd rfl (Or.inl rfl))
    case b =>
     refine zg ?_ ?_
     ·exact (zM (PW.pt (Z0 (zn zaR (ya (z8 hr) (pv 3) (zl (x:="at")) (fun _ _=>rfl)) (zV yA rfl T.b_len xF (za (pv 0) zf)) (zy _)) (kS (zn Y7 (ya (z8 hr) (pv 3) (zl (x:="why")) (fun _ _=>rfl)) (zl (x:="")) (zy _))))) (zh Ki)
   zA)
     ·refine zg ?_ ?_
      ·exact (zM (PW.pt (Z0 (zn WD (xU (pv 2) T.cl_Run T.me_Run_over (FnOk.mono (wM T) (by decide)) hr T.b_Run_over .nil zC) (kF (b:=false)) (zy _)) (kS (zn ZN (xU (pv 2) T.cl_Run T.me_Run_paper (FnOk.mono (qP T) (by decide)) hr T.b_Run_paper .nil zC) xl (zy _))))) (zh (zx (kF (b:=false))))
   zA)
      ·refine zg ?_ ?_
       ·refine zP (i:=5) ?z ?a ?b ?c (hs:=?d) (hf:=?e)
        case z=>exact sc__law_run.nd
        case a=>rfl
        case b=>exact (Or.inl rfl)
        case c =>
         exact (zG zU (pv 0) (ya (z8 hr) (pv 3) (zl (x:="at")) (fun _ _=>rfl)) (fun _ _=>rfl))
        case d=>rfl
        case e=>first | exact .inl rfl | exact .inr rfl | assumption
       ·refine zg ?_ ?_
        ·exact (zM (zn (Qg (zaf hr)) (xU (pv 2) T.cl_Run T.me_Run_asks (FnOk.mono (Zw T) (by decide)) hr T.b_Run_asks .nil zC) (zt (FnOk.mono (YO T) (by decide)) hr rfl T.m__law_wanted T.f__law_wanted.kp T.b__law_wanted .nil zC (za (pv 5) (za (pv 3) zf))) (zy _)) (zh (zx (kF (b:=false))))
   zA)
        ·refine zg ?_ ?_
         ·refine zP (i:=6) ?z ?a ?b ?c (hs:=?d) (hf:=?e)
          case z=>exact sc__law_run.nd
          case a=>rfl
          case b=>exact (Or.inl rfl)
          case c =>
           exact (zt (FnOk.mono (x0 T) (by decide)) hr rfl T.m__law_number T.f__law_number.kp T.b__law_number .nil zC (za (zw z6 (zG zU (pv 1) (zw yj (pv 4) (zV yA rfl T.b_len xF (za (pv 1) zf))) (fun _ _=>rfl)) (pv 4)) (za (zw z6 (zd (i:=90)) (zw yj (pv 4) (zd (i:=3)))) zf)))
          case d=>rfl
          case e=>first | exact .inl rfl | exact .inr rfl | assumption
         ·refine zg ?_ ?_
          ·exact (zM (zn ZN (xT (pv 2) T.cl_Run T.me_Run_step (FnOk.mono (Vq T) (by decide)) hr T.b_Run_step .nil zC (za (pv 6) zf)) xl (zy _)) (zh (zx (kF (b:=false))))
   zA)
          ·refine zh ?_
           exact (xB (z8 hr) (pv 3) (zl (x:="at")) (zt (FnOk.mono (YN T) (by decide)) hr rfl T.m__law_walked T.f__law_walked.kp T.b__law_walked .nil zC (za (pv 5) (za (pv 3) (za (pv 6) zf)))) rfl)
   ·refine zg ?_ ?_
    ·refine zP (i:=7) ?z ?a ?b ?c (hs:=?d) (hf:=?e)
     case z=>exact sc__law_run.nd
     case a=>rfl
     case b=>exact (Or.inl rfl)
     case c =>
      exact (xU (pv 2) T.cl_Run T.me_Run_paper (FnOk.mono (qP T) (by decide)) hr T.b_Run_paper .nil zC)
     case d=>rfl
     case e=>first | exact .inl rfl | exact .inr rfl | assumption
    ·refine zh ?_
     exact (zx (XB (vH KM (xU (pv 2) T.cl_Run T.me_Run_over (FnOk.mono (wM T) (by decide)) hr T.b_Run_over .nil zC) (kF (b:=true)) (zy _)) (XB (vH Vz (xU (pv 2) T.cl_Run T.me_Run_asks (FnOk.mono (Zw T) (by decide)) hr T.b_Run_asks .nil zC) xl (zy _)) (XB (zt (FnOk.mono (Y3 T 6) (by decide)) hr rfl T.m__law_plain T.f__law_plain.kp T.b__law_plain .nil zC (za (pv 7) zf)) (Vv (vH (Qf (zaf hr)) (pv 7) (zt (FnOk.mono (Vr T) (by decide)) hr rfl T.m__law_due T.f__law_due.kp T.b__law_due .nil zC (za (pv 3) zf)) (zy _)))))))
theorem YQ (T:Txt K mg t) (n:Nat) (IH:FnOk P w K mg base (CX1 P w) (2 + 2 * n) t.a_steps_of t.d_steps_of ["rows","first"] (yY n)):FnOk P w K mg base (CX1 P w) (2 + 2 * n + 1) t.a_block_steps t.d_block_steps ["row","at"] (vj n):=by
 refine T.f_block_steps.ok0 sc_block_steps (k:=2 + 2 * n) (fun vs H Q E h=>?_) (fun cdv A outer s H vs Q E hr h=>?_)
 ·obtain ⟨v,e,a,b,k,rfl,_⟩:=h;rfl
 obtain ⟨v,e,a,b,k,rfl,h1,h2,h3,h4,q⟩:=h
 exact ⟨vq K t n,(zg (zP (i:=2) sc_block_steps.nd rfl (Or.inl rfl) (zt (FnOk.mono IH (by lia)) hr rfl T.m_steps_of T.f_steps_of.kp T.b_steps_of .nil zC (za (zG zR (pv 0) (zd (i:=2)) (fun _ _=>rfl)) (za (zw z6 (pv 1) (zd (i:=1))) zf))))
  (zg (zP (i:=3) sc_block_steps.nd rfl (Or.inl rfl) (zw z6 (zw z6 (pv 1) (zd (i:=1))) (zV yA rfl T.b_len xF (za (pv 2) zf))))
  (zg (zM (zn (KU (zaf hr)) (zG zR (pv 0) (zd (i:=3)) (fun _ _=>rfl)) (yG zf) (zy _)) (zh (zx (zw XM (yG (za (zW (za (zl (x:="skip")) (za (zG zR (pv 0) (zd (i:=1)) (fun _ _=>rfl)) (za (pv 3) zf)))) zf)) (pv 2))))
    zA)
  (zg (zP (i:=4) sc_block_steps.nd rfl (Or.inl rfl) (zt (FnOk.mono IH (by lia)) hr rfl T.m_steps_of T.f_steps_of.kp T.b_steps_of .nil zC (za (zG zR (pv 0) (zd (i:=3)) (fun _ _=>rfl)) (za (zw z6 (pv 3) (zd (i:=1))) zf))))
  (zh (zx (zw XM (zw XM (zw XM (yG (za (zW (za (zl (x:="skip")) (za (zG zR (pv 0) (zd (i:=1)) (fun _ _=>rfl)) (za (zw z6 (pv 3) (zd (i:=1))) zf)))) zf)) (pv 2)) (yG (za (zW (za (zl (x:="go")) (za (zw z6 (zw z6 (pv 3) (zd (i:=1))) (zV yA rfl T.b_len xF (za (pv 4) zf))) zf))) zf))) (pv 4)))))))),ZI h1 h2 h3 h4 q⟩
theorem Vt (T:Txt K mg t):∀ n,FnOk P w K mg base (CX1 P w) (2 + 2 * n) t.a_steps_of t.d_steps_of ["rows","first"] (yY n):=by
 intro n
 induction n with
 | zero=>exact ⟨fun vs H Q E h=>(qL h).elim,fun A outer s H args us vs Q E hr he hb hv h=>(qL h).elim⟩
 | succ n IH =>
 refine T.f_steps_of.ok0 sc_steps_of (k:=2 + 2 * n + 1) (fun vs H Q E h=>?_) (fun cdv A outer s H vs Q E hr h=>?_)
 ·obtain ⟨v,r,k,rfl,_⟩:=h;rfl
 obtain ⟨v,r,k,rfl,h1,h2,h3,q⟩:=h
 exact ⟨ki K t n,(zg (zP (i:=2) sc_steps_of.nd rfl (Or.inl rfl) (yG zf))
  (zg (jG PassesOwn.never rfl (Jc (pv 0)) (wW (i:=3) sc_steps_of.nd rfl (Or.inl rfl)) (zh (zM (zn yi (zG zR (pv 3) (zd (i:=0)) (fun _ _=>rfl)) (zl (x:="if")) (zy _)) (zh (yD (vI PySem.F.plainAttrs_list PySem.F.slot_list_extend PySem.F.type_list_extend JU (pv 2) (za (zt (FnOk.mono (YQ T n IH) (by lia)) hr rfl T.m_block_steps T.f_block_steps.kp T.b_block_steps .nil zC (za (pv 3) (za (zw z6 (pv 1) (zV yA rfl T.b_len xF (za (pv 2) zf))) zf))) zf))))
    (zh (yD (vI PySem.F.plainAttrs_list PySem.F.slot_list_append PySem.F.type_list_append yr (pv 2) (za (pv 3) zf)))))))
  (zh (zx (pv 2))))),Wb h1 h2 h3 q⟩
theorem Ja (T:Txt K mg t):FnOk P w K mg base (CX1 P w) 15 t.a_code_of t.d_code_of ["rows"] (qg):=by
 refine T.f_code_of.ok0 V0 (fun vs H Q E h=>?_) (fun cdv A outer s H vs Q E hr h=>?_)
 ·obtain ⟨v,r,rfl,_⟩:=h;rfl
 obtain ⟨v,r,rfl,h1,h2,h3,q⟩:=h
 exact ⟨ql K t,(zh (zx (zt (FnOk.mono (Vt T 6) (by decide)) hr rfl T.m_steps_of T.f_steps_of.kp T.b_steps_of .nil zC (za (pv 0) (za (zd (i:=0)) zf))))),W8 h1 h2 h3 q⟩
theorem ku (T:Txt K mg t):FnOk P w K mg base (CX1 P w) 1 t.a__law_closed t.d__law_closed ["frames"] (xn):=by
 refine T.f__law_closed.ok0 sc__law_closed (fun vs H Q E h=>?_) (fun cdv A outer s H vs Q E hr h=>?_)
 ·obtain ⟨FR,H0,g,h,gs,fs,sp,rfl,_⟩:=h;rfl
 obtain ⟨FR,H0,g,h,gs,fs,sp,rfl,h1,h2,q⟩:=h
 exact ⟨vt K t,(zg (zP (i:=1) sc__law_closed.nd rfl (Or.inl rfl) (qV PySem.F.plainAttrs_list PySem.F.slot_list_pop PySem.F.type_list_pop qW (pv 0)))
  (zh (zM (zn Vz (zG zU (pv 1) (zd (i:=1)) (fun _ _=>rfl)) xl (zy _)) (zh (yD (vI PySem.F.plainAttrs_list PySem.F.slot_list_append PySem.F.type_list_append yr (zG zU (zG zU (pv 0) (qt jf (zd (i:=1))) (fun _ _=>rfl)) (zd (i:=2)) (fun _ _=>rfl)) (za (zW (za (zl (x:="if")) (za (zG zU (pv 1) (zd (i:=0)) (fun _ _=>rfl)) (za (zG zU (pv 1) (zd (i:=2)) (fun _ _=>rfl)) (za (yG zf) zf))))) zf))))
    (zh (yD (vI PySem.F.plainAttrs_list PySem.F.slot_list_append PySem.F.type_list_append yr (zG zU (zG zU (pv 0) (qt jf (zd (i:=1))) (fun _ _=>rfl)) (zd (i:=2)) (fun _ _=>rfl)) (za (zW (za (zl (x:="if")) (za (zG zU (pv 1) (zd (i:=0)) (fun _ _=>rfl)) (za (zG zU (pv 1) (zd (i:=1)) (fun _ _=>rfl)) (za (zG zU (pv 1) (zd (i:=2)) (fun _ _=>rfl)) zf))))) zf))))))),ZK h1 h2 q⟩
theorem qQ (T:Txt K mg t):FnOk P w K mg base (CX1 P w) 3 t.a__law_part t.d__law_part ["cell","j","slots"] (wZ):=by
 refine T.f__law_part.ok0 X4 (fun vs H Q E h=>?_) (fun cdv A outer s H vs Q E hr h=>?_)
 ·obtain ⟨c,j,a,ws,rfl,_⟩:=h;rfl
 obtain ⟨c,j,a,ws,rfl,h1,h2,h3,h4,q⟩:=h
 exact ⟨jq K t,(zg (zM (zn jI (zw yj (zt (FnOk.mono (zJ T) (by decide)) hr rfl T.m__law_draw T.f__law_draw.kp T.b__law_draw .nil zC (za (pv 0) (za (zw z6 (pv 1) (zd (i:=5))) zf))) (zd (i:=5))) (zd (i:=3)) (zy _)) (zh (zx (zG zU (pv 2) (zw yj (zt (FnOk.mono (zJ T) (by decide)) hr rfl T.m__law_draw T.f__law_draw.kp T.b__law_draw .nil zC (za (pv 0) (za (zw z6 (pv 1) (zd (i:=6))) zf))) (zd (i:=2))) (fun _ _=>rfl))))
   zA)
  (zh (zx (zt (FnOk.mono (x0 T) (by decide)) hr rfl T.m__law_number T.f__law_number.kp T.b__law_number .nil zC (za (pv 0) (za (pv 1) zf)))))),YY h1 h2 h3 h4 q⟩
theorem x6 (T:Txt K mg t):FnOk P w K mg base (CX1 P w) 4 t.a__law_term t.d__law_term ["cell","j","slots"] (yx):=by
 refine T.f__law_term.ok0 sc__law_term (fun vs H Q E h=>?_) (fun cdv A outer s H vs Q E hr h=>?_)
 ·obtain ⟨c,j,a,ws,rfl,_⟩:=h;rfl
 obtain ⟨c,j,a,ws,rfl,h1,h2,h3,h4,q⟩:=h
 exact ⟨jr K t,(zg (zP (i:=3) sc__law_term.nd rfl (Or.inl rfl) (yG (vM (x:="plus") (vM (x:="minus") (vM (x:="times") (vM (x:="over") (vM (x:="rest") (vM (x:="under") (vM (x:="same") (vM (x:="plus") (vM (x:="under") (vM (x:="minus") zf))))))))))))
  (zg (zP (i:=4) sc__law_term.nd rfl (Or.inl rfl) (zG zU (pv 3) (zw yj (zt (FnOk.mono (zJ T) (by decide)) hr rfl T.m__law_draw T.f__law_draw.kp T.b__law_draw .nil zC (za (pv 0) (za (zw z6 (pv 1) (zd (i:=2))) zf))) (zd (i:=10))) (fun _ _=>rfl)))
  (zg (zP (i:=5) sc__law_term.nd rfl (Or.inl rfl) (zt (FnOk.mono (qQ T) (by decide)) hr rfl T.m__law_part T.f__law_part.kp T.b__law_part .nil zC (za (pv 0) (za (zw z6 (pv 1) (zd (i:=1))) (za (pv 2) zf)))))
  (zg (zP (i:=6) sc__law_term.nd rfl (Or.inl rfl) (zt (FnOk.mono (qQ T) (by decide)) hr rfl T.m__law_part T.f__law_part.kp T.b__law_part .nil zC (za (pv 0) (za (zw z6 (pv 1) (zd (i:=10))) (za (pv 2) zf)))))
  (zg (zP (i:=7) sc__law_term.nd rfl (Or.inl rfl) (zw yj (zt (FnOk.mono (zJ T) (by decide)) hr rfl T.m__law_draw T.f__law_draw.kp T.b__law_draw .nil zC (za (pv 0) (za (pv 1) zf))) (zd (i:=8))))
  (zg (zM (zn jI (pv 7) (zd (i:=4)) (zy _)) (zh (zx (zW (za (pv 5) zf))))
    zA)
  (zg (zM (zn jI (pv 7) (zd (i:=7)) (zy _)) (zh (zx (zW (za (pv 5) (za (pv 6) (za (pv 4) zf))))))
    zA)
  (zh (zx (zW (za (pv 5) (za (zt (FnOk.mono (x0 T) (by decide)) hr rfl T.m__law_number T.f__law_number.kp T.b__law_number .nil zC (za (pv 0) (za (zw z6 (pv 1) (zd (i:=20))) zf))) (za (pv 6) (za (zG zU (pv 3) (zw yj (zt (FnOk.mono (zJ T) (by decide)) hr rfl T.m__law_draw T.f__law_draw.kp T.b__law_draw .nil zC (za (pv 0) (za (zw z6 (pv 1) (zd (i:=3))) zf))) (zd (i:=10))) (fun _ _=>rfl)) (za (pv 4) zf))))))))))))))),YZ h1 h2 h3 h4 q⟩
theorem jz (T:Txt K mg t):FnOk P w K mg base (CX1 P w) 5 t.a__law_spot t.d__law_spot ["cell","j","slots"] (xY):=by
 refine T.f__law_spot.ok0 X5 (fun vs H Q E h=>?_) (fun cdv A outer s H vs Q E hr h=>?_)
 ·obtain ⟨c,j,a,ws,rfl,_⟩:=h;rfl
 obtain ⟨c,j,a,ws,rfl,h1,h2,h3,h4,q⟩:=h
 exact ⟨js K t,(zg (zM (zn yi (zw yj (zt (FnOk.mono (zJ T) (by decide)) hr rfl T.m__law_draw T.f__law_draw.kp T.b__law_draw .nil zC (za (pv 0) (za (pv 1) zf))) (zd (i:=4))) (zd (i:=0)) (zy _)) (zh (zx (zt (FnOk.mono (x6 T) (by decide)) hr rfl T.m__law_term T.f__law_term.kp T.b__law_term .nil zC (za (pv 0) (za (zw z6 (pv 1) (zd (i:=1))) (za (pv 2) zf))))))
   zA)
  (zh (zx (zW (za (zw kT (zw yj (zt (FnOk.mono (zJ T) (by decide)) hr rfl T.m__law_draw T.f__law_draw.kp T.b__law_draw .nil zC (za (pv 0) (za (zw z6 (pv 1) (zd (i:=2))) zf))) (zd (i:=3))) (zd (i:=1))) zf))))),Y0 h1 h2 h3 h4 q⟩
theorem Vu (T:Txt K mg t):FnOk P w K mg base (CX1 P w) 6 t.a__law_row t.d__law_row ["cell","slots","shelves"] (j0):=by
 refine T.f__law_row.ok0 sc__law_row (fun vs H Q E h=>?_) (fun cdv A outer s H vs Q E hr h=>?_)
 ·obtain ⟨c,a,b,ws,us,rfl,_⟩:=h;rfl
 obtain ⟨c,a,b,ws,us,rfl,h1,h2,h3,h4,q⟩:=h
 exact ⟨kj K t,(zg (zP (i:=3) sc__law_row.nd rfl (Or.inl rfl) (zw yj (zt (FnOk.mono (zJ T) (by decide)) hr rfl T.m__law_draw T.f__law_draw.kp T.b__law_draw .nil zC (za (pv 0) (za (zd (i:=0)) zf))) (zd (i:=17))))
  (zg (zP (i:=4) sc__law_row.nd rfl (Or.inl rfl) (zG zU (pv 2) (zw yj (zt (FnOk.mono (zJ T) (by decide)) hr rfl T.m__law_draw T.f__law_draw.kp T.b__law_draw .nil zC (za (pv 0) (za (zd (i:=160)) zf))) (zd (i:=2))) (fun _ _=>rfl)))
  (zg (zP (i:=5) sc__law_row.nd rfl (Or.inl rfl) (zG zU (pv 1) (zw yj (zt (FnOk.mono (zJ T) (by decide)) hr rfl T.m__law_draw T.f__law_draw.kp T.b__law_draw .nil zC (za (pv 0) (za (zd (i:=161)) zf))) (zd (i:=2))) (fun _ _=>rfl)))
  (zg (zM (zn jI (pv 3) (zd (i:=5)) (zy _)) (zh (zx (zW (za (zl (x:="take")) (za (pv 4) (za (zt (FnOk.mono (jz T) (by decide)) hr rfl T.m__law_spot T.f__law_spot.kp T.b__law_spot .nil zC (za (pv 0) (za (zd (i:=20)) (za (pv 1) zf)))) (za (pv 5) zf)))))))
    zA)
  (zg (zM (zn jI (pv 3) (zd (i:=7)) (zy _)) (zh (zx (zW (za (zl (x:="give")) (za (pv 4) (za (zt (FnOk.mono (jz T) (by decide)) hr rfl T.m__law_spot T.f__law_spot.kp T.b__law_spot .nil zC (za (pv 0) (za (zd (i:=20)) (za (pv 1) zf)))) (za (zW (za (pv 5) zf)) zf)))))))
    zA)
  (zg (zM (zn jI (pv 3) (zd (i:=9)) (zy _)) (zh (zx (zW (za (zl (x:="give")) (za (pv 4) (za (zt (FnOk.mono (jz T) (by decide)) hr rfl T.m__law_spot T.f__law_spot.kp T.b__law_spot .nil zC (za (pv 0) (za (zd (i:=20)) (za (pv 1) zf)))) (za (zt (FnOk.mono (x6 T) (by decide)) hr rfl T.m__law_term T.f__law_term.kp T.b__law_term .nil zC (za (pv 0) (za (zd (i:=80)) (za (pv 1) zf)))) zf)))))))
    zA)
  (zg (zM (zn yi (pv 3) (zd (i:=9)) (zy _)) (zh (zx (zW (za (zl (x:="let")) (za (pv 5) (za (zt (FnOk.mono (x6 T) (by decide)) hr rfl T.m__law_term T.f__law_term.kp T.b__law_term .nil zC (za (pv 0) (za (zd (i:=80)) (za (pv 1) zf)))) zf))))))
    zA)
  (zg (zM (zn yi (pv 3) (zd (i:=10)) (zy _)) (zh (zx (zW (za (zl (x:="off")) (za (zW (za (pv 5) (za (zt (FnOk.mono (x0 T) (by decide)) hr rfl T.m__law_number T.f__law_number.kp T.b__law_number .nil zC (za (pv 0) (za (zd (i:=81)) zf))) (za (zl (x:="same")) zf)))) zf)))))
    zA)
  (zg (zM (PW.pt (jd (zn yi (pv 3) (zd (i:=11)) (zy _)) (vG (zn yi (zw yj (zt (FnOk.mono (zJ T) (by decide)) hr rfl T.m__law_draw T.f__law_draw.kp T.b__law_draw .nil zC (za (pv 0) (za (zd (i:=162)) zf))) (zd (i:=3))) (zd (i:=0)) (zy _))))) (zg (zP (i:=6) sc__law_row.nd rfl (Or.inl rfl) (yG (za (zW (za (pv 5) (za (zd (i:=0)) (za (zG zU (yG (za (zl (x:="over")) (za (zl (x:="rest")) zf))) (zw yj (zt (FnOk.mono (zJ T) (by decide)) hr rfl T.m__law_draw T.f__law_draw.kp T.b__law_draw .nil zC (za (pv 0) (za (zd (i:=163)) zf))) (zd (i:=2))) (fun _ _=>rfl)) zf)))) (za (zW (za (zw jH (zd (i:=10)) (zd (i:=30))) (za (zd (i:=1)) (za (zl (x:="plus")) zf)))) zf))))
  (zh (zx (zW (za (zl (x:="give")) (za (pv 4) (za (zG zU (pv 6) (zw yj (zt (FnOk.mono (zJ T) (by decide)) hr rfl T.m__law_draw T.f__law_draw.kp T.b__law_draw .nil zC (za (pv 0) (za (zd (i:=164)) zf))) (zd (i:=2))) (fun _ _=>rfl)) (za (zG zU (pv 6) (zw kT (zd (i:=1)) (zw yj (zt (FnOk.mono (zJ T) (by decide)) hr rfl T.m__law_draw T.f__law_draw.kp T.b__law_draw .nil zC (za (pv 0) (za (zd (i:=164)) zf))) (zd (i:=2)))) (fun _ _=>rfl)) zf))))))))
   zA)
  (zh (zx (zW (za (zl (x:="say")) (za (zt (FnOk.mono (x6 T) (by decide)) hr rfl T.m__law_term T.f__law_term.kp T.b__law_term .nil zC (za (pv 0) (za (zd (i:=80)) (za (pv 1) zf)))) zf)))))))))))))),Wk h1 h2 h3 h4 q⟩
theorem Wp (T:Txt K mg t):FnOk P w K mg base (CX1 P w) 7 t.a__law_rows t.d__law_rows ["cells","slots","shelves"] (jl):=by
 refine T.f__law_rows.ok0 sc__law_rows (fun vs H Q E h=>?_) (fun cdv A outer s H vs Q E hr h=>?_)
 ·obtain ⟨p,ns,a,b,ws,us,rfl,_⟩:=h;rfl
 obtain ⟨p,ns,a,b,ws,us,rfl,h1,h2,h3,h4,h5,h6,q⟩:=h
 exact ⟨jt K t,(zg (zP (i:=3) sc__law_rows.nd rfl (Or.inl rfl) (yG (za (yG (za xl (za xl (za (yG zf) zf)))) zf)))
  (zg (jG PassesOwn.never rfl (Jc (pv 0)) (wW (i:=4) sc__law_rows.nd rfl (Or.inl rfl)) (zg (zP (i:=5) sc__law_rows.nd rfl (Or.inl rfl) (zw yj (zt (FnOk.mono (zJ T) (by decide)) hr rfl T.m__law_draw T.f__law_draw.kp T.b__law_draw .nil zC (za (pv 4) (za (zd (i:=0)) zf))) (zd (i:=17))))
  (zh (zM (PW.pt (jd (zn w5 (pv 5) (zW (za (zd (i:=12)) (za (zd (i:=13)) zf))) (by with_unfolding_all rfl)) (vG (zn jI (zV yA rfl T.b_len xF (za (pv 3) zf)) (zd (i:=6)) (zy _))))) (zh (yD (vI PySem.F.plainAttrs_list PySem.F.slot_list_append PySem.F.type_list_append yr (pv 3) (za (yG (za (zt (FnOk.mono (x6 T) (by decide)) hr rfl T.m__law_term T.f__law_term.kp T.b__law_term .nil zC (za (pv 4) (za (zd (i:=80)) (za (pv 1) zf)))) (za xl (za (yG zf) zf)))) zf))))
    (zh (zM (PW.pt (jd (zn w5 (pv 5) (zW (za (zd (i:=14)) (za (zd (i:=15)) zf))) (by with_unfolding_all rfl)) (jd (zn Jg (zV yA rfl T.b_len xF (za (pv 3) zf)) (zd (i:=1)) (zy _)) (vG (zn Vz (zG zU (zG zU (pv 3) (qt jf (zd (i:=1))) (fun _ _=>rfl)) (zd (i:=1)) (fun _ _=>rfl)) xl (zy _)))))) (zg (Jy (zG zU (pv 3) (qt jf (zd (i:=1))) (fun _ _=>rfl)) (zd (i:=1)) (zG zU (zG zU (pv 3) (qt jf (zd (i:=1))) (fun _ _=>rfl)) (zd (i:=2)) (fun _ _=>rfl)) rfl)
  (zh (Jy (zG zU (pv 3) (qt jf (zd (i:=1))) (fun _ _=>rfl)) (zd (i:=2)) (yG zf) rfl)))
   (zh (zM (PW.pt (jd (zn yi (pv 5) (zd (i:=16)) (zy _)) (vG (zn Jg (zV yA rfl T.b_len xF (za (pv 3) zf)) (zd (i:=1)) (zy _))))) (zh (yD (zt (FnOk.mono (ku T) (by decide)) hr rfl T.m__law_closed T.f__law_closed.kp T.b__law_closed .nil zC (za (pv 3) zf))))
   (zh (yD (vI PySem.F.plainAttrs_list PySem.F.slot_list_append PySem.F.type_list_append yr (zG zU (zG zU (pv 3) (qt jf (zd (i:=1))) (fun _ _=>rfl)) (zd (i:=2)) (fun _ _=>rfl)) (za (zt (FnOk.mono (Vu T) (by decide)) hr rfl T.m__law_row T.f__law_row.kp T.b__law_row .nil zC (za (pv 4) (za (pv 1) (za (pv 2) zf)))) zf))))))))))))
  (zg (Kk PassesOwn.never (zn Jg (zV yA rfl T.b_len xF (za (pv 3) zf)) (zd (i:=1)) (zy _)) (zh (yD (zt (FnOk.mono (ku T) (by decide)) hr rfl T.m__law_closed T.f__law_closed.kp T.b__law_closed .nil zC (za (pv 3) zf)))))
  (zh (zx (zG zU (zG zU (pv 3) (zd (i:=0)) (fun _ _=>rfl)) (zd (i:=2)) (fun _ _=>rfl))))))),Y1 h1 h2 h3 h4 h5 h6 q⟩
theorem ok_law (T:Txt K mg t):FnOk P w K mg base (CX1 P w) 16 t.a_law t.d_law ["script"] (sp_law K):=by
 refine T.f_law.ok0 sc_law (fun vs H Q E h=>?_) (fun cdv A outer s H vs Q E hr h=>?_)
 ·obtain ⟨a,ns,rfl,_⟩:=h;rfl
 obtain ⟨a,ns,rfl,hS,hn,q⟩:=h
 exact ⟨V2 K t,(zg (zP (i:=1) sc_law.nd rfl (Or.inl rfl) (zt (FnOk.mono (kR T) (by decide)) hr rfl T.m__law_names T.f__law_names.kp T.b__law_names .nil zC (za (zt (FnOk.mono (wU T) (by decide)) hr rfl T.m__law_cell_at T.f__law_cell_at.kp T.b__law_cell_at .nil zC (za (pv 0) (za (zd (i:=0)) zf))) (za (zd (i:=2)) zf))))
  (zg (zP (i:=2) sc_law.nd rfl (Or.inl rfl) (zt (FnOk.mono (kR T) (by decide)) hr rfl T.m__law_names T.f__law_names.kp T.b__law_names .nil zC (za (zt (FnOk.mono (wU T) (by decide)) hr rfl T.m__law_cell_at T.f__law_cell_at.kp T.b__law_cell_at .nil zC (za (pv 0) (za (zd (i:=1)) zf))) (za (zd (i:=2)) zf))))
  (zg (zP (i:=3) sc_law.nd rfl (Or.inl rfl) (zw z6 (zd (i:=1)) (zw yj (zt (FnOk.mono (zJ T) (by decide)) hr rfl T.m__law_draw T.f__law_draw.kp T.b__law_draw .nil zC (za (zt (FnOk.mono (wU T) (by decide)) hr rfl T.m__law_cell_at T.f__law_cell_at.kp T.b__law_cell_at .nil zC (za (pv 0) (za (zd (i:=0)) zf))) (za (zd (i:=200)) zf))) (zd (i:=16)))))
  (zg (zP (i:=4) sc_law.nd rfl (Or.inl rfl) (v7 Jh (pv 0) qw (jh (zd (i:=120)))))
  (zg (jG PassesOwn.never rfl (J3 rfl T.b_range (za (zd (i:=0)) (za (zV yA rfl T.b_len xF (za (pv 4) zf)) (za (pv 3) zf)))) (wW (i:=5) sc_law.nd rfl (Or.inl rfl)) (zg (zP (i:=6) sc_law.nd rfl (Or.inl rfl) (v7 Jh (pv 4) (jh (pv 5)) (jh (zw z6 (pv 5) (pv 3)))))
  (zh (zM (qR (xC (zt (FnOk.mono (Vs T) (by decide)) hr rfl T.m__law_run T.f__law_run.kp T.b__law_run .nil zC (za (zt (FnOk.mono (Ja T) (by decide)) hr rfl T.m_code_of T.f_code_of.kp T.b_code_of .nil zC (za (zt (FnOk.mono (Wp T) (by decide)) hr rfl T.m__law_rows T.f__law_rows.kp T.b__law_rows .nil zC (za (pv 6) (za (pv 1) (za (pv 2) zf)))) zf)) (za (pv 6) zf))))) (zh (zx (kF (b:=false))))
    zA))))
  (zh (zx (kF (b:=true))))))))),zaP hS hn q⟩
end
end K30
open PySem PySem.W PyProof.Rows
namespace PySem.W.Fast
def tw9315717766419320244:Unit:=()
def tw2984962195733342275:Unit:=()
def tw14515716895394021659:Unit:=()
def tw5321806993900944830:Unit:=()
def tw744318635163997439:Unit:=()
def tw10088451789069998082:Unit:=()
def tw15546068069360248795:Unit:=()
def tw14179525558445252974:Unit:=()
def tw10022986759177399052:Unit:=()
def tw134840016302492964:Unit:=()
def tw1267338629017067930:Unit:=()
def tw4693591019370222362:Unit:=()
def tw16836696473254970526:Unit:=()
def tw7411345660229575428:Unit:=()
def tw9297712851063422909:Unit:=()
def tw14494162850026104054:Unit:=()
def tw11543014533104479383:Unit:=()
def tw15197812488883767064:Unit:=()
def tw5027718988589463391:Unit:=()
def tw17937387326568786144:Unit:=()
def tw3086574757202073264:Unit:=()
def tw15714661160822875013:Unit:=()
def tw12705290122494207347:Unit:=()
def tw12565727597170783844:Unit:=()
def tw7002984457766248131:Unit:=()
def tw5303314222155993262:Unit:=()
def tw11018487374103406336:Unit:=()
def tw6604041790033924084:Unit:=()
def tw4310416861202313343:Unit:=()
def tw1781669277677075986:Unit:=()
def tw12704530754225973678:Unit:=()
def tw15927846172399364207:Unit:=()
def tw6363586374966274853:Unit:=()
def tw6257434697114365991:Unit:=()
def tw10431941143286337580:Unit:=()
def tw2467572488949449464:Unit:=()
def tw11262107758675775738:Unit:=()
def tw2457697637849511756:Unit:=()
def tw1759091900478941940:Unit:=()
def tw6630218045428468741:Unit:=()
def tw16664423554802331277:Unit:=()
def tw3581946117667627210:Unit:=()
def tw2026744553640618779:Unit:=()
def tw11216758735213885983:Unit:=()
def tw4343991819097867763:Unit:=()
def tw2462311596288326871:Unit:=()
def tw300857360489602836:Unit:=()
def tw3513711042450251892:Unit:=()
def tw18429763513495146576:Unit:=()
def tw12051502928989532692:Unit:=()
def tw7333171247629434278:Unit:=()
def tw8257019518758286035:Unit:=()
def tw3838040819978592092:Unit:=()
def tw14850734742126860448:Unit:=()
def tw1994795532586480940:Unit:=()
def tw5423741714309613344:Unit:=()
def tw8541432530090377199:Unit:=()
def tw18117102682573564824:Unit:=()
def tw11033821221591884703:Unit:=()
def tw8698541204526665332:Unit:=()
def tw4521206946764938931:Unit:=()
def tw7070415166122993804:Unit:=()
def tw1712057597590765817:Unit:=()
def tw3998161402703340686:Unit:=()
def tw9549576226688175483:Unit:=()
def tw7253342512561143206:Unit:=()
def tw6048131315637485850:Unit:=()
def tw6521365468976520654:Unit:=()
def tw9342446761305275887:Unit:=()
def tw5630560594242065043:Unit:=()
def tw15152109047170876115:Unit:=()
def tw12015979860773996316:Unit:=()
def tw7746982127839854551:Unit:=()
def tw233045016144848636:Unit:=()
def tw10461529106078888355:Unit:=()
def tw2859737936655753358:Unit:=()
def tw17994020451606404640:Unit:=()
def tw5982289988627550508:Unit:=()
def tw14398207866901819241:Unit:=()
def tw7771877508365671641:Unit:=()
def tw7775193008085760627:Unit:=()
def tw14629598938273148191:Unit:=()
def tw6876538401632601119:Unit:=()
def tw16020360598966214958:Unit:=()
def tw4892433637325309434:Unit:=()
def tw14022696816937473921:Unit:=()
def tw14532375997829584398:Unit:=()
def tw5407521629131631210:Unit:=()
def tw10761624617212650767:Unit:=()
def tw17817096715548902276:Unit:=()
def tw15220209381503970267:Unit:=()
def tw15230896839519492014:Unit:=()
def tw16439690319018973701:Unit:=()
def tw10649329027142832324:Unit:=()
def tw9174154326817006381:Unit:=()
def tw18264462652551477751:Unit:=()
def tw892078083812653623:Unit:=()
def tw6595949819178935190:Unit:=()
def tw12777869956806004591:Unit:=()
def tw15508238080066147623:Unit:=()
def tw792341380793626077:Unit:=()
def tw2760498926324430635:Unit:=()
def tw11974720084837468559:Unit:=()
def tw10666114244184683278:Unit:=()
def tw13688237703988342002:Unit:=()
def tw3588412789662022760:Unit:=()
def tw11666824921093876274:Unit:=()
def tw10487960870164287255:Unit:=()
def tw4138563949671094176:Unit:=()
def tw16119976313964171309:Unit:=()
def tw1441176463804933490:Unit:=()
def tw1658429431354242398:Unit:=()
def tw8209207203082930928:Unit:=()
def tw11931148163731266058:Unit:=()
def tw18216139415018882519:Unit:=()
def tw14233702411398233878:Unit:=()
def tw9221945036089347879:Unit:=()
def tw8104694325721643034:Unit:=()
def tw2081108558813150926:Unit:=()
def tw14768563686559237231:Unit:=()
def tw2890313482153591130:Unit:=()
def tw7911633204476252796:Unit:=()
def tw9525688906209818929:Unit:=()
def tw7068158562092065040:Unit:=()
def tw18039330164911264662:Unit:=()
def tw6677853247326584976:Unit:=()
def tw16088391460918420864:Unit:=()
def tw7256741746550437451:Unit:=()
def tw10112217270259977380:Unit:=()
def tw7277668505290411954:Unit:=()
def tw2735627903058555595:Unit:=()
def tw2588485505295116150:Unit:=()
def tw1007658962159320787:Unit:=()
def tw15651370711919956781:Unit:=()
def tw13972677696849653332:Unit:=()
def tw18031451467040616564:Unit:=()
def tw8327814269868845571:Unit:=()
def tw16679957716662496794:Unit:=()
def tw8485173320988120083:Unit:=()
def tw2903101730346820942:Unit:=()
def tw6576642044951380064:Unit:=()
def tw983937866701796113:Unit:=()
def tw7303095026999928346:Unit:=()
def tw3735748445617237399:Unit:=()
def tw16055593384839240779:Unit:=()
def tw17566313041726350033:Unit:=()
def tw9485864392369480525:Unit:=()
def tw12596921329429807408:Unit:=()
def tw778640177789438941:Unit:=()
def tw15786649405123271854:Unit:=()
def tw15142817144729748833:Unit:=()
def tw437918589479582042:Unit:=()
def tw7191038884584637463:Unit:=()
def tw17347817622218847758:Unit:=()
def tw9528351617682384078:Unit:=()
def tw7351545357473915191:Unit:=()
def tw9427175496346029443:Unit:=()
def tw18384648113272751103:Unit:=()
def tw9790035731694470951:Unit:=()
def tw10639784431635380218:Unit:=()
def tw13273658242807987883:Unit:=()
def tw11078910495247611580:Unit:=()
def tw14245850389402721398:Unit:=()
def tw8287911918139837116:Unit:=()
def tw14933336312779716814:Unit:=()
def tw4438783031978885577:Unit:=()
def tw10115965470193479884:Unit:=()
def tw10513722749377646822:Unit:=()
def tw8112774720796608993:Unit:=()
def tw10774220283210077008:Unit:=()
def tw5214351305882753957:Unit:=()
def tw17923847232588628177:Unit:=()
def tw10558094205836839077:Unit:=()
def tw15594902736831604070:Unit:=()
def tw537207264137863832:Unit:=()
def tw769277253534596191:Unit:=()
def tw2579680485386111951:Unit:=()
def tw8353209009922617639:Unit:=()
def tw10322814158431586963:Unit:=()
def tw5867703527369339995:Unit:=()
def tw4213245737496935290:Unit:=()
def tw8751536750875490801:Unit:=()
def tw1234918690982570942:Unit:=()
def tw17605036418074367785:Unit:=()
def tw13336649578283533421:Unit:=()
def tw7839991465091002882:Unit:=()
def tw14346633515746516441:Unit:=()
def tw13563299994503650947:Unit:=()
def tw16893766971347646553:Unit:=()
def tw407894667145723578:Unit:=()
def tw16300896723250547924:Unit:=()
def tw4507717249573790159:Unit:=()
def tw16770113628055673217:Unit:=()
def tw16329895038150692678:Unit:=()
def tw14990417198467377262:Unit:=()
def tw11081232560645517145:Unit:=()
def tw418572378641616886:Unit:=()
def tw796903155692136953:Unit:=()
def tw17434742881945880131:Unit:=()
def tw9763496808541725625:Unit:=()
def tw8606708098727191426:Unit:=()
def tw12327594440487183839:Unit:=()
def tw17006216568840596686:Unit:=()
def tw12642130947494184202:Unit:=()
def tw2800296956939145182:Unit:=()
def tw17603326333461080557:Unit:=()
def tw17297146521773201173:Unit:=()
def tw17260401861709963603:Unit:=()
def tw3340040693302896589:Unit:=()
def tw11333973056195345423:Unit:=()
def tw9301599708962014985:Unit:=()
def tw18148020410918924542:Unit:=()
def tw5009155840684928195:Unit:=()
def tw16183750540990118987:Unit:=()
def tw16734694910610040208:Unit:=()
def tw14985256862021728655:Unit:=()
def tw5920536531343337872:Unit:=()
def tw7964595372475826277:Unit:=()
def tw13898546947323038177:Unit:=()
def tw17390914658964111893:Unit:=()
def tw803093282236470232:Unit:=()
def tw17819019625499982984:Unit:=()
def tw14343463449467371113:Unit:=()
def tw14148204314922886083:Unit:=()
def tw10529475114468158618:Unit:=()
def tw665986330439971592:Unit:=()
def tw10249527231430643016:Unit:=()
def tw3083717033684155094:Unit:=()
def tw2805550234515523997:Unit:=()
def tw14288365161981584005:Unit:=()
def tw6395904982833605276:Unit:=()
def tw4096533621362615252:Unit:=()
def tw17751794059685596549:Unit:=()
def tw4676306300809070715:Unit:=()
def tw14873517682852031692:Unit:=()
def tw1708329757690746511:Unit:=()
def tw8910218082181787646:Unit:=()
def tw1407397252798487066:Unit:=()
def tw13551585094447416444:Unit:=()
def tw6154287182023112629:Unit:=()
def tw14747098761216631222:Unit:=()
def tw12324107354035522862:Unit:=()
def tw10707850410222631123:Unit:=()
def tw9863112889316900521:Unit:=()
def tw17836769594366966301:Unit:=()
def tw14697611864280907804:Unit:=()
def tw11860711187904440006:Unit:=()
def tw16896317163454816702:Unit:=()
def tw18052232966419021413:Unit:=()
def tw8560603115706414886:Unit:=()
def tw880583732231853574:Unit:=()
def tw17341781367581932822:Unit:=()
def tw17463129874630970762:Unit:=()
def tw12515616960109320936:Unit:=()
def tw9400415223125130506:Unit:=()
def tw5989916348171995171:Unit:=()
def tw2436147988918570292:Unit:=()
def tw5311777591744430679:Unit:=()
def tw6753330055658877887:Unit:=()
def tw13555808138156026332:Unit:=()
def tw3588967721145512421:Unit:=()
def tw17356041088896230539:Unit:=()
def tw5856602513030941832:Unit:=()
def tw2280848228183461376:Unit:=()
def tw4414155689674596239:Unit:=()
def tw682702697580644512:Unit:=()
def tw1697173097472121184:Unit:=()
def tw1691198355009506441:Unit:=()
def tw379585971414736035:Unit:=()
def tw4334579359082305333:Unit:=()
def tw18304385648699347098:Unit:=()
def tw18099456471238655715:Unit:=()
def tw17966816542827047164:Unit:=()
def tw8793633926395051954:Unit:=()
def tw14360449126106676256:Unit:=()
def tw11298455503371438353:Unit:=()
def tw17707948231190799941:Unit:=()
def tw10330383461878251239:Unit:=()
def tw4632630232069425791:Unit:=()
def tw11770312665326018654:Unit:=()
def tw12660604978990718080:Unit:=()
def tw82793581866826663:Unit:=()
def tw12991350183561380140:Unit:=()
def tw5375424660094202833:Unit:=()
def tw584776003779429594:Unit:=()
def tw13016858933299458656:Unit:=()
def tw8911700173456187022:Unit:=()
def tw4349220564713630433:Unit:=()
def tw13999509215974243864:Unit:=()
def tw7192103091767052039:Unit:=()
def tw1215109861731611847:Unit:=()
def tw10878008223042619255:Unit:=()
def tw4202622506511317279:Unit:=()
def tw3485726490589972644:Unit:=()
def tw17870377514367648632:Unit:=()
def tw5298373465012659831:Unit:=()
def tw7009352139101142855:Unit:=()
def tw8392423687249239797:Unit:=()
def tw15705604363111173093:Unit:=()
def tw6512086711893098198:Unit:=()
def tw7263937920798892469:Unit:=()
def tw16547949473976747368:Unit:=()
def tw4637565040925962313:Unit:=()
end PySem.W.Fast
set_option maxRecDepth 100000 in
set_option maxHeartbeats 0 in
theorem PySem.Challenge.cw_forerun_k30_a_run_walked_holds : PySem.Challenge.rw_forerun_k30_a_run_walked.Holds := by
 w_on; o_law; k_head; (case hw => w_witness2)
 k_fill
 refine L2.walk_ofX (l := PySem.Challenge.rw_forerun_k30_a_run_walked) (n := 63) (k := 16) (x := "script") (sp := K30.sp_law) rfl (by decide) rfl ⟨rfl, by decide, by decide⟩ (fun w h Y => PySem.W.kIn_of Y) ?F ?S
 case F =>
  intro w mg fa h KX G hmg
  have T : ∃ t, K30.Txt (L2.KOf KX) mg t := by
   dsimp only [L2.KOf]
   refine' K30.txt_mk KX G ?qa0 ?ql0 ?qc0 ?qk0 ?qa1 ?ql1 ?qc1 ?qk1 ?qa2 ?ql2 ?qc2 ?qk2 ?qa3 ?qi3 ?ql3 ?qc3 ?qk3 ?qa4 ?qi4 ?ql4 ?qc4 ?qk4 ?qa5 ?qi5 ?ql5 ?qc5 ?qk5 ?qa6 ?ql6 ?qc6 ?qk6 ?qa7 ?ql7 ?qc7 ?qk7 ?qa8 ?ql8 ?qc8 ?qk8 ?qa9 ?ql9 ?qc9 ?qk9 ?qa10 ?ql10 ?qc10 ?qk10 ?qa11 ?ql11 ?qc11 ?qk11 ?qa12 ?ql12 ?qc12 ?qk12 ?qa13 ?ql13 ?qc13 ?qk13 ?qa14 ?ql14 ?qc14 ?qk14 ?qa15 ?ql15 ?qc15 ?qk15 ?qa16 ?ql16 ?qc16 ?qk16 ?qa17 ?qi17 ?ql17 ?qc17 ?qk17 ?qa18 ?qi18 ?ql18 ?qc18 ?qk18 ?qa19 ?qi19 ?ql19 ?qc19 ?qk19 ?qa20 ?ql20 ?qc20 ?qk20 ?qa21 ?qi21 ?ql21 ?qc21 ?qk21 ?qa22 ?qi22 ?ql22 ?qc22 ?qk22 ?qa23 ?qi23 ?ql23 ?qc23 ?qk23 ?qa24 ?qi24 ?ql24 ?qc24 ?qk24 ?qd24 ?qa25 ?ql25 ?qc25 ?qk25 ?qa26 ?ql26 ?qc26 ?qk26 ?qa27 ?ql27 ?qc27 ?qk27 ?qa28 ?ql28 ?qc28 ?qk28 ?qa29 ?ql29 ?qc29 ?qk29 ?qa30 ?ql30 ?qc30 ?qk30 ?qa31 ?ql31 ?qc31 ?qk31 ?qa32 ?ql32 ?qc32 ?qk32 ?qa33 ?ql33 ?qc33 ?qk33 ?qa34 ?ql34 ?qc34 ?qk34 ?qa35 ?ql35 ?qc35 ?qk35 ?qa36 ?ql36 ?qc36 ?qk36 ?qz0 ?qz1 ?qz2 ?qz3 ?qz4 ?qz5 ?qz6 ?qz7 ?qz8 ?qg0 ?qh0 ?qv0 ?qv1 ?qv2 ?pg2 ?pd2 ?po2 ?pe2 ?pm2_ ?pk2 ?pn2_0 ?pn2_1 ?pn2_2 ?pn2_3 ?pn2_4 ?pn2_5 ?pn2_6 ?rx0 ?ry0_0 ?ry0_1 ?ry0_2 ?ry0_3 ?ry0_4 ?ry0_5 ?ry0_6 ?ry0_7 ?re0_0 ?re0_1 ?rm0_0 ?rx1 ?ry1_0 ?ry1_1 ?ry1_2 ?ry1_3 ?ry1_4 ?ry1_5 ?ry1_6 ?ry1_7 ?re1_0 ?re1_1 ?rm1_0
   (case qv0 => k_is)
   (case qv1 => k_is)
   (case qv2 => k_is)
   (case qa0 => k_is)
   (case ql0 => k_is)
   (case qc0 => k_is)
   (case qk0 => k_is)
   (case qa1 => k_is)
   (case ql1 => k_is)
   (case qc1 => k_is)
   (case qk1 => k_is)
   (case qa2 => k_is)
   (case ql2 => k_is)
   (case qc2 => k_is)
   (case qk2 => k_is)
   (case qa3 => k_is)
   (case qi3 => k_is)
   (case ql3 => k_is)
   (case qc3 => k_is)
   (case qk3 => k_is)
   (case qa4 => k_is)
   (case qi4 => k_is)
   (case ql4 => k_is)
   (case qc4 => k_is)
   (case qk4 => k_is)
   (case qa5 => k_is)
   (case qi5 => k_is)
   (case ql5 => k_is)
   (case qc5 => k_is)
   (case qk5 => k_is)
   (case qa6 => k_is)
   (case ql6 => k_is)
   (case qc6 => k_is)
   (case qk6 => k_is)
   (case qa7 => k_is)
   (case ql7 => k_is)
   (case qc7 => k_is)
   (case qk7 => k_is)
   (case qa8 => k_is)
   (case ql8 => k_is)
   (case qc8 => k_is)
   (case qk8 => k_is)
   (case qa9 => k_is)
   (case ql9 => k_is)
   (case qc9 => k_is)
   (case qk9 => k_is)
   (case qa10 => k_is)
   (case ql10 => k_is)
   (case qc10 => k_is)
   (case qk10 => k_is)
   (case qa11 => k_is)
   (case ql11 => k_is)
   (case qc11 => k_is)
   (case qk11 => k_is)
   (case qa12 => k_is)
   (case ql12 => k_is)
   (case qc12 => k_is)
   (case qk12 => k_is)
   (case qa13 => k_is)
   (case ql13 => k_is)
   (case qc13 => k_is)
   (case qk13 => k_is)
   (case qa14 => k_is)
   (case ql14 => k_is)
   (case qc14 => k_is)
   (case qk14 => k_is)
   (case qa15 => k_is)
   (case ql15 => k_is)
   (case qc15 => k_is)
   (case qk15 => k_is)
   (case qa16 => k_is)
   (case ql16 => k_is)
   (case qc16 => k_is)
   (case qk16 => k_is)
   (case qa17 => k_is)
   (case qi17 => k_is)
   (case ql17 => k_is)
   (case qc17 => k_is)
   (case qk17 => k_is)
   (case qa18 => k_is)
   (case qi18 => k_is)
   (case ql18 => k_is)
   (case qc18 => k_is)
   (case qk18 => k_is)
   (case qa19 => k_is)
   (case qi19 => k_is)
   (case ql19 => k_is)
   (case qc19 => k_is)
   (case qk19 => k_is)
   (case qa20 => k_is)
   (case ql20 => k_is)
   (case qc20 => k_is)
   (case qk20 => k_is)
   (case qa21 => k_is)
   (case qi21 => k_is)
   (case ql21 => k_is)
   (case qc21 => k_is)
   (case qk21 => k_is)
   (case qa22 => k_is)
   (case qi22 => k_is)
   (case ql22 => k_is)
   (case qc22 => k_is)
   (case qk22 => k_is)
   (case qa23 => k_is)
   (case qi23 => k_is)
   (case ql23 => k_is)
   (case qc23 => k_is)
   (case qk23 => k_is)
   (case qa24 => k_is)
   (case qi24 => k_is)
   (case ql24 => k_is)
   (case qc24 => k_is)
   (case qk24 => k_is)
   (case qd24 => k_is)
   (case qa25 => k_is)
   (case ql25 => k_is)
   (case qc25 => k_is)
   (case qk25 => k_is)
   (case qa26 => k_is)
   (case ql26 => k_is)
   (case qc26 => k_is)
   (case qk26 => k_is)
   (case qa27 => k_is)
   (case ql27 => k_is)
   (case qc27 => k_is)
   (case qk27 => k_is)
   (case qa28 => k_is)
   (case ql28 => k_is)
   (case qc28 => k_is)
   (case qk28 => k_is)
   (case qa29 => k_is)
   (case ql29 => k_is)
   (case qc29 => k_is)
   (case qk29 => k_is)
   (case qa30 => k_is)
   (case ql30 => k_is)
   (case qc30 => k_is)
   (case qk30 => k_is)
   (case qa31 => k_is)
   (case ql31 => k_is)
   (case qc31 => k_is)
   (case qk31 => k_is)
   (case qa32 => k_is)
   (case ql32 => k_is)
   (case qc32 => k_is)
   (case qk32 => k_is)
   (case qa33 => k_is)
   (case ql33 => k_is)
   (case qc33 => k_is)
   (case qk33 => k_is)
   (case qa34 => k_is)
   (case ql34 => k_is)
   (case qc34 => k_is)
   (case qk34 => k_is)
   (case qa35 => k_is)
   (case ql35 => k_is)
   (case qc35 => k_is)
   (case qk35 => k_is)
   (case qa36 => k_is)
   (case ql36 => k_is)
   (case qc36 => k_is)
   (case qk36 => k_is)
   (case qz0 => k_is)
   (case qz1 => k_is)
   (case qz2 => k_is)
   (case qz3 => k_is)
   (case qz4 => k_is)
   (case qz5 => k_is)
   (case qz6 => k_is)
   (case qz7 => k_is)
   (case qz8 => k_is)
   (case qg0 => k_is)
   (case qh0 => k_is)
   (case pg2 => k_is)
   (case pd2 => k_is)
   (case po2 => k_is)
   (case pe2 => k_is)
   (case pm2_ => k_is)
   (case pk2 => k_is)
   (case pn2_0 => k_is)
   (case pn2_1 => k_is)
   (case pn2_2 => k_is)
   (case pn2_3 => k_is)
   (case pn2_4 => k_is)
   (case pn2_5 => k_is)
   (case pn2_6 => k_is)
   (case rx0 => k_exc)
   (case ry0_0 => k_is)
   (case ry0_1 => k_is)
   (case ry0_2 => k_is)
   (case ry0_3 => k_is)
   (case ry0_4 => k_is)
   (case ry0_5 => k_is)
   (case ry0_6 => k_is)
   (case ry0_7 => k_is)
   (case re0_0 => kernel_rfl)
   (case re0_1 => kernel_rfl)
   (case rm0_0 => kernel_rfl)
   (case rx1 => k_exc)
   (case ry1_0 => k_is)
   (case ry1_1 => k_is)
   (case ry1_2 => k_is)
   (case ry1_3 => k_is)
   (case ry1_4 => k_is)
   (case ry1_5 => k_is)
   (case ry1_6 => k_is)
   (case ry1_7 => k_is)
   (case re1_0 => kernel_rfl)
   (case re1_1 => kernel_rfl)
   (case rm1_0 => kernel_rfl)
  obtain ⟨t, T⟩ := T
  have e0 := hmg.symm.trans T.m_law
  cases e0
  exact ⟨_, T.w_law, fun base _ _ => K30.ok_law T⟩
 case S => exact fun K H a ns hl _ hS => ⟨a, ns, rfl, hS, hl, fun _ => rfl⟩
