import PyProof.Rows.All
import Wide.All
import OpenK.AllK
import Wide.FinOn
import Lean
import PyProof.EqAt
import PyProof.EqKinds
import PyProof.TupleCall
import PySem.Challenge.RW_forerun_k23_whole_rows_done
import KE.IntBitsLaws
import KE.KDictList
import KE.KDictOf
import KE.KEqDict
import KE.KIntText
import KE.KItemsList
import KE.KRevIter
import KE.KSortAsk
import KE.KSortTup
import KE.KSorted
import KE.KTryMore
import KE.LcSums
import PyProof.AttrMissHeap
import PyProof.Conv_int_bool
import PyProof.DictItems
import PyProof.DictKinds
import PyProof.DictWalks
import PyProof.EnumFor
import PyProof.EnumMake
import PyProof.EqKinds
import PyProof.ListIndexNeg
import PyProof.MeetsStr
import PyProof.NeKinds
import PyProof.NsDelKeeps
import PyProof.P3Eq
import PyProof.Rows.EqDataRows
import PyProof.Rows.Range3
import PyProof.StrCalls2
import PyProof.StrLaws
import PyProof.StrLawsTight
import PyProof.StrOps
import PyProof.StrOps2
import PyProof.TupleIter
import PyProof.TupleKey
import PyProof.TupleOfSeq
import PyProof.ZipIter
import Wide.ObjOpen
import Wide.RegSB
set_option Elab.async false
set_option linter.all false
set_option maxRecDepth 100000
namespace L2
open PySem PySem.Spec PyProof.Rows
abbrev Key:=Sum Int Str
def Xx:Key→Value→Bool
 | .inl k,v=>Value.isInt k v
 | .inr x,v=>Value.isStrOf x v
def zc1 (w:World):Key→Int
 | .inl k=>hashInt k
 | .inr x=>hashStr w x
theorem yI:∀ {k:Key} {v:Value},Xx k v=true→(∃ i t,k=Sum.inl i∧v=Value.int i t)∨(∃ x t,k=Sum.inr x∧v=Value.str x t)
 | .inl i,v,h=>by
  obtain ⟨t,e⟩:=Value.isInt_shape (k:=i) (v:=v) h
  exact .inl ⟨i,t,rfl,e⟩
 | .inr x,v,h=>by
  obtain ⟨t,e⟩:=Value.isStrOf_shape (x:=x) (v:=v) h
  exact .inr ⟨x,t,rfl,e⟩
theorem KB (i:Int) (t:Tok):Xx (.inl i) (.int i t)=true:=by simp [Xx,Value.isInt]
theorem KC (x:Str) (t:Tok):Xx (.inr x) (.str x t)=true:=by simp [Xx,Value.isStrOf]
theorem zbU (a b:Int):decide ((Sum.inl a:Key)=Sum.inl b)=(a == b):=by
 by_cases e:a=b
 ·subst e;simp
 ·have h:¬ (Sum.inl a:Key)=Sum.inl b:=fun q=>e (Sum.inl.inj q)
  rw [decide_eq_false h]
  exact (beq_eq_false_iff_ne.mpr e).symm
theorem zbV (a b:Str):decide ((Sum.inr a:Key)=Sum.inr b)=decide (a=b):=by
 by_cases e:a=b
 ·subst e;simp
 ·have h:¬ (Sum.inr a:Key)=Sum.inr b:=fun q=>e (Sum.inr.inj q)
  rw [decide_eq_false h,decide_eq_false e]
theorem zbW (a:Int) (b:Str):decide ((Sum.inl a:Key)=Sum.inr b)=false:=decide_eq_false (fun q=>nomatch q)
theorem zbX (a:Str) (b:Int):decide ((Sum.inr a:Key)=Sum.inl b)=false:=decide_eq_false (fun q=>nomatch q)
def yv (prog:Program) (w:World):PySem.KeyKind prog w Key where
 is:=Xx
 hash:=zc1 w
 inj:=fun v a b ha hb=>by
  rcases yI ha with ⟨i,t,rfl,rfl⟩ | ⟨x,t,rfl,rfl⟩
  ·rcases yI hb with ⟨j,u,rfl,e⟩ | ⟨y,u,rfl,e⟩
   ·injection e with e1 _;rw [e1]
   ·exact nomatch e
  ·rcases yI hb with ⟨j,u,rfl,e⟩ | ⟨y,u,rfl,e⟩
   ·exact nomatch e
   ·injection e with e1 _;rw [e1]
 byValue:=fun k v h=>by
  rcases yI h with ⟨i,t,rfl,rfl⟩ | ⟨x,t,rfl,rfl⟩ <;> rfl
 pyHash:=fun hv h=>by
  rcases yI hv with ⟨i,t,rfl,rfl⟩ | ⟨x,t,rfl,rfl⟩
  ·exact wpAny_pyHash_int h
  ·exact wpAny_pyHash_str h
 eqBool:=fun hu hv h=>by
  rcases yI hu with ⟨i,t,rfl,rfl⟩ | ⟨x,t,rfl,rfl⟩
  ·rcases yI hv with ⟨j,u,rfl,rfl⟩ | ⟨y,u,rfl,rfl⟩
   ·rw [zbU] at h;exact wpAny_eqBool_int h
   ·rw [zbW] at h;exact SeqAt.EqAt.int_str i t y u _ _ _ _ h
  ·rcases yI hv with ⟨j,u,rfl,rfl⟩ | ⟨y,u,rfl,rfl⟩
   ·rw [zbX] at h;exact SeqAt.EqAt.str_int x t j u _ _ _ _ h
   ·rw [zbV] at h;exact wpAny_eqBool_str h
 «strs»:=fun k x t v h=>by
  rcases yI h with ⟨i,u,rfl,e⟩ | ⟨y,u,rfl,e⟩
  ·exact nomatch e
  ·injection e with e1 _
   subst e1
   cases v <;> rfl
theorem WW (prog:Program) (w:World) (i:Int) (t:Tok):(yv prog w).is (.inl i) (.int i t)=true:=KB i t
theorem WX (prog:Program) (w:World) (x:Str) (t:Tok):(yv prog w).is (.inr x) (.str x t)=true:=KC x t
end L2
namespace L2
open PySem PySem.Spec PyProof.Rows
inductive V where
 | non | bl (b:Bool) | int (i:Int) | str (x:Str) | byt (b:Array UInt8) | flt (b:UInt64) | ref (a:Addr) | ty (n:String)
 deriving DecidableEq
def RelV:V→Value→Prop
 | .non,u=>u=Value.none
 | .bl b,u=>u=Value.bool b
 | .int i,u=>∃ t,u=Value.int i t
 | .str x,u=>∃ t,u=Value.str x t
 | .byt b,u=>∃ t,u=Value.bytes b t
 | .flt b,u=>∃ t,u=Value.float b t
 | .ref a,u=>u=Value.ref a
 | .ty n,u=>u=Value.type n
abbrev Vals:List V→List Value→Prop:=Paired RelV
theorem Vals.length {xs:List V} {us:List Value} (r:Vals xs us):xs.length=us.length:=Paired.length r
theorem Vals.get:∀ {xs:List V} {us:List Value} {i:Nat} {x:V},Vals xs us→xs[i]?=some x→∃ u,us[i]?=some u∧RelV x u
 | _,_,_,_,.nil,e=>by simp at e
 | _,_,0,_,.cons r _,e=>by simp at e;subst e;exact ⟨_,rfl,r⟩
 | _,_,i + 1,x,.cons _ t,e=>by
  obtain ⟨u,h1,h2⟩:=Vals.get (i:=i) (x:=x) t (by simpa using e)
  exact ⟨u,by simpa using h1,h2⟩
theorem Vals.append:∀ {xs ys:List V} {us ws:List Value},Vals xs us→Vals ys ws→Vals (xs ++ ys) (us ++ ws)
 | _,_,_,_,.nil,s=>s
 | _,_,_,_,.cons r t,s=>.cons r (Vals.append t s)
theorem Vals.take:∀ {xs:List V} {us:List Value} (n:Nat),Vals xs us→Vals (xs.take n) (us.take n)
 | _,_,0,_=>.nil
 | _,_,_ + 1,.nil=>.nil
 | _,_,n + 1,.cons r t=>.cons r (Vals.take n t)
theorem Vals.drop:∀ {xs:List V} {us:List Value} (n:Nat),Vals xs us→Vals (xs.drop n) (us.drop n)
 | _,_,0,r=>r
 | _,_,_ + 1,.nil=>.nil
 | _,_,n + 1,.cons _ t=>Vals.drop n t
def RelO:Option V→Option Value→Prop
 | some v,some u=>RelV v u
 | none,none=>True
 | _,_=>False
def KV {κ:Type}:List (κ × V)→List (κ × Value)→Prop:=Paired fun (p:κ × V) (q:κ × Value)=>p.1=q.1∧RelV p.2 q.2
def kV:Key→V
 | .inl i=>.int i
 | .inr x=>.str x
inductive HO where
  | lst (xs:List V)
  | tup (xs:List V)
  | dK (kvs:List (Key × V)) | dT (kvs:List (List Key × V))
  | set (S:Int→Bool) (n:Nat)
  | ins (C dx:Addr) (fs:List (Str × V))
  | own (x:Addr)
  | xd (fs:List (Str × V))
  | met (f x:Addr)
  | rng (lo hi:Int)
  | frz (o:Obj) (u:HO)
  | tbl (ps:Array Value)
  | ext (φ:Heap→Prop)
abbrev Hp:=Addr→Option HO
def upd (H:Hp) (a:Addr) (o:HO):Hp:=fun b=>if b=a then some o else H b
theorem zf {H:Hp} {a:Addr} {o:HO}:upd H a o a=some o:=by unfold upd;rw [if_pos rfl]
theorem zk {H:Hp} {a b:Addr} {o:HO} (h:b≠a):upd H a o b=H b:=by unfold upd;rw [if_neg h]
theorem ZU {H:Hp} {a:Addr} {o u:HO}:upd (upd H a o) a u=upd H a u:=by
 funext b;unfold upd;split <;> rfl
theorem xF {H:Hp} {a b:Addr} {o u:HO} (h:H a=some o) (h':H b=some u) (d:o≠u):a≠b:=by
 intro e;subst e;rw [h] at h';exact d (Option.some.inj h')
theorem zE {H:Hp} {a b:Addr} {o:HO} (h:H a=some o) (h':H b=none):a≠b:=by
 intro e;subst e;rw [h] at h';cases h'
section
variable (P:Program) (w:World)
def ObjOk (H:Hp) (h:Heap) (a:Addr):HO→Prop
 | .lst xs=>xs.length≤sizeLine∧∃ (its:List Value) (n:Nat),Vals xs its∧h.get? a=some { cls:=.type "list",data:=.seq its.toArray n }
 | .tup xs=>xs.length≤sizeLine∧∃ its:List Value,Vals xs its∧IsTup h a its.toArray
 | .dK kvs=>kvs.length≤sizeLine∧(a == sysModules)=false∧∃ vs,KV kvs vs∧h.DictOf (yv P w) a vs
 | .dT kvs=>kvs.length≤sizeLine∧(a == sysModules)=false∧∃ xs:List (List Key × Addr × Value),
   Paired (fun (p:List Key × V) (q:List Key × Addr × Value)=>p.1=q.1∧H q.2.1=some (.tup (p.1.map kV))∧RelV p.2 q.2.2) kvs xs ∧
   ∃ o es ep,h.get? a=some o∧o.ExactDict∧o.data=.dict es ep∧es.toList=xs.map (entryOfKey (tupleKind (yv P w)))∧(xs.map (·.1)).Nodup
 | .set S n=>h.SetOf (intKind P w) a S n
 | .ins C dx fs=>H dx=some (.own a)∧fs.length≤1000∧dx≠a∧h.get? a=some (W.instObj C dx) ∧
   ∃ mA,h.Ns1 dx mA∧(∀ f,RelO (fs.lookup f) (mA f))∧PySem.Within mA (fs.map (·.1))
 | .own _=>∃ o,h.get? a=some o
 | .xd fs=>∃ mA,h.Ns1 a mA∧∀ f,RelO (fs.lookup f) (mA f)
 | .rng lo hi=>∃ t u v,h.get? a=some { cls:=.type "range",data:=.fields #[.int lo t,.int hi u,.int 1 v] }
 | .frz o u=>h.get? a=some o∧ObjOk H h a u
 | .tbl ps=>h.get? a=some { cls:=.none,data:=.fields ps }
 | .met f x=>h.get? a=some (W.methodObj (.ref f) (.ref x))
 | .ext φ=>φ h∧(∃ o,h.get? a=some o)∧∀ h1 h2:Heap,φ h1→(∀ o,h1.get? a=some o→h2.get? a=some o)→φ h2
def HOk (H:Hp) (h:Heap):Prop:=∀ a o,H a=some o→ObjOk P w H h a o
end
section
variable {P:Program} {w:World} {H H':Hp} {h h':Heap} {a:Addr} {o:HO}
theorem ObjOk.lt (x:ObjOk P w H h a o):a < h.objs.size:=by
 cases o with
 | lst xs=>obtain ⟨_,_,_,_,e⟩:=x;exact Heap.lt_size e
 | tup xs=>obtain ⟨_,_,_,p⟩:=x;exact p.lt
 | dK kvs=>obtain ⟨_,_,_,_,o,_,_,e,_⟩:=x;exact Heap.lt_size e
 | dT kvs=>obtain ⟨_,_,_,_,o,_,_,e,_⟩:=x;exact Heap.lt_size e
 | set S n=>obtain ⟨o,_,_,_,e,_⟩:=x;exact Heap.lt_size e
 | ins C dx fs=>obtain ⟨_,_,_,e,_⟩:=x;exact Heap.lt_size e
 | own y=>obtain ⟨_,e⟩:=x;exact Heap.lt_size e
 | xd fs=>obtain ⟨_,⟨_,_,_,e,_⟩,_⟩:=x;exact Heap.lt_size e
 | rng lo hi=>obtain ⟨_,_,_,e⟩:=x;exact Heap.lt_size e
 | frz ob u=>obtain ⟨e,_⟩:=x;exact Heap.lt_size e
 | tbl ps=>exact Heap.lt_size (show h.get? a=some _ from x)
 | met f y=>exact Heap.lt_size (show h.get? a=some _ from x)
 | ext φ=>obtain ⟨_,⟨_,e⟩,_⟩:=x;exact Heap.lt_size e
theorem Paired.mapP {α β:Type} {F G:α→β→Prop}:∀ {l₁:List α} {l₂:List β},Paired F l₁ l₂→(∀ a b,F a b→G a b)→Paired G l₁ l₂
 | _,_,.nil,_=>.nil
 | _,_,.cons r t,f=>.cons (f _ _ r) (Paired.mapP t f)
theorem ObjOk.stay (x:ObjOk P w H h a o) (k:∀ b u,(b=a∨H b=some (.own a))→h.get? b=some u→h'.get? b=some u)
  (ho:∀ b,H b=some (.own a)→H' b=some (.own a)) (ht:∀ b xs,H b=some (.tup xs)→H' b=some (.tup xs)):ObjOk P w H' h' a o:=by
 induction o with
 | lst xs=>obtain ⟨z,its,n,r,e⟩:=x;exact ⟨z,its,n,r,k _ _ (.inl rfl) e⟩
 | tup xs=>obtain ⟨z,its,r,ob,e,c⟩:=x;exact ⟨z,its,r,ob,k _ _ (.inl rfl) e,c⟩
 | dK kvs=>obtain ⟨z,y,vs,r,ob,es,ep,e,c⟩:=x;exact ⟨z,y,vs,r,ob,es,ep,k _ _ (.inl rfl) e,c⟩
 | dT kvs =>
  obtain ⟨z,y,xs,r,ob,es,ep,e,c⟩:=x
  exact ⟨z,y,xs,Paired.mapP r fun p q z=>⟨z.1,ht _ _ z.2.1,z.2.2⟩,ob,es,ep,k _ _ (.inl rfl) e,c⟩
 | set S n=>obtain ⟨ob,es,ep,t,e,c⟩:=x;exact ⟨ob,es,ep,t,k _ _ (.inl rfl) e,c⟩
 | ins C dx fs =>
  obtain ⟨d,z,ne,e,mA,⟨od,es,ep,e2,c⟩,r⟩:=x
  exact ⟨ho _ d,z,ne,k _ _ (.inl rfl) e,mA,⟨od,es,ep,k _ _ (.inr d) e2,c⟩,r⟩
 | own y=>obtain ⟨ob,e⟩:=x;exact ⟨ob,k _ _ (.inl rfl) e⟩
 | xd fs=>obtain ⟨mA,⟨od,es,ep,e,c⟩,r⟩:=x;exact ⟨mA,⟨od,es,ep,k _ _ (.inl rfl) e,c⟩,r⟩
 | rng lo hi=>obtain ⟨t,u,v,e⟩:=x;exact ⟨t,u,v,k _ _ (.inl rfl) e⟩
 | frz ob u ih=>obtain ⟨e,q⟩:=x;exact ⟨k _ _ (.inl rfl) e,ih q⟩
 | tbl ps =>
  have e:h.get? a=some { cls:=.none,data:=.fields ps }:=x
  show h'.get? a=some { cls:=.none,data:=.fields ps }
  exact k a _ (.inl rfl) e
 | met f y =>
  have e:h.get? a=some (W.methodObj (.ref f) (.ref y)):=x
  show h'.get? a=some (W.methodObj (.ref f) (.ref y))
  exact k a _ (.inl rfl) e
 | ext φ=>obtain ⟨p,⟨o,e⟩,st⟩:=x;exact ⟨st _ _ p fun o q=>k _ _ (.inl rfl) q,⟨o,k _ _ (.inl rfl) e⟩,st⟩
theorem HOk.lt (x:HOk P w H h) (e:H a=some o):a < h.objs.size:=(x a o e).lt
theorem HOk.fresh (x:HOk P w H h) (e:h.objs.size≤a):H a=none:=by
 cases q:H a with
 | none=>rfl
 | some u=>exact absurd (Nat.lt_of_lt_of_le (x.lt q) e) (Nat.lt_irrefl _)
theorem HOk.kept (x:HOk P w H h) (k:∀ b u,h.get? b=some u→h'.get? b=some u):HOk P w H h':=fun a o e =>
 (x a o e).stay (fun b u _ q=>k b u q) (fun _ q=>q) fun _ _ q=>q
theorem HOk.laid (x:HOk P w H h) (k:∀ b u,h.get? b=some u→h'.get? b=some u) (hp:h.objs.size≤a) (new:ObjOk P w (upd H a o) h' a o):HOk P w (upd H a o) h':=fun b u e=>by
 have hn:=x.fresh hp
 by_cases hb:b=a
 ·subst hb;rw [zf] at e;cases e;exact new
 ·rw [zk hb] at e
  exact (x b u e).stay (fun c v _ q=>k c v q) (fun c q=>by rw [zk (zE q hn)];exact q) fun c xs q=>by rw [zk (zE q hn)];exact q
end
def Rd (H:Hp) (a:Addr) (u:HO):Prop:=H a=some u∨∃ o,H a=some (.frz o u)
theorem Rd.ok {P:Program} {w:World} {H:Hp} {h:Heap} {a:Addr} {u:HO} (r:Rd H a u) (x:HOk P w H h):ObjOk P w H h a u:=by
 rcases r with r | ⟨o,r⟩
 ·exact x a u r
 ·obtain ⟨_,q⟩:=x a _ r
  exact q
def Mut:Option HO→Prop
 | some (.lst _)=>True
 | some (.dK _)=>True
 | some (.dT _)=>True
 | some (.set _ _)=>True
 | some (.ins _ _ _)=>True
 | some (.ext _)=>True
 | _=>False
section
variable {P:Program} {w:World} {H:Hp} {h h':Heap} {x e:Addr} {o':HO}
theorem HOk.write (ok:HOk P w H h) (mu:Mut (H x)) (he:e=x∨H e=some (.own x)) (k:∀ b u,b≠e→h.get? b=some u→h'.get? b=some u) (heo:∃ u,h'.get? e=some u)
  (new:ObjOk P w (upd H x o') h' x o'):HOk P w (upd H x o') h':=fun b u q=>by
 have nown:∀ c y,H c=some (.own y)→c≠x:=fun c y r z=>by subst z;rw [r] at mu;exact mu
 have ntup:∀ c xs,H c=some (.tup xs)→c≠x:=fun c xs r z=>by subst z;rw [r] at mu;exact mu
 by_cases hb:b=x
 ·subst hb;rw [zf] at q;cases q;exact new
 ·rw [zk hb] at q
  by_cases hbe:b=e
  ·have q':H b=some (.own x):=by
    rcases he with z | z
    ·exact absurd (hbe.trans z) hb
    ·rw [hbe];exact z
   rw [q] at q';cases q'
   obtain ⟨v,hv⟩:=heo
   exact ⟨v,by rw [hbe];exact hv⟩
  ·refine (ok b u q).stay (fun c v hc r=>k c v ?_ r) (fun c r=>by rw [zk (nown c b r)];exact r) fun c xs r=>by rw [zk (ntup c xs r)];exact r
   rcases hc with rfl | hc
   ·exact hbe
   ·rintro rfl
    rcases he with z | z
    ·exact nown c b hc z
    ·rw [hc] at z;cases z;exact hb rfl
end
structure Un (fs ex:List Addr) (H H':Hp) (h h':Heap):Prop where
 keep:∀ b o,h.get? b=some o→H b=none→b ∉ fs→b ∉ ex→h'.get? b=some o
 slot:∀ b o,h.get? b=some o→H b=none→b∈fs→b ∉ ex→∃ sl,h'.get? b=some { o with slots:=sl }
 free:∀ b o,h.get? b=some o→H b=none→b ∉ ex→H' b=none
 there:∀ b o,h.get? b=some o→b ∉ ex→∃ o',h'.get? b=some o'
 tups:∀ b xs,H b=some (.tup xs)→H' b=some (.tup xs)
 frzs:∀ b o u,H b=some (.frz o u)→H' b=some (.frz o u)
 tbls:∀ b ps,H b=some (.tbl ps)→∃ more,H' b=some (.tbl (ps ++ more))
section
variable {fs fs' ex ex':List Addr} {H H1 H2:Hp} {h h1 h2 h':Heap} {a x e:Addr} {o:HO}
theorem Un.any (u:Un fs ex H H1 h h1) {b:Addr} {ob:Obj} (q:h.get? b=some ob) (n:H b=none) (hx:b ∉ ex):∃ sl,h1.get? b=some { ob with slots:=sl }:=by
 by_cases hb:b∈fs
 ·exact u.slot b ob q n hb hx
 ·exact ⟨ob.slots,u.keep b ob q n hb hx⟩
theorem Un.kept (k:∀ b u,h.get? b=some u→h'.get? b=some u):Un fs ex H H h h' :=
 ⟨fun b ob q _ _ _=>k b ob q,fun b ob q _ _ _=>⟨ob.slots,k b ob q⟩,fun _ _ _ n _=>n,fun b ob q _=>⟨ob,k b ob q⟩,fun _ _ q=>q,fun _ _ _ q=>q,fun _ ps q=>⟨#[],by rw [q];simp⟩⟩
theorem Un.refl:Un fs ex H H h h:=Un.kept fun _ _ q=>q
theorem Un.laid (k:∀ b u,h.get? b=some u→h'.get? b=some u) (hp:h.objs.size≤a) (hn:H a=none):Un fs ex H (upd H a o) h h' where
 keep:=fun b u q _ _ _=>k b u q
 slot:=fun b u q _ _ _=>⟨u.slots,k b u q⟩
 free:=fun b u q n _=>by rw [zk (Nat.ne_of_lt (Nat.lt_of_lt_of_le (Heap.lt_size q) hp))];exact n
 there:=fun b u q _=>⟨u,k b u q⟩
 tups:=fun b xs q=>by rw [zk (zE q hn)];exact q
 frzs:=fun b u xs q=>by rw [zk (zE q hn)];exact q
 tbls:=fun b ps q=>⟨#[],by rw [zk (zE q hn),q];simp⟩
theorem Un.write (mu:Mut (H x)) (he:e=x∨H e=some (.own x)) (k:∀ b u,b≠e→h.get? b=some u→h'.get? b=some u) (heo:∃ u,h'.get? e=some u):Un fs ex H (upd H x o) h h':=by
 have hx:∀ b,H b=none→b≠x:=fun b n z=>by subst z;rw [n] at mu;exact mu
 have hb:∀ b,H b=none→b≠e:=fun b n z=>by
  subst z
  rcases he with r | r
  ·exact hx b n r
  ·rw [n] at r;cases r
 have hm:∀ b u,H b=some u→¬ Mut (some u)→b≠x:=fun b u q nm z=>by subst z;rw [q] at mu;exact nm mu
 refine ⟨fun b u q n _ _=>k b u (hb b n) q,fun b u q n _ _=>⟨u.slots,k b u (hb b n) q⟩,fun b u q n _=>by rw [zk (hx b n)];exact n,fun b u q _=>?_,
  fun b xs q=>by rw [zk (hm b _ q fun z=>z)];exact q,fun b u xs q=>by rw [zk (hm b _ q fun z=>z)];exact q,fun b ps q=>⟨#[],by rw [zk (hm b _ q fun z=>z),q];simp⟩⟩
 by_cases hbe:b=e
 ·subst hbe;exact heo
 ·exact ⟨u,k b u hbe q⟩
end
def trk (h:Heap) (H:Hp):List Addr:=(List.range h.objs.size).filter fun a=>(H a).isSome
def Wc (h:Heap) (H:Hp):Heap:=W.hideAll h (trk h H)
theorem KD (h:Heap) (H:Hp):(Wc h H).objs.size=h.objs.size:=W.hideAll_size _ _
theorem Qm {h:Heap} {H:Hp} {b:Addr} {o:Obj} (e:h.get? b=some o) (n:H b=none):(Wc h H).get? b=some o :=
 W.hideAll_get _ e fun hm=>by
  have q:(H b).isSome=true:=(List.mem_filter.mp hm).2
  rw [n] at q;simp at q
theorem zaG {h:Heap} {H:Hp} {b:Addr} {o:Obj} (e:(Wc h H).get? b=some o):h.get? b=some o∧H b=none:=by
 have e':h.get? b=some o:=W.of_hideAll (trk h H) e
 refine ⟨e',?_⟩
 cases q:H b with
 | none=>rfl
 | some x =>
  have hm:b∈trk h H:=List.mem_filter.mpr ⟨List.mem_range.mpr (Heap.lt_size e'),by simp [q]⟩
  have z:(Wc h H).get? b=none:=W.hideAll_none (trk h H) hm
  rw [z] at e;cases e
def zaH (g h:Heap) (L:Addr):List (Addr × Obj):=(List.range h.objs.size).filterMap fun a=>if a=L∨(g.get? a).isSome=true then none else (h.get? a).map fun o=>(a,o)
def rest (g h:Heap) (L d:Addr):List (Addr × Obj):=(zaH g h L).filter fun p=>decide (p.1≠d)
end L2
namespace L2
open PySem PySem.Spec PyProof.Rows
structure Mod (K:W.Frag) (mg:Str→Option Value) (base:Heap):Prop where
 kin:K.In base
 glob:base.Ns mainGlobals mg
 blt:∃ mb,base.Ns builtinsNs mb∧∀ x:Str,x≠"__name__"→mb x=bootBuiltins x
 nolimit:base.NoLimit
set_option genSizeOf false in
set_option genInjectivity false in
structure Cx where
 prog:Program
 w:World
 K:W.Frag
 mg:Str→Option Value
 base:Heap
 A:Around
 N:List Str
 s₀:Shared
 H₀:Hp
 env:Env
 outer:List Env
 stack:List Env
 ex:List Addr
 fn:Str→Bool
 calm:Bool
 pn:List (Addr × Obj)
 xe:Value→Shared→Prop
def frs (l:List Env):List Addr:=l.filterMap (·.frame)
abbrev Cx.fs (X:Cx):List Addr:=frs X.outer
def Vis (sc:Scope) (x:Str):Prop:=sc.names.lookup x=some .local∨sc.names.lookup x=some .cell∨sc.names.lookup x=some .free
def Loc (sc:Scope) (x:Str):Prop:=sc.names.lookup x=some .local∨sc.names.lookup x=some .cell
def zc2 (env:Env) (h:Heap) (m:Str→Option Value) (x:Str) (u:Value):Prop :=
 (env.kindOf x=some .local∧m x=some u)∨((env.kindOf x=some .cell∨env.kindOf x=some .free)∧∃ c,env.cells.lookup x=some c∧h.IsCell c (some u))
structure Cx.Ok (X:Cx):Prop where
 mod:Mod X.K X.mg X.base
 kind:X.env.scope.kind=.function
 glob:X.env.globals=mainGlobals
 blt:X.env.builtins=builtinsNs
 above:X.s₀.heap.objs.size≤X.env.locals
 inj:∀ x y c,X.env.cells.lookup x=some c→X.env.cells.lookup y=some c→x=y
 has:∀ x,(X.env.kindOf x=some .cell∨X.env.kindOf x=some .free)→∃ c,X.env.cells.lookup x=some c
 cab:∀ x c,X.fn x=true→X.env.cells.lookup x=some c→X.s₀.heap.objs.size≤c
 hd:X.calm=true→X.A.handled=none
 frames:X.A.frames=some X.stack
 stk:X.stack=X.outer∨(X.stack=X.env :: X.outer∧X.env.frame=some X.env.locals)
 exf:∀ b∈X.ex,b≠X.env.locals∧∀ x c,X.env.cells.lookup x=some c→c≠b
 bs:∀ b o,X.base.get? b=some o→X.s₀.heap.get? b=some o∧X.H₀ b=none
 bsz:X.base.objs.size≤X.s₀.heap.objs.size
 noex:∀ b o,X.base.get? b=some o→b ∉ X.ex
 exfs:∀ b∈X.ex,b ∉ X.fs
 funs:X.s₀.heap.FunFrames X.base X.outer
 frf:∀ b∈X.fs,X.H₀ b=none
structure Inv (X:Cx) (pins:List (Addr × Obj)) (σ:List (Option V)) (H:Hp) (s:Shared):Prop where
 ok:X.Ok
 os:s.os=X.s₀.os
 bare:AllBare s.gens
 base:Un X.fs X.ex X.H₀ H X.s₀.heap s.heap
 loc:∃ m,s.heap.Ns X.env.locals m∧∀ (i:Nat) (x:Str) (v:V),X.N[i]?=some x→σ[i]?=some (some v)→Vis X.env.scope x→∃ u,RelV v u∧zc2 X.env s.heap m x u
 cell:∀ x c,X.env.cells.lookup x=some c→∃ v,s.heap.IsCell c v
 free:H X.env.locals=none
 freeC:∀ x c,X.env.cells.lookup x=some c→H c=none
 pin:∀ p∈X.pn ++ pins,s.heap.get? p.1=some p.2∧H p.1=none∧p.1≠X.env.locals∧p.1 ∉ X.fs∧∀ v,p.2.data≠.cell v
 hok:HOk X.prog X.w H s.heap
 len:σ.length=X.N.length
section
variable {X:Cx} {pins:List (Addr × Obj)} {σ:List (Option V)} {H H':Hp} {s:Shared} {h':Heap}
theorem Cx.Ok.nofr (ok:X.Ok) {b:Addr} {o:Obj} (e:X.base.get? b=some o):b ∉ X.fs:=fun hb=>by
 have:=(ok.funs.mem hb).1
 rw [e] at this;cases this
theorem Inv.bs (I:Inv X pins σ H s):∀ b o,X.base.get? b=some o→s.heap.get? b=some o∧H b=none:=fun b o e =>
 ⟨I.base.keep b o (I.ok.bs b o e).1 (I.ok.bs b o e).2 (I.ok.nofr e) (I.ok.noex b o e),I.base.free b o (I.ok.bs b o e).1 (I.ok.bs b o e).2 (I.ok.noex b o e)⟩
theorem Inv.bk (I:Inv X pins σ H s):∀ b o,X.base.get? b=some o→s.heap.get? b=some o:=fun b o e=>(I.bs b o e).1
theorem Inv.mod (I:Inv X pins σ H s):Mod X.K X.mg X.base:=I.ok.mod
theorem Inv.kIn (I:Inv X pins σ H s):X.K.In s.heap:=I.ok.mod.kin.keeps I.bk
theorem Inv.lt (I:Inv X pins σ H s):X.env.locals < s.heap.objs.size:=let ⟨_,hn,_⟩:=I.loc;hn.lt
theorem Inv.sz (I:Inv X pins σ H s):X.s₀.heap.objs.size≤s.heap.objs.size:=Nat.le_trans I.ok.above (Nat.le_of_lt I.lt)
theorem Inv.nofs (I:Inv X pins σ H s) {a:Addr} (h:s.heap.objs.size≤a):a ∉ X.fs:=fun hb=>by
 obtain ⟨_,o,ho,_⟩:=I.ok.funs.mem hb
 exact absurd (Nat.lt_of_lt_of_le (Heap.lt_size ho) (Nat.le_trans I.sz h)) (Nat.lt_irrefl _)
theorem Inv.cne (I:Inv X pins σ H s):∀ x c,X.env.cells.lookup x=some c→c≠X.env.locals:=fun x c e z=>by
 obtain ⟨v,o,ho,hd⟩:=I.cell x c e
 obtain ⟨m,⟨o',es,ep,ho',hd',_⟩,_⟩:=I.loc
 rw [z,ho'] at ho;cases ho;rw [hd'] at hd;cases hd
theorem Inv.funs (I:Inv X pins σ H s):s.heap.FunFrames X.base X.outer:=by
 have all:∀ (l:List Env),(∀ b∈frs l,b∈X.fs)→X.s₀.heap.FunFrames X.base l→s.heap.FunFrames X.base l:=by
  intro l
  induction l with
  | nil=>intro _ _;trivial
  | cons env r ih =>
   intro hs hl
   obtain ⟨hk,⟨L,o,hf,hn,ho,hd⟩,hr⟩:=hl
   have hL:L∈X.fs:=hs L (by unfold frs;rw [List.filterMap_cons,hf];exact List.mem_cons_self)
   obtain ⟨sl,e⟩:=I.base.slot L o ho (I.ok.frf L hL) hL fun z=>I.ok.exfs L z hL
   exact ⟨hk,⟨L,_,hf,hn,e,hd⟩,ih (fun b hb=>hs b (by unfold frs;rw [List.filterMap_cons,hf];exact List.mem_cons_of_mem _ hb)) hr⟩
 exact all X.outer (fun _ hb=>hb) I.ok.funs
theorem Inv.stack (I:Inv X pins σ H s):s.heap.FunFrames X.base X.stack:=by
 rcases I.ok.stk with e | ⟨e,hf⟩
 ·rw [e];exact I.funs
 ·rw [e]
  obtain ⟨m,hn,_⟩:=I.loc
  refine .cons (by rw [I.ok.kind];decide) hf hn ?_ I.funs
  exact Heap.get?_none_of_le (Nat.le_trans I.ok.bsz I.ok.above)
theorem Inv.stkSub (I:Inv X pins σ H s):∀ b∈frs X.stack,b∈X.env.locals :: X.fs:=fun b hb=>by
 rcases I.ok.stk with e | ⟨e,hf⟩
 ·rw [e] at hb;exact List.mem_cons_of_mem _ hb
 ·rw [e] at hb
  unfold frs at hb
  rw [List.filterMap_cons,hf] at hb
  exact hb
theorem Inv.stkFree (I:Inv X pins σ H s):∀ b∈frs X.stack,H b=none:=fun b hb=>by
 rcases List.mem_cons.mp (I.stkSub b hb) with e | hb
 ·rw [e];exact I.free
 ·obtain ⟨_,o,ho,_⟩:=I.ok.funs.mem hb
  exact I.base.free b o ho (I.ok.frf b hb) fun z=>I.ok.exfs b z hb
theorem Inv.step {g':Array GenState} {t':Nat} {d':Drawn} {ch:List Addr} (I:Inv X pins σ H s)
  (hch:∀ b∈ch,(b∈X.ex∨X.s₀.heap.objs.size≤b)∧b≠X.env.locals∧(∀ x c,X.env.cells.lookup x=some c→c≠b)∧∀ p∈X.pn ++ pins,p.1≠b)
  (keep:∀ b o,b≠X.env.locals→b ∉ X.fs→b ∉ ch→s.heap.get? b=some o→H b=none→h'.get? b=some o)
  (slot:∀ b o,b≠X.env.locals→b∈X.fs→b ∉ ch→s.heap.get? b=some o→H b=none→∃ sl,h'.get? b=some { o with slots:=sl }) (free:∀ b o,b ∉ ch→s.heap.get? b=some o→H b=none→H' b=none)
  (there:∀ b o,b ∉ ch→s.heap.get? b=some o→∃ o',h'.get? b=some o')
  (tups:∀ b xs,H b=some (.tup xs)→H' b=some (.tup xs)) (frzs:∀ b o u,H b=some (.frz o u)→H' b=some (.frz o u)) (tbls:∀ b ps,H b=some (.tbl ps)→∃ more,H' b=some (.tbl (ps ++ more)))
  (ns:∀ m,s.heap.Ns X.env.locals m→h'.Ns X.env.locals m) (hok:HOk X.prog X.w H' h') (hg:AllBare g') :
  Inv X pins σ H' { s with heap:=h',gens:=g',drawn:=d',toks:=t' }:=by
 have neL:∀ b o,X.s₀.heap.get? b=some o→b≠X.env.locals:=fun b o e=>Nat.ne_of_lt (Nat.lt_of_lt_of_le (Heap.lt_size e) I.ok.above)
 have neC:∀ b o,X.s₀.heap.get? b=some o→b ∉ X.ex→b ∉ ch:=fun b o e hx hb=>by
  rcases (hch b hb).1 with z | z
  ·exact hx z
  ·exact absurd (Nat.lt_of_lt_of_le (Heap.lt_size e) z) (Nat.lt_irrefl _)
 have cellK:∀ x c,X.env.cells.lookup x=some c→∀ v,s.heap.IsCell c v→h'.IsCell c v:=fun x c e v ⟨o,ho,hd⟩=>by
  have nch:c ∉ ch:=fun z=>(hch c z).2.2.1 x c e rfl
  by_cases hc:c∈X.fs
  ·obtain ⟨sl,q⟩:=slot c o (I.cne x c e) hc nch ho (I.freeC x c e)
   exact ⟨_,q,hd⟩
  ·exact ⟨o,keep c o (I.cne x c e) hc nch ho (I.freeC x c e),hd⟩
 refine ⟨I.ok,I.os,hg,⟨fun b o e n hb hx=>?_,fun b o e n hb hx=>?_,fun b o e n hx=>?_,fun b o e hx=>?_,fun b xs e=>tups b xs (I.base.tups b xs e),fun b o xs e=>frzs b o xs (I.base.frzs b o xs e),fun b ps e=>?_⟩,?_,fun x c e=>?_,?_,fun x c e=>?_,fun p hp=>?_,hok,I.len⟩
 ·exact keep b o (neL b o e) hb (neC b o e hx) (I.base.keep b o e n hb hx) (I.base.free b o e n hx)
 ·obtain ⟨sl,e1⟩:=I.base.slot b o e n hb hx
  obtain ⟨sl',e2⟩:=slot b _ (neL b o e) hb (neC b o e hx) e1 (I.base.free b o e n hx)
  exact ⟨sl',e2⟩
 ·obtain ⟨o',e1⟩:=I.base.there b o e hx
  exact free b o' (neC b o e hx) e1 (I.base.free b o e n hx)
 ·obtain ⟨o',e1⟩:=I.base.there b o e hx
  exact there b o' (neC b o e hx) e1
 ·obtain ⟨m1,e1⟩:=I.base.tbls b ps e
  obtain ⟨m2,e2⟩:=tbls b _ e1
  exact ⟨m1 ++ m2,by rw [e2,Array.append_assoc]⟩
 ·obtain ⟨m,hn,hl⟩:=I.loc
  refine ⟨m,ns m hn,fun i x v e1 e2 e3=>?_⟩
  obtain ⟨u,r,l⟩:=hl i x v e1 e2 e3
  refine ⟨u,r,?_⟩
  rcases l with l | ⟨k,c,e,z⟩
  ·exact .inl l
  ·exact .inr ⟨k,c,e,cellK x c e _ z⟩
 ·obtain ⟨v,z⟩:=I.cell x c e
  exact ⟨v,cellK x c e v z⟩
 ·obtain ⟨m,⟨o,_,_,ho,_⟩,_⟩:=I.loc
  exact free _ o (fun z=>(hch _ z).2.1 rfl) ho I.free
 ·obtain ⟨v,o,ho,hd⟩:=I.cell x c e
  exact free c o (fun z=>(hch c z).2.2.1 x c e rfl) ho (I.freeC x c e)
 ·obtain ⟨e,n,ne,nf,d⟩:=I.pin p hp
  have nch:p.1 ∉ ch:=fun z=>(hch p.1 z).2.2.2 p hp rfl
  exact ⟨keep p.1 p.2 ne nf nch e n,free p.1 p.2 nch e n,ne,nf,d⟩
theorem Inv.un {t':Nat} (I:Inv X pins σ H s) (u:Un X.fs [] H H' s.heap h') (hok:HOk X.prog X.w H' h'):Inv X pins σ H' { s with heap:=h',toks:=t' }:=by
 obtain ⟨m,⟨o,es,ep,ho,r⟩,_⟩:=id I.loc
 obtain ⟨sl,hL⟩:=u.any ho I.free (by simp)
 exact I.step (g':=s.gens) (d':=s.drawn) (ch:=[]) (fun _ z=>nomatch z) (fun b o _ hb _ e n=>u.keep b o e n hb (by simp)) (fun b o _ hb _ e n=>u.slot b o e n hb (by simp)) (fun b o _ e n=>u.free b o e n (by simp)) (fun b o _ e=>u.there b o e (by simp)) u.tups u.frzs u.tbls (fun m' hm=>by
  obtain ⟨o',es',ep',ho',r'⟩:=hm
  rw [ho] at ho';cases ho'
  exact ⟨_,es',ep',hL,r'⟩) hok I.bare
theorem Inv.call {g':Array GenState} {t':Nat} {d':Drawn} {ch:List Addr} (I:Inv X pins σ H s) (u:Un (frs X.stack) ch H H' s.heap h') (hok:HOk X.prog X.w H' h') (hg:AllBare g')
  (hch:∀ b∈ch,(b∈X.ex∨X.s₀.heap.objs.size≤b)∧b≠X.env.locals∧(∀ x c,X.env.cells.lookup x=some c→c≠b)∧∀ p∈X.pn ++ pins,p.1≠b) :
  Inv X pins σ H' { s with heap:=h',gens:=g',drawn:=d',toks:=t' }:=by
 obtain ⟨m,⟨o,es,ep,ho,r⟩,_⟩:=id I.loc
 obtain ⟨sl,hL⟩:=u.any ho I.free fun z=>(hch _ z).2.1 rfl
 exact I.step (ch:=ch) hch (fun b o hL hb hc e n=>u.keep b o e n (fun z=>(List.mem_cons.mp (I.stkSub b z)).elim hL hb) hc) (fun b o _ _ hc e n=>u.any e n hc) (fun b o hc e n=>u.free b o e n hc) (fun b o hc e=>u.there b o e hc) u.tups u.frzs u.tbls (fun m' hm=>by
  obtain ⟨o',es',ep',ho',r'⟩:=hm
  rw [ho] at ho';cases ho'
  exact ⟨_,es',ep',hL,r'⟩) hok hg
theorem Inv.turned {t':Nat} {it:Addr} (I:Inv X pins σ H s) (k:∀ b o,b≠it→s.heap.get? b=some o→h'.get? b=some o) (hn:H it=none) (hL:it≠X.env.locals)
  (h1:it∈X.ex∨X.s₀.heap.objs.size≤it) (h2:∀ x c,X.env.cells.lookup x=some c→c≠it) (h3:∀ p∈X.pn ++ pins,p.1≠it):Inv X pins σ H { s with heap:=h',toks:=t' }:=by
 have nit:∀ b u,H b=some u→b≠it:=fun b u e z=>by rw [z,hn] at e;cases e
 refine I.step (g':=s.gens) (d':=s.drawn) (ch:=[it]) (fun b hb=>?_) (fun b o _ _ hc e _=>k b o (fun z=>hc (by simp [z])) e) (fun b o _ _ hc e _=>⟨o.slots,k b o (fun z=>hc (by simp [z])) e⟩) (fun _ _ _ _ n=>n)
  (fun b o hc e=>⟨o,k b o (fun z=>hc (by simp [z])) e⟩) (fun _ _ e=>e) (fun _ _ _ e=>e) (fun b ps e=>⟨#[],by rw [e];simp⟩) (fun m hm=>?_) (fun b u e=>?_) I.bare
 ·have e:b=it:=by simpa using hb
  subst e
  exact ⟨h1,hL,h2,h3⟩
 ·obtain ⟨o,es,ep,ho,r⟩:=hm
  exact ⟨o,es,ep,k _ o (Ne.symm hL) ho,r⟩
 ·refine (I.hok b u e).stay (fun c v hc q=>k c v ?_ q) (fun _ q=>q) fun _ _ q=>q
  rcases hc with z | z
  ·rw [z];exact nit b u e
  ·exact nit c _ z
theorem Inv.tok (I:Inv X pins σ H s) (t:Nat):Inv X pins σ H { s with toks:=t }:=I.un (h':=s.heap) (t':=t) Un.refl I.hok
theorem Inv.kept {t':Nat} (I:Inv X pins σ H s) (k:∀ b u,s.heap.get? b=some u→h'.get? b=some u):Inv X pins σ H { s with heap:=h',toks:=t' }:=I.un (Un.kept k) (I.hok.kept k)
theorem Inv.laid {a:Addr} {o:HO} {t':Nat} (I:Inv X pins σ H s) (k:∀ b u,s.heap.get? b=some u→h'.get? b=some u) (hp:s.heap.objs.size≤a) (new:ObjOk X.prog X.w (upd H a o) h' a o) :
  Inv X pins σ (upd H a o) { s with heap:=h',toks:=t' }:=I.un (Un.laid k hp (I.hok.fresh hp)) (I.hok.laid k hp new)
theorem Inv.write {x e:Addr} {o:HO} {t':Nat} (I:Inv X pins σ H s) (mu:Mut (H x)) (he:e=x∨H e=some (.own x)) (k:∀ b u,b≠e→s.heap.get? b=some u→h'.get? b=some u) (heo:∃ u,h'.get? e=some u)
  (new:ObjOk X.prog X.w (upd H x o) h' x o):Inv X pins σ (upd H x o) { s with heap:=h',toks:=t' }:=I.un (Un.write mu he k heo) (I.hok.write mu he k heo new)
theorem Inv.pins_of {pins':List (Addr × Obj)} (I:Inv X pins σ H s) (h:∀ p∈pins',s.heap.get? p.1=some p.2∧H p.1=none∧p.1≠X.env.locals∧p.1 ∉ X.fs∧∀ v,p.2.data≠.cell v):Inv X pins' σ H s :=
 ⟨I.ok,I.os,I.bare,I.base,I.loc,I.cell,I.free,I.freeC,fun p hp=>(List.mem_append.mp hp).elim (fun z=>I.pin p (List.mem_append_left _ z)) (h p),I.hok,I.len⟩
theorem WY {N:List Str} (hN:N.Nodup) {i j:Nat} {x:Str} (a:N[i]?=some x) (b:N[j]?=some x):i=j:=by
 obtain ⟨h1,e1⟩:=List.getElem?_eq_some_iff.mp a
 obtain ⟨h2,e2⟩:=List.getElem?_eq_some_iff.mp b
 exact (List.getElem_inj hN).mp (e1.trans e2.symm)
theorem Xy {M:Model} {A:Around} {E:Value→Shared→Prop} {i:Nat} {x:Str} {v:V} {u:Value} {Q:Unit→Shared→Prop} (I:Inv X pins σ H s) (hN:X.N.Nodup) (hi:X.N[i]?=some x) (hx:Loc X.env.scope x) (r:RelV v u)
  (h:∀ s',Inv X pins (σ.set i (some v)) H s'→(∃ a,Heap.SameBut a s.heap s'.heap∧(a=X.env.locals∨X.env.cells.lookup x=some a))→Q () s') (hf:X.fn x=true∨X.env.scope.names.lookup x=some .local:=by first | exact .inl rfl | exact .inr rfl | assumption):wpAny M A (storeName X.env x u) Q E s:=by
 obtain ⟨m,hn,hl⟩:=id I.loc
 have hcls:(X.env.scope.kind == .class || (X.env.scope.kind == .module && X.env.locals != X.env.globals))=false:=by rw [I.ok.kind];rfl
 have hiσ:i < σ.length:=by rw [I.len];exact (List.getElem?_eq_some_iff.mp hi).1
 have cne:=I.cne
 have tracked:∀ {a:Addr} {h':Heap},(∃ o,s.heap.get? a=some o∧H a=none)→Heap.SameBut a s.heap h'→HOk X.prog X.w H h':=fun {a h'} ha hs b ob e=>by
  obtain ⟨_,_,hfree⟩:=ha
  refine (I.hok b ob e).stay (fun c w' hc q=>(hs.2 c ?_).trans q) (fun _ q=>q) fun _ _ q=>q
  rintro rfl
  rcases hc with rfl | hc
  ·rw [hfree] at e;cases e
  ·rw [hfree] at hc;cases hc
 rcases hx with hk | hk
 ·refine wpAny_storeName_local hk hn (fun h' hn' hs=>?_) hcls
  obtain ⟨oL,_,_,hoL,_⟩:=id hn
  refine h _ ⟨I.ok,I.os,I.bare,⟨fun b o e n hb hx=>?_,fun b o e n hb hx=>?_,I.base.free,fun b o e hx=>?_,I.base.tups,I.base.frzs,I.base.tbls⟩,⟨_,hn',fun j y v' e1 e2 e3=>?_⟩,fun y c e=>?_,I.free,I.freeC,fun p hp=>?_,tracked ⟨oL,hoL,I.free⟩ hs,by simpa using I.len⟩ ⟨_,hs,.inl rfl⟩
  ·exact (hs.2 b (Nat.ne_of_lt (Nat.lt_of_lt_of_le (Heap.lt_size e) I.ok.above))).trans (I.base.keep b o e n hb hx)
  ·obtain ⟨sl,e1⟩:=I.base.slot b o e n hb hx
   exact ⟨sl,(hs.2 b (Nat.ne_of_lt (Nat.lt_of_lt_of_le (Heap.lt_size e) I.ok.above))).trans e1⟩
  ·obtain ⟨o',e1⟩:=I.base.there b o e hx
   exact ⟨o',(hs.2 b (Nat.ne_of_lt (Nat.lt_of_lt_of_le (Heap.lt_size e) I.ok.above))).trans e1⟩
  ·by_cases hj:j=i
   ·subst hj
    rw [hi] at e1;cases e1
    rw [List.getElem?_set_self hiσ] at e2
    cases e2
    exact ⟨u,r,.inl ⟨hk,by simp⟩⟩
   ·rw [List.getElem?_set_ne (Ne.symm hj)] at e2
    obtain ⟨u',r',q⟩:=hl j y v' e1 e2 e3
    refine ⟨u',r',?_⟩
    rcases q with ⟨k,e⟩ | ⟨k,c,e,z⟩
    ·refine .inl ⟨k,?_⟩
     have:y≠x:=fun e=>hj (WY hN e1 (e ▸ hi))
     simp [this,e]
    ·exact .inr ⟨k,c,e,z.sameBut hs (cne y c e)⟩
  ·obtain ⟨w',z⟩:=I.cell y c e
   exact ⟨w',z.sameBut hs (cne y c e)⟩
  ·obtain ⟨e,n,ne,nf,d⟩:=I.pin p hp
   exact ⟨(hs.2 p.1 ne).trans e,n,ne,nf,d⟩
 ·have hfn:X.fn x=true:=by
   rcases hf with z | z
   ·exact z
   ·rw [z] at hk;cases hk
  obtain ⟨c,hc⟩:=I.ok.has x (.inl hk)
  obtain ⟨w',z⟩:=I.cell x c hc
  refine wpAny_storeName_cell I.ok.kind hk hc z (fun h' hc' hs=>?_)
  obtain ⟨oc,hoc,hocd⟩:=id z
  refine h { s with heap:=h' } ⟨I.ok,I.os,I.bare,⟨fun b o e n hb hx=>?_,fun b o e n hb hx=>?_,I.base.free,fun b o e hx=>?_,I.base.tups,I.base.frzs,I.base.tbls⟩,⟨m,hn.sameBut hs (Ne.symm (cne x c hc)),fun j y v' e1 e2 e3=>?_⟩,fun y c' e=>?_,I.free,I.freeC,fun p hp=>?_,tracked ⟨oc,hoc,I.freeC x c hc⟩ hs,by simpa using I.len⟩ ⟨c,hs,.inr hc⟩
  ·exact (hs.2 b (Nat.ne_of_lt (Nat.lt_of_lt_of_le (Heap.lt_size e) (I.ok.cab x c hfn hc)))).trans (I.base.keep b o e n hb hx)
  ·obtain ⟨sl,e1⟩:=I.base.slot b o e n hb hx
   exact ⟨sl,(hs.2 b (Nat.ne_of_lt (Nat.lt_of_lt_of_le (Heap.lt_size e) (I.ok.cab x c hfn hc)))).trans e1⟩
  ·obtain ⟨o',e1⟩:=I.base.there b o e hx
   exact ⟨o',(hs.2 b (Nat.ne_of_lt (Nat.lt_of_lt_of_le (Heap.lt_size e) (I.ok.cab x c hfn hc)))).trans e1⟩
  ·by_cases hj:j=i
   ·subst hj
    rw [hi] at e1;cases e1
    rw [List.getElem?_set_self hiσ] at e2
    cases e2
    exact ⟨u,r,.inr ⟨.inl hk,c,hc,hc'⟩⟩
   ·rw [List.getElem?_set_ne (Ne.symm hj)] at e2
    obtain ⟨u',r',q⟩:=hl j y v' e1 e2 e3
    refine ⟨u',r',?_⟩
    rcases q with q | ⟨k,c',e,z'⟩
    ·exact .inl q
    ·refine .inr ⟨k,c',e,z'.sameBut hs ?_⟩
     rintro rfl
     exact hj (WY hN e1 (I.ok.inj _ _ _ e hc ▸ hi))
  ·by_cases hcc:c'=c
   ·subst hcc;exact ⟨_,hc'⟩
   ·obtain ⟨w2,z2⟩:=I.cell y c' e
    exact ⟨w2,z2.sameBut hs hcc⟩
  ·obtain ⟨e,n,ne,nf,d⟩:=I.pin p hp
   refine ⟨(hs.2 p.1 ?_).trans e,n,ne,nf,d⟩
   intro q
   rw [q,hoc] at e
   have q':oc=p.2:=Option.some.inj e
   exact d w' (by rw [← q'];exact hocd)
theorem Ya {M:Model} {A:Around} {E:Value→Shared→Prop} {i:Nat} {x:Str} {v:V} {u:Value} {Q:Unit→Shared→Prop} (I:Inv X pins σ H s) (hN:X.N.Nodup) (hi:X.N[i]?=some x) (hx:Loc X.env.scope x) (r:RelV v u)
  (h:∀ s',Inv X pins (σ.set i (some v)) H s'→Q () s') (hf:X.fn x=true∨X.env.scope.names.lookup x=some .local:=by first | exact .inl rfl | exact .inr rfl | assumption):wpAny M A (storeName X.env x u) Q E s :=
 Xy I hN hi hx r (fun s' I' _=>h s' I') hf
theorem Inv.call' {s':Shared} {ch:List Addr} (I:Inv X pins σ H s) (ho:s'.os=s.os) (u:Un (frs X.stack) ch H H' s.heap s'.heap) (hok:HOk X.prog X.w H' s'.heap) (hg:AllBare s'.gens)
  (hch:∀ b∈ch,(b∈X.ex∨X.s₀.heap.objs.size≤b)∧b≠X.env.locals∧(∀ x c,X.env.cells.lookup x=some c→c≠b)∧∀ p∈X.pn ++ pins,p.1≠b):Inv X pins σ H' s':=by
 obtain ⟨h',g',d',t',o'⟩:=s'
 have e:o'=s.os:=ho
 subst e
 exact I.call (g':=g') (t':=t') (d':=d') u hok hg hch
end
abbrev XK:=Value→Option Addr→Hp→Prop
abbrev St:=List (Option V)
abbrev VK:=V→Hp→Prop
abbrev TE:=St→Hp→VK→Prop
abbrev TT:=St→Hp→(Bool→Hp→Prop)→Prop
abbrev TA:=St→Hp→(List V→Hp→Prop)→Prop
set_option genSizeOf false in
set_option genInjectivity false in
structure Xd where
 nx:St→Hp→Prop
 rt:VK
 bk:St→Hp→Prop:=fun _ _=>False
 ct:St→Hp→Prop:=fun _ _=>False
abbrev TS:=Xd→St→Hp→Prop
def EP (X:Cx) (pins:List (Addr × Obj)) (σ:St) (Q:VK) (u:Value) (s':Shared):Prop:=∃ v H',Inv X pins σ H' s'∧RelV v u∧Q v H'
def TP (X:Cx) (pins:List (Addr × Obj)) (σ:St) (Q:Bool→Hp→Prop) (b:Bool) (s':Shared):Prop:=∃ H',Inv X pins σ H' s'∧Q b H'
def AP (X:Cx) (pins:List (Addr × Obj)) (σ:St) (Q:List V→Hp→Prop) (us:List Value) (s':Shared):Prop:=∃ vs H',Inv X pins σ H' s'∧Vals vs us∧Q vs H'
def SP (X:Cx) (pins:List (Addr × Obj)) (D:Xd) (f:Flow) (s':Shared):Prop :=
 match f with
 | .next=>∃ σ' H',Inv X pins σ' H' s'∧D.nx σ' H'
 | .brk=>∃ σ' H',Inv X pins σ' H' s'∧D.bk σ' H'
 | .cont=>∃ σ' H',Inv X pins σ' H' s'∧D.ct σ' H'
 | .ret u=>∃ v σ' H',Inv X pins σ' H' s'∧RelV v u∧D.rt v H'
def PE (X:Cx) (e:Expr) (t:TE):Prop :=
 ∀ (pins:List (Addr × Obj)) (s:Shared) (σ:St) (H:Hp) (Q:VK),Inv X pins σ H s→t σ H Q→wpAny (model X.prog X.w) X.A (eval e X.env) (EP X pins σ Q) X.xe s
def PT (X:Cx) (e:Expr) (t:TT):Prop :=
 ∀ (pins:List (Addr × Obj)) (s:Shared) (σ:St) (H:Hp) (Q:Bool→Hp→Prop),Inv X pins σ H s→t σ H Q→wpAny (model X.prog X.w) X.A (isTrue e X.env (eval e X.env)) (TP X pins σ Q) X.xe s
def PW (X:Cx) (e:Expr) (t:TT):Prop :=
 ∀ (whole:Sem Value) (pins:List (Addr × Obj)) (s:Shared) (σ:St) (H:Hp) (Q:Bool→Hp→Prop),Inv X pins σ H s→t σ H Q→wpAny (model X.prog X.w) X.A (isTrue e X.env whole) (TP X pins σ Q) X.xe s
theorem PW.pt {X:Cx} {e:Expr} {t:TT} (h:PW X e t):PT X e t:=h _
def PA (X:Cx) (es:List Expr) (t:TA):Prop :=
 ∀ (pos:Pos) (pins:List (Addr × Obj)) (s:Shared) (σ:St) (H:Hp) (Q:List V→Hp→Prop),Inv X pins σ H s→t σ H Q→wpAny (model X.prog X.w) X.A (spliced (backTo pos (starEach es X.env))) (AP X pins σ Q) X.xe s
def PS (X:Cx) (st:Stmt) (t:TS):Prop :=
 ∀ (pins:List (Addr × Obj)) (s:Shared) (σ:St) (H:Hp) (D:Xd),Inv X pins σ H s→t D σ H→wpAny (model X.prog X.w) X.A (exec st X.env) (SP X pins D) X.xe s
def PSs (X:Cx) (st:List Stmt) (t:TS):Prop :=
 ∀ (pins:List (Addr × Obj)) (s:Shared) (σ:St) (H:Hp) (D:Xd),Inv X pins σ H s→t D σ H→wpAny (model X.prog X.w) X.A (execs st X.env) (SP X pins D) X.xe s
theorem thn {α:Type} {t:Sem α} {Q Q':α→Shared→Prop} {M:Model} {A:Around} {E:Value→Shared→Prop} {s:Shared} (h:wpAny M A t Q E s) (hQ:∀ a s,Q a s→Q' a s):wpAny M A t Q' E s:=wpAny_mono h hQ fun _ _ x=>x
end L2
namespace L2
open PySem PySem.Spec PyProof.Rows
section
variable {X:Cx}
def zc (i:Nat):TE:=fun σ H Q=>∃ v,σ[i]?=some (some v)∧Q v H
def tC (v:V):TE:=fun _ H Q=>Q v H
theorem zbY {i:Nat} {x:Str} {pos:Pos} (hN:X.N[i]?=some x) (hv:Vis X.env.scope x) (hd:(x == ("__debug__":Str))=false:=by decide) (hcd:(x == ("__classdict__":Str))=false:=by decide):PE X (.Name x pos) (zc i):=by
 intro pins s σ H Q I h
 obtain ⟨v,e,h⟩:=h
 obtain ⟨m,hn,hl⟩:=I.loc
 obtain ⟨u,r,l⟩:=hl i x v hN e hv
 have fin:EP X pins σ Q u s:=⟨v,H,I,r,h⟩
 rcases l with ⟨hk,hm⟩ | ⟨hk,c,hc,hcell⟩
 ·exact wpAny_Name (wpAny_loadName_local I.ok.kind hk hn hm fin) hd
 ·rcases hk with hk | hk
  ·exact wpAny_Name (wpAny_loadName_cell I.ok.kind hk hc hcell fin) hd
  ·exact wpAny_Name (wpAny_loadName_free I.ok.kind hk hc hcell fin hcd) hd
theorem zd {i j pos}:PE X (.Constant (.int i) j pos) (tC (.int i)):=fun _ _ _ H _ I h=>wpAny_Constant_int ⟨.int i,H,I.tok _,⟨_,rfl⟩,h⟩
theorem vO {b j pos}:PE X (.Constant (.bool b) j pos) (tC (.bl b)):=fun _ _ _ H _ I h=>Constant_bool ⟨.bl b,H,I,rfl,h⟩
theorem j9 {j pos}:PE X (.Constant .none j pos) (tC .non):=fun _ _ _ H _ I h=>Constant_none ⟨.non,H,I,rfl,h⟩
theorem zw {x j pos}:PE X (.Constant (.str x) j pos) (tC (.str x)):=fun _ _ _ H _ I h=>Calls.Constant_str ⟨.str x,H,I.tok _,⟨_,rfl⟩,h⟩
def Gl (X:Cx) (x:Str):Prop:=X.env.kindOf x=some .globalImplicit
theorem js {E:Value→Shared→Prop} {pins:List (Addr × Obj)} {s:Shared} {σ:St} {H:Hp} {x:Str} {u:Value} {pos:Pos} {Q:Value→Shared→Prop} (I:Inv X pins σ H s) (hg:Gl X x) (hm:X.mg x=some u) (h:Q u s)
  (hd:(x == ("__debug__":Str))=false:=by decide):wpAny (model X.prog X.w) X.A (eval (.Name x pos) X.env) Q E s :=
 Calls.Name_function_global I.ok.kind hg (Calls.loadGlobal_global (by rw [I.ok.glob];exact I.mod.glob.keeps I.bk) hm h) hd
theorem Yb {E:Value→Shared→Prop} {pins:List (Addr × Obj)} {s:Shared} {σ:St} {H:Hp} {x:Str} {u:Value} {pos:Pos} {Q:Value→Shared→Prop} (I:Inv X pins σ H s) (hg:Gl X x) (hm:X.mg x=none) (hv:bootBuiltins x=some u) (h:Q u s)
  (hn:x≠"__name__":=by decide) (hd:(x == ("__debug__":Str))=false:=by decide):wpAny (model X.prog X.w) X.A (eval (.Name x pos) X.env) Q E s:=by
 obtain ⟨mb,h1,h2⟩:=I.mod.blt
 exact Calls.Name_function_global I.ok.kind hg (Calls.loadGlobal_builtin (by rw [I.ok.glob];exact I.mod.glob.keeps I.bk) hm (by rw [I.ok.blt];exact h1.keeps I.bk) ((h2 x hn).trans hv) h) hd
theorem zaI {x:Str} {v:V} {u:Value} {pos:Pos} (hg:Gl X x) (hm:X.mg x=some u) (r:RelV v u) (hd:(x == ("__debug__":Str))=false:=by decide):PE X (.Name x pos) (tC v) :=
 fun _ _ _ H _ I h=>js I hg hm ⟨v,H,I,r,h⟩ hd
theorem wO {x:Str} {v:V} {u:Value} {pos:Pos} (hg:Gl X x) (hm:X.mg x=none) (hv:bootBuiltins x=some u) (r:RelV v u) (hn:x≠"__name__":=by decide) (hd:(x == ("__debug__":Str))=false:=by decide):PE X (.Name x pos) (tC v) :=
 fun _ _ _ H _ I h=>Yb I hg hm hv ⟨v,H,I,r,h⟩ hn hd
variable {a b:Expr} {ta tb:TE} {pos:Pos}
def tB (t:TE):TT:=fun σ H Q=>t σ H fun x H1=>∃ c,x=.bl c∧Q c H1
theorem xL {e:Expr} {t:TE} (h:PE X e t) (he:∀ whole,isTrue e X.env whole=(do let v ← whole;standAt e.pos;holding [v] (truthy v)):=by intro _;rfl):PT X e (tB t):=by
 intro pins s σ H Q I hw
 refine isTrue_plain (thn (h pins s σ H _ I hw) fun v s1 ⟨x,H1,I1,r1,q1⟩=>?_) (he _)
 obtain ⟨d,rfl,q⟩:=q1
 cases r1
 exact wpAny_truthy_bool ⟨H1,I1,q⟩
variable {tA tB':TT} {rest:List Expr}
def qM (t u:TT):TT:=fun σ H Q=>t σ H fun c H1=>if c=true then u σ H1 Q else Q false H1
def tOr (t u:TT):TT:=fun σ H Q=>t σ H fun c H1=>if c=true then Q true H1 else u σ H1 Q
def xv (t:TT):TT:=fun σ H Q=>t σ H fun c H1=>Q (!c) H1
theorem ZV (ha:PT X a tA):PW X (.BoolOp .And [a] pos) tA:=by
 intro wh pins s σ H Q I h
 refine isTrue_and (thn (ha pins s σ H Q I h) fun c s1 e=>?_)
 cases c with
 | true=>exact isTrue_and_nil e
 | false=>exact e
theorem Wd (ha:PT X a tA):PW X (.BoolOp .Or [a] pos) tA:=by
 intro wh pins s σ H Q I h
 refine isTrue_or (thn (ha pins s σ H Q I h) fun c s1 e=>?_)
 cases c with
 | false=>exact isTrue_or_nil e
 | true=>exact e
theorem Yc (ha:PT X a tA) (hb:PW X (.BoolOp .And (b :: rest) pos) tB'):PW X (.BoolOp .And (a :: b :: rest) pos) (qM tA tB'):=by
 intro wh pins s σ H Q I h
 refine isTrue_and (thn (ha pins s σ H _ I h) fun c s1 ⟨H1,I1,q1⟩=>?_)
 cases c with
 | true=>exact hb wh pins s1 σ H1 Q I1 q1
 | false=>exact ⟨H1,I1,q1⟩
theorem JP (ha:PT X a tA) (hb:PW X (.BoolOp .Or (b :: rest) pos) tB'):PW X (.BoolOp .Or (a :: b :: rest) pos) (tOr tA tB'):=by
 intro wh pins s σ H Q I h
 refine isTrue_or (thn (ha pins s σ H _ I h) fun c s1 ⟨H1,I1,q1⟩=>?_)
 cases c with
 | true=>exact ⟨H1,I1,q1⟩
 | false=>exact hb wh pins s1 σ H1 Q I1 q1
theorem ka (ha:PT X a tA):PT X (.UnaryOp .Not a pos) (xv tA):=by
 intro pins s σ H Q I h
 exact isTrue_not (ha pins s σ H (fun c H1=>Q (!c) H1) I h)
def Qn (ta tb:TE):TE:=fun σ H Q=>ta σ H fun x H1=>∃ c,x=.bl c∧if c=true then tb σ H1 Q else Q (.bl false) H1
def zdO (ta tb:TE):TE:=fun σ H Q=>ta σ H fun x H1=>∃ c,x=.bl c∧if c=true then Q (.bl true) H1 else tb σ H1 Q
def Qo (ta:TE):TE:=fun σ H Q=>ta σ H fun x H1=>∃ c,x=.bl c∧Q (.bl (!c)) H1
theorem zbZ {op} {t:TE} (h:PE X a t):PE X (.BoolOp op [a] pos) t:=fun pins s σ H Q I hw=>BoolOp_one (h pins s σ H Q I hw)
theorem zb0 (ha:PE X a ta) (hb:PE X (.BoolOp .And (b :: rest) pos) tb):PE X (.BoolOp .And (a :: b :: rest) pos) (Qn ta tb):=by
 intro pins s σ H Q I h
 refine BoolOp_and (thn (ha pins s σ H _ I h) fun v s1 ⟨x,H1,I1,r1,q1⟩=>?_)
 obtain ⟨c,rfl,q1⟩:=q1
 cases r1
 refine wpAny_truthy_bool ?_
 cases c with
 | true=>exact hb pins s1 σ H1 Q I1 q1
 | false=>exact ⟨.bl false,H1,I1,rfl,q1⟩
theorem zb1 (ha:PE X a ta):PE X (.UnaryOp .Not a pos) (Qo ta):=by
 intro pins s σ H Q I h
 refine UnaryOp_ (thn (ha pins s σ H _ I h) fun v s1 ⟨x,H1,I1,r1,q1⟩=>?_)
 obtain ⟨c,rfl,q1⟩:=q1
 cases r1
 exact not_of (wpAny_truthy_bool ⟨.bl (!c),H1,I1,rfl,q1⟩)
def tIf (t:TT) (ta tb:TE):TE:=fun σ H Q=>t σ H fun c H1=>if c=true then ta σ H1 Q else tb σ H1 Q
theorem kc {c:Expr} (hc:PT X c tA) (ha:PE X a ta) (hb:PE X b tb):PE X (.IfExp c a b pos) (tIf tA ta tb):=by
 intro pins s σ H Q I h
 refine wpAny_IfExp (thn (hc pins s σ H _ I h) fun d s1 ⟨H1,I1,q1⟩=>?_)
 cases d with
 | true=>exact ha pins s1 σ H1 Q I1 q1
 | false=>exact hb pins s1 σ H1 Q I1 q1
end
end L2
namespace L2
open PySem PySem.Spec PyProof.Rows
def SqL (K:W.Frag) (H:Hp) (a:Addr) (xs:List V):Prop :=
 Rd H a (.lst xs) ∨
  ∃ (o:Obj) (its:Array Value) (n:Nat),K.lookup a=some o∧o.cls=.type "list"∧o.dict=none∧o.data=.seq its n∧its.size≤sizeLine∧Vals xs its.toList
def SqT (K:W.Frag) (H:Hp) (a:Addr) (xs:List V):Prop :=
 Rd H a (.tup xs) ∨
  ∃ (o:Obj) (its:Array Value) (n:Nat),K.lookup a=some o∧o.cls=.type "tuple"∧o.data=.seq its n∧its.size≤sizeLine∧Vals xs its.toList
def zc3:Value→Option V
 | .none=>some .non
 | .bool b=>some (.bl b)
 | .int i _=>some (.int i)
 | .str x _=>some (.str x)
 | .bytes b _=>some (.byt b)
 | .float b _=>some (.flt b)
 | .ref a=>some (.ref a)
 | .type n=>some (.ty n)
 | _=>none
theorem RelV.abs {x:V} {u:Value} (r:RelV x u):zc3 u=some x:=by
 cases x with
 | non=>cases r;rfl
 | bl _=>cases r;rfl
 | int _=>obtain ⟨t,rfl⟩:=r;rfl
 | str _=>obtain ⟨t,rfl⟩:=r;rfl
 | byt _=>obtain ⟨t,rfl⟩:=r;rfl
 | flt _=>obtain ⟨t,rfl⟩:=r;rfl
 | ref _=>cases r;rfl
 | ty _=>cases r;rfl
theorem RelV.inj {x y:V} {u:Value} (r:RelV x u) (q:RelV y u):x=y:=Option.some.inj (r.abs.symm.trans q.abs)
theorem Vals.inj:∀ {xs ys:List V} {us:List Value},Vals xs us→Vals ys us→xs=ys
 | _,_,_,.nil,.nil=>rfl
 | _,_,_,.cons r t,.cons r' t'=>by rw [r.inj r',Vals.inj t t']
section
variable {X:Cx} {pins:List (Addr × Obj)} {σ:St} {H:Hp} {s:Shared} {a:Addr} {xs ys:List V}
theorem SqL.of {K:W.Frag} (h:H a=some (.lst xs)):SqL K H a xs:=.inl (.inl h)
theorem SqT.of {K:W.Frag} (h:H a=some (.tup xs)):SqT K H a xs:=.inl (.inl h)
theorem Inv.list (I:Inv X pins σ H s) (h:SqL X.K H a xs):∃ its:List Value,Vals xs its∧PlainL s.heap a its.toArray∧xs.length≤sizeLine:=by
 rcases h with h | ⟨o,its,n,hk,hc,hd,hs,hz,r⟩
 ·obtain ⟨z,its,n,r,e⟩:=h.ok I.hok
  exact ⟨its,r,⟨_,n,e,rfl,rfl,rfl⟩,z⟩
 ·refine ⟨its.toList,r,⟨o,n,I.kIn a o hk,hc,hd,by simpa using hs⟩,?_⟩
  have e:=r.length
  simp only [Array.length_toList] at e
  lia
theorem Inv.tuple (I:Inv X pins σ H s) (h:SqT X.K H a xs):∃ its:List Value,Vals xs its∧IsTup s.heap a its.toArray∧xs.length≤sizeLine:=by
 rcases h with h | ⟨o,its,n,hk,hc,hs,hz,r⟩
 ·obtain ⟨z,its,r,p⟩:=h.ok I.hok
  exact ⟨its,r,p,z⟩
 ·refine ⟨its.toList,r,⟨o,I.kIn a o hk,hc,n,by simpa using hs⟩,?_⟩
  have e:=r.length
  simp only [Array.length_toList] at e
  lia
theorem Inv.list_inj (I:Inv X pins σ H s) (h:SqL X.K H a xs) (h':SqL X.K H a ys):xs=ys:=by
 obtain ⟨its,r,⟨o,n,e,_,_,d⟩,_⟩:=I.list h
 obtain ⟨its',r',⟨o',n',e',_,_,d'⟩,_⟩:=I.list h'
 rw [e] at e';cases e'
 rw [d] at d'
 injection d' with d1 _
 have:its=its':=by simpa using congrArg Array.toList d1
 subst this
 exact r.inj r'
theorem Inv.tuple_inj (I:Inv X pins σ H s) (h:SqT X.K H a xs) (h':SqT X.K H a ys):xs=ys:=by
 obtain ⟨its,r,⟨o,e,_,n,d⟩,_⟩:=I.tuple h
 obtain ⟨its',r',⟨o',e',_,n',d'⟩,_⟩:=I.tuple h'
 rw [e] at e';cases e'
 rw [d] at d'
 injection d' with d1 _
 have:its=its':=by simpa using congrArg Array.toList d1
 subst this
 exact r.inj r'
end
abbrev Cx.wish (X:Cx) (E:Value→Shared→Prop):Cx:={ X with xe:=E }
abbrev Cx.nox (X:Cx):Cx:=X.wish fun _ _=>False
theorem Cx.Ok.wish {X:Cx} (ok:X.Ok) (E:Value→Shared→Prop):(X.wish E).Ok :=
 ⟨ok.mod,ok.kind,ok.glob,ok.blt,ok.above,ok.inj,ok.has,ok.cab,ok.hd,ok.frames,ok.stk,ok.exf,ok.bs,ok.bsz,ok.noex,ok.exfs,ok.funs,ok.frf⟩
theorem Cx.Ok.unwish {X:Cx} {E:Value→Shared→Prop} (ok:(X.wish E).Ok):X.Ok :=
 ⟨ok.mod,ok.kind,ok.glob,ok.blt,ok.above,ok.inj,ok.has,ok.cab,ok.hd,ok.frames,ok.stk,ok.exf,ok.bs,ok.bsz,ok.noex,ok.exfs,ok.funs,ok.frf⟩
section
variable {X:Cx} {pins:List (Addr × Obj)} {σ:St} {H:Hp} {s:Shared} {E:Value→Shared→Prop}
theorem Inv.wish (I:Inv X pins σ H s) (E:Value→Shared→Prop):Inv (X.wish E) pins σ H s:=⟨I.ok.wish E,I.os,I.bare,I.base,I.loc,I.cell,I.free,I.freeC,I.pin,I.hok,I.len⟩
theorem Inv.unwish (I:Inv (X.wish E) pins σ H s):Inv X pins σ H s:=⟨I.ok.unwish,I.os,I.bare,I.base,I.loc,I.cell,I.free,I.freeC,I.pin,I.hok,I.len⟩
theorem SP.unwish {D:Xd} {f:Flow} {s':Shared} (h:SP (X.wish E) pins D f s'):SP X pins D f s':=by
 cases f with
 | next=>obtain ⟨σ',H',I,q⟩:=h;exact ⟨σ',H',I.unwish,q⟩
 | brk=>obtain ⟨σ',H',I,q⟩:=h;exact ⟨σ',H',I.unwish,q⟩
 | cont=>obtain ⟨σ',H',I,q⟩:=h;exact ⟨σ',H',I.unwish,q⟩
 | ret u=>obtain ⟨v,σ',H',I,r,q⟩:=h;exact ⟨v,σ',H',I.unwish,r,q⟩
theorem PSs.nox {st:List Stmt} {t:TS} (h:PSs X.nox st t):PSs X st t:=fun pins s σ H D I hw =>
 wpAny_mono (h pins s σ H D (I.wish _) hw) (fun _ _ q=>q.unwish) fun _ _ z=>False.elim z
end
section
variable {X:Cx} {st:Stmt} {rest:List Stmt} {t u:TS} {e:Expr} {te:TE} {pos:Pos}
def zx:TS:=fun D σ H=>D.nx σ H
def zq (t u:TS):TS:=fun D σ H=>t { D with nx:=u D } σ H
theorem zJ:PSs X [] zx:=fun _ _ σ H _ I h=>wpAny_execs_nil ⟨σ,H,I,h⟩
theorem zh (h1:PS X st t) (h2:PSs X rest u):PSs X (st :: rest) (zq t u):=by
 intro pins s σ H D I h
 refine wpAny_execs_cons (thn (h1 pins s σ H { D with nx:=u D } I h) fun f s1 q=>?_)
 cases f with
 | next =>
  obtain ⟨σ',H',I',q⟩:=q
  exact h2 pins s1 σ' H' D I' q
 | ret v=>exact q
 | brk=>exact q
 | cont=>exact q
theorem zg (h1:PS X st t):PSs X [st] t:=by
 intro pins s σ H D I h
 refine wpAny_execs_cons (thn (h1 pins s σ H D I h) fun f s1 q=>?_)
 cases f with
 | next=>exact wpAny_execs_nil q
 | ret v=>exact q
 | brk=>exact q
 | cont=>exact q
theorem Inv.quiet {pins:List (Addr × Obj)} {σ:St} {H:Hp} {s:Shared} (I:Inv X pins σ H s):interactive X.env=false:=by simp [interactive,I.ok.kind]
def zR (te:TE):TS:=fun D σ H=>te σ H fun _ H1=>D.nx σ H1
theorem yU (he:PE X e te) (hs:swapsWith e none pos.line X.env=pure false:=by rfl):PS X (.Expr e pos) (zR te):=by
 intro pins s σ H D I h
 exact wpAny_Expr_any (thn (he pins s σ H _ I h) fun v s1 ⟨x,H1,I1,r1,q1⟩=>⟨σ,H1,I1,q1⟩) I.quiet hs
def zu (te:TE):TS:=fun D σ H=>te σ H D.rt
theorem zy (he:PE X e te):PS X (.Return (some e) pos) (zu te):=by
 intro pins s σ H D I h
 exact wpAny_Return_some (thn (he pins s σ H _ I h) fun v s1 ⟨x,H1,I1,r1,q1⟩=>⟨x,σ,H1,I1,r1,q1⟩)
def zdr:TS:=fun D _ H=>D.rt .non H
def zA (c:TT) (t u:TS):TS:=fun D σ H=>c σ H fun b H1=>if b=true then t D σ H1 else u D σ H1
theorem zO {c:Expr} {a b:List Stmt} {tc:TT} (hc:PT X c tc) (ha:PSs X a t) (hb:PSs X b u):PS X (.If c a b pos) (zA tc t u):=by
 intro pins s σ H D I h
 refine wpAny_If (thn (hc pins s σ H _ I h) fun d s1 ⟨H1,I1,q1⟩=>?_)
 cases d with
 | true=>exact ha pins s1 σ H1 D I1 q1
 | false=>exact hb pins s1 σ H1 D I1 q1
def zc4:TS:=fun _ _ _=>False
end
abbrev TG:=V→St→Hp→(St→Hp→Prop)→Prop
abbrev TGs:=List V→St→Hp→(St→Hp→Prop)→Prop
def PG (X:Cx) (target:Expr) (t:TG):Prop :=
 ∀ (pins:List (Addr × Obj)) (s:Shared) (σ:St) (H:Hp) (v:V) (u:Value) (Q:St→Hp→Prop),Inv X pins σ H s→RelV v u→t v σ H Q →
  wpAny (model X.prog X.w) X.A (assign target X.env u) (fun _ s'=>∃ σ' H',Inv X pins σ' H' s'∧Q σ' H') X.xe s
def PGs (X:Cx) (ts:List Expr) (t:TGs):Prop :=
 ∀ (pins:List (Addr × Obj)) (s:Shared) (σ:St) (H:Hp) (vs:List V) (us:List Value) (Q:St→Hp→Prop),Inv X pins σ H s→Vals vs us→t vs σ H Q →
  wpAny (model X.prog X.w) X.A (assignInOrder ((assignEach ts X.env).map (·.2)) us) (fun _ s'=>∃ σ' H',Inv X pins σ' H' s'∧Q σ' H') X.xe s
abbrev TIp:=V→V→Hp→VK→Prop
section
variable {X:Cx} {pos:Pos}
def zl (i:Nat):TG:=fun v σ H Q=>Q (σ.set i (some v)) H
theorem yV {i:Nat} {x:Str} (hN:X.N.Nodup) (hi:X.N[i]?=some x) (hx:Loc X.env.scope x) (hf:X.fn x=true∨X.env.scope.names.lookup x=some .local:=by first | exact .inl rfl | exact .inr rfl | assumption):PG X (.Name x pos) (zl i):=by
 intro pins s σ H v u Q I r h
 exact wpAny_assign_Name (Ya I hN hi hx r (fun s' I'=>⟨_,H,I',h⟩) hf)
def Yd:TGs:=fun vs σ H Q=>vs=[]∧Q σ H
def jR (t:TG) (u:TGs):TGs:=fun vs σ H Q=>∃ v r,vs=v :: r∧t v σ H fun σ' H'=>u r σ' H' Q
theorem zaJ:PGs X [] Yd:=by
 intro pins s σ H vs us Q I r h
 obtain ⟨e,h⟩:=h
 subst e
 cases r
 exact assignInOrder_nil ⟨σ,H,I,h⟩
theorem WZ {e:Expr} {es:List Expr} {t:TG} {u:TGs} (h1:PG X e t) (h2:PGs X es u)
  (hs:(assignEach (e :: es) X.env).map (·.2)=assign e X.env :: (assignEach es X.env).map (·.2):=by rfl):PGs X (e :: es) (jR t u):=by
 intro pins s σ H vs us Q I r h
 obtain ⟨v,vr,e1,h⟩:=h
 subst e1
 cases r with
 | cons r rr =>
  rw [hs]
  refine assignInOrder_cons (thn (h1 pins s σ H _ _ _ I r h) fun _ s1 ⟨σ1,H1,I1,q1⟩=>?_)
  exact h2 pins s1 σ1 H1 _ _ Q I1 rr q1
def Ye (K:W.Frag) (n:Nat) (t:TGs):TG:=fun v σ H Q=>∃ a xs,v=.ref a∧SqT K H a xs∧xs.length=n∧t xs σ H Q
theorem zb2 {es:List Expr} {k:Nat} {t:TGs} {n:Nat} (hc:X.calm=true) (h:PGs X es t)
  (hn:(assignEach es X.env).length=n:=by rfl) (hst:(assignEach es X.env).findIdx? (·.1)=none:=by rfl):PG X (.Tuple es k pos) (Ye X.K n t):=by
 intro pins s σ H v u Q I r hw
 obtain ⟨a,xs,e1,hq,hl,hw⟩:=hw
 subst e1
 cases r
 obtain ⟨its,rv,ht,hz⟩:=I.tuple hq
 refine assign_Tuple_tuple (I.ok.hd hc) ht (by simp [hn,← hl,rv.length]) hst fun h' hx=>?_
 have I1:Inv X pins σ H { s with heap:=h' }:=I.kept (t':=s.toks) fun b o e=>hx b o (Nat.ne_of_lt (Heap.lt_size e)) e
 exact h pins _ σ H xs _ Q I1 (by simpa using rv) hw
def zG (te:TE) (g:TG):TS:=fun D σ H=>te σ H fun x H1=>g x σ H1 D.nx
theorem zI {i:Nat} {x:Str} {e:Expr} {te:TE} {pos':Pos} (hN:X.N.Nodup) (hi:X.N[i]?=some x) (hx:Loc X.env.scope x) (he:PE X e te) (hs:swapsWith e (some (.Name x pos')) pos.line X.env=pure false:=by rfl) (hf:X.fn x=true∨X.env.scope.names.lookup x=some .local:=by first | exact .inl rfl | exact .inr rfl | assumption) :
  PS X (.Assign [.Name x pos'] e pos) (zG te (zl i)):=by
 intro pins s σ H D I h
 refine wpAny_Assign_Name (thn (he pins s σ H _ I h) fun v s1 ⟨y,H1,I1,r1,q1⟩=>?_) hs
 exact Ya I1 hN hi hx r1 (fun s2 I2=>⟨_,H1,I2,q1⟩) hf
def zdP (i:Nat) (te:TE) (ti:TIp):TS:=fun D σ H=>∃ x,σ[i]?=some (some x)∧te σ H fun y H1=>ti x y H1 fun z H2=>D.nx (σ.set i (some z)) H2
def ipI (f:Int→Int→Int):TIp:=fun x y H Q=>∃ i j,x=.int i∧y=.int j∧Q (.int (f i j)) H
end
section
variable {X:Cx} {pos:Pos}
def Jf (c:TT) (tb:TS):TS:=fun D σ H=>∃ W:Nat→St→Hp→Prop,(∃ m,W m σ H)∧∀ m σ H,W m σ H →
 c σ H fun b H1=>if b=true then ∃ N:St→Hp→Prop,(∀ σ' H',N σ' H'→∃ m',m' < m∧W m' σ' H')∧tb { D with nx:=N,ct:=N,bk:=D.nx } σ H1 else D.nx σ H1
theorem Qp {c:Expr} {body:List Stmt} {tc:TT} {tb:TS} (hp:PassesOwn (model X.prog X.w) X.A X.env X.xe) (hc:PT X c tc) (hb:PSs X body tb):PS X (.While c body [] pos) (Jf tc tb):=by
 intro pins s σ H D I h
 obtain ⟨W,⟨m0,w0⟩,turn⟩:=h
 refine wpAny_While (codeAny_whileLoop (fun n s'=>∃ σ' H',Inv X pins σ' H' s'∧W n σ' H') ?_ m0 ⟨σ,H,I,w0⟩)
 rintro n s1 ⟨σ1,H1,I1,w1⟩
 refine wpAny_passesOwn hp (thn (hc pins s1 σ1 H1 _ I1 (turn n σ1 H1 w1)) fun b s2 ⟨H2,I2,q2⟩=>?_)
 cases b with
 | true =>
  obtain ⟨N,hN,q2⟩:=q2
  rw [if_pos rfl]
  refine wpAny_passesOwn hp (thn (hb pins s2 σ1 H2 _ I2 q2) fun f s3 q3=>?_)
  cases f with
  | next =>
   obtain ⟨σ3,H3,I3,n3⟩:=q3
   obtain ⟨m',hm,w3⟩:=hN σ3 H3 n3
   exact ⟨m',hm,σ3,H3,I3,w3⟩
  | cont =>
   obtain ⟨σ3,H3,I3,n3⟩:=q3
   obtain ⟨m',hm,w3⟩:=hN σ3 H3 n3
   exact ⟨m',hm,σ3,H3,I3,w3⟩
  | brk=>exact q3
  | ret v=>exact q3
 | false =>
  rw [if_neg Bool.false_ne_true]
  exact wpAny_execs_nil ⟨σ1,H2,I2,q2⟩
end
set_option genSizeOf false in
set_option genInjectivity false in
structure It where
 go:Nat→Hp→Prop
 yld:Nat→Hp→V→Hp→Prop
 stop:Nat→Hp→Prop
def ke (X:Cx) (pins:List (Addr × Obj)) (H:Hp) (b:Addr):Prop :=
 H b=none∧b≠X.env.locals∧b ∉ X.fs∧(b∈X.ex∨X.s₀.heap.objs.size≤b)∧(∀ x c,X.env.cells.lookup x=some c→c≠b)∧∀ p∈X.pn ++ pins,p.1≠b
theorem Inv.fpOk {X:Cx} {pins:List (Addr × Obj)} {σ:St} {H H':Hp} {s:Shared} {b:Addr} (I:Inv X pins σ H s) (hb:s.heap.objs.size≤b) (hn:H' b=none):ke X pins H' b:=by
 refine ⟨hn,Nat.ne_of_gt (Nat.lt_of_lt_of_le I.lt hb),I.nofs hb,.inr (Nat.le_trans I.sz hb),fun x c e z=>?_,fun p hp z=>?_⟩
 ·obtain ⟨v,q⟩:=I.cell x c e
  exact absurd (Nat.lt_of_lt_of_le q.lt (by rw [z];exact hb)) (Nat.lt_irrefl _)
 ·exact absurd (Nat.lt_of_lt_of_le (Heap.lt_size (I.pin p hp).1) (by rw [z];exact hb)) (Nat.lt_irrefl _)
structure KG (P:Program) (w:World) (K:W.Frag) (tg:Expr) (J:It) (fp:List Addr) (it:Addr) (tn:Nat→Heap→Prop):Prop where
 mem:it∈fp
 obj:∀ i h,tn i h→∀ b∈fp,∃ o,h.get? b=some o∧∀ v,o.data≠.cell v
 keep:∀ i h h',tn i h→(∀ b∈fp,∀ o,h.get? b=some o→h'.get? b=some o)→tn i h'
 item:∀ (X:Cx),X.prog=P→X.w=w→X.K=K→X.calm=true→∀ (i:Nat) (pins:List (Addr × Obj)) (s:Shared) (σ:St) (H:Hp) (E:Value→Shared→Prop),Inv X pins σ H s→(∀ b∈fp,ke X pins H b)→tn i s.heap→J.go i H →
  wpAny (model P w) X.A (pyNext (.ref it)) (fun r s1=>∃ u,r=some u ∧
   wpAny (model P w) X.A (letOwnedTupleGo tg (.ref it) u) (fun _ s2=>∃ x H',Inv X pins σ H' s2∧RelV x u∧J.yld i H x H'∧tn (i + 1) s2.heap∧∀ b∈fp,H' b=none) E s1) E s
 done:∀ (X:Cx),X.prog=P→X.w=w→X.K=K→X.calm=true→∀ (i:Nat) (pins:List (Addr × Obj)) (s:Shared) (σ:St) (H:Hp) (E:Value→Shared→Prop),Inv X pins σ H s→(∀ b∈fp,ke X pins H b)→tn i s.heap→J.stop i H →
  wpAny (model P w) X.A (pyNext (.ref it)) (fun r s1=>r=none∧Inv X pins σ H s1) E s
 self:∀ (A:Around) (i:Nat) (s:Shared) (Q:Value→Shared→Prop) (E:Value→Shared→Prop),tn i s.heap→Q (.ref it) s→wpAny (model P w) A (pyIter (.ref it)) Q E s
abbrev TI:=St→Hp→(It→Hp→Prop)→Prop
def PIE (X:Cx) (pins:List (Addr × Obj)) (σ:St) (tg:Expr) (R:It→Hp→Prop) (itv:Value) (s2:Shared):Prop :=
 ∃ (it:Addr) (fp:List Addr) (tn:Nat→Heap→Prop) (J:It) (H':Hp),itv=.ref it∧Inv X pins σ H' s2∧KG X.prog X.w X.K tg J fp it tn∧tn 0 s2.heap∧(∀ b∈fp,ke X pins H' b)∧R J H'
def PI (X:Cx) (tg iter:Expr) (wi:TI):Prop :=
 ∀ (pins:List (Addr × Obj)) (s:Shared) (σ:St) (H:Hp) (R:It→Hp→Prop),Inv X pins σ H s→wi σ H R →
  wpAny (model X.prog X.w) X.A (eval iter X.env) (fun v s1=>wpAny (model X.prog X.w) X.A (pyIter v) (PIE X pins σ tg R) X.xe s1) X.xe s
theorem JQ {M:Model} {A:Around} {E:Value→Shared→Prop} {s:Shared} {tg:Expr} {it:Addr} {u:Value} {o:Obj} {n:String} {vs:Array Value} {Q:Unit→Shared→Prop} (ho:s.heap.get? it=some o) (hc:o.cls=.type n) (hd:o.data=.fields vs)
  (hn:["enumerate","zip","dict_itemiterator","dict_reverseitemiterator","odict_iterator","itertools.zip_longest","itertools.pairwise"].contains n=false) (hQ:Q () s):wpAny M A (letOwnedTupleGo tg (.ref it) u) Q E s:=by
 unfold letOwnedTupleGo
 cases tg <;> first
  | exact wpAny_pure hQ
  | (cases u <;> first
      | exact wpAny_pure hQ
      | (refine wpAny_bind (wpAny_load ho ?_)
         rw [hc,hd]
         show wpAny M A (if (["enumerate","zip","dict_itemiterator","dict_reverseitemiterator","odict_iterator","itertools.zip_longest","itertools.pairwise"].contains n && vs[0]? == some (rawInt _))=true then _ else _) Q E s
         rw [if_neg (by intro h;rw [hn,Bool.false_and] at h;cases h)]
         exact wpAny_pure hQ))
def Itl (K:W.Frag) (a:Addr):It :=
 ⟨fun i H=>∃ xs x,SqL K H a xs∧xs[i]?=some x,fun i H x H'=>H'=H∧∀ xs,SqL K H a xs→xs[i]?=some x,fun i H=>∃ xs,SqL K H a xs∧xs.length≤i⟩
def Itt (K:W.Frag) (a:Addr):It :=
 ⟨fun i H=>∃ xs x,SqT K H a xs∧xs[i]?=some x,fun i H x H'=>H'=H∧∀ xs,SqT K H a xs→xs[i]?=some x,fun i H=>∃ xs,SqT K H a xs∧xs.length≤i⟩
def Itr (lo:Int) (n:Nat):It:=⟨fun i _=>i < n,fun i H x H'=>H'=H∧x=.int (lo + i),fun i _=>n≤i⟩
theorem Xz {P:Program} {w:World} {K:W.Frag} {tg:Expr} (a it:Addr):KG P w K tg (Itl K a) [it] it (fun i h=>h.IsListIter it a i) where
 mem:=by simp
 obj:=fun i h st b hb=>by
  have e:b=it:=by simpa using hb
  subst e
  obtain ⟨o,e,c,d⟩:=st
  exact ⟨o,e,fun v z=>by rw [d] at z;cases z⟩
 keep:=fun i h h' st k=>st.at fun o e=>k it (by simp) o e
 item:=by
  intro X hP hw hK hc i pins s σ H E I hf st hg
  subst hP hw hK
  obtain ⟨xs,x,hq,hx⟩:=hg
  obtain ⟨its,rv,p,hz⟩:=I.list hq
  obtain ⟨u,hu,ru⟩:=rv.get hx
  obtain ⟨f0,f1,f2,f3,f4,f5⟩:=hf it (by simp)
  refine wpAny_pyNext_list_item st p.isList (x:=u) (by simpa using hu) fun h' st' sb=>?_
  have I1:Inv X pins σ H { s with heap:=h' }:=I.turned (t':=s.toks) (fun b o hb e=>(sb.2 b hb).trans e) f0 f1 f3 f4 f5
  obtain ⟨o,e,c,d⟩:=id st'
  exact ⟨u,rfl,JQ (s:={ s with heap:=h' }) e c d (by decide) ⟨x,H,I1,ru,⟨rfl,fun ys hy=>by rw [I.list_inj hy hq];exact hx⟩,st',fun b hb=>(hf b hb).1⟩⟩
 done:=by
  intro X hP hw hK hc i pins s σ H E I hf st hg
  subst hP hw hK
  obtain ⟨xs,hq,hx⟩:=hg
  obtain ⟨its,rv,p,hz⟩:=I.list hq
  obtain ⟨f0,f1,f2,f3,f4,f5⟩:=hf it (by simp)
  have hl:=rv.length
  exact wpAny_pyNext_list_end (I.ok.hd hc) st p.isList (by simp;lia) fun h' eb=>⟨rfl,I.turned (t':=s.toks) (fun b o hb e=>eb b o hb e) f0 f1 f3 f4 f5⟩
 self:=fun _ _ _ _ _ st h=>wpAny_pyIter_listiter st h
theorem Yf {P:Program} {w:World} {K:W.Frag} {tg:Expr} (a it:Addr):KG P w K tg (Itt K a) [it] it (fun i h=>h.IsTupleIter it a i) where
 mem:=by simp
 obj:=fun i h st b hb=>by
  have e:b=it:=by simpa using hb
  subst e
  obtain ⟨o,e,c,d⟩:=st
  exact ⟨o,e,fun v z=>by rw [d] at z;cases z⟩
 keep:=fun i h h' st k=>st.at fun o e=>k it (by simp) o e
 item:=by
  intro X hP hw hK hc i pins s σ H E I hf st hg
  subst hP hw hK
  obtain ⟨xs,x,hq,hx⟩:=hg
  obtain ⟨its,rv,p,hz⟩:=I.tuple hq
  obtain ⟨u,hu,ru⟩:=rv.get hx
  obtain ⟨f0,f1,f2,f3,f4,f5⟩:=hf it (by simp)
  refine wpAny_pyNext_tuple_item st (show s.heap.IsTuple a its.toArray from p) (x:=u) (by simpa using hu) fun h' st' sb=>?_
  have I1:Inv X pins σ H { s with heap:=h' }:=I.turned (t':=s.toks) (fun b o hb e=>(sb.2 b hb).trans e) f0 f1 f3 f4 f5
  obtain ⟨o,e,c,d⟩:=id st'
  exact ⟨u,rfl,JQ (s:={ s with heap:=h' }) e c d (by decide) ⟨x,H,I1,ru,⟨rfl,fun ys hy=>by rw [I.tuple_inj hy hq];exact hx⟩,st',fun b hb=>(hf b hb).1⟩⟩
 done:=by
  intro X hP hw hK hc i pins s σ H E I hf st hg
  subst hP hw hK
  obtain ⟨xs,hq,hx⟩:=hg
  obtain ⟨its,rv,p,hz⟩:=I.tuple hq
  obtain ⟨f0,f1,f2,f3,f4,f5⟩:=hf it (by simp)
  have hl:=rv.length
  exact wpAny_pyNext_tuple_end (I.ok.hd hc) st (show s.heap.IsTuple a its.toArray from p) (by simp;lia) fun h' eb=>⟨rfl,I.turned (t':=s.toks) (fun b o hb e=>eb b o hb e) f0 f1 f3 f4 f5⟩
 self:=fun _ _ _ _ _ st h=>wpAny_pyIter_tupleiter st h
theorem Jg {P:Program} {w:World} {K:W.Frag} {tg:Expr} (it:Addr) (lo:Int) (n:Nat):KG P w K tg (Itr lo n) [it] it (fun i h=>IsRangeIter h it (lo + (i:Nat) * 1) ((n:Int) - (i:Nat)) 1) where
 mem:=by simp
 obj:=fun i h st b hb=>by
  have e:b=it:=by simpa using hb
  subst e
  exact ⟨_,st,fun v z=>by
   have z':Data.fields _=Data.cell v:=z
   cases z'⟩
 keep:=fun i h h' st k=>k it (by simp) _ st
 item:=by
  intro X hP hw hK hc i pins s σ H E I hf st hg
  subst hP hw hK
  obtain ⟨f0,f1,f2,f3,f4,f5⟩:=hf it (by simp)
  have W:=Walks.range (prog:=X.prog) (w:=X.w) (I.ok.hd hc) it lo 1 n
  refine W.item i s _ _ hg st fun v h' tk hv st' kk=>?_
  obtain ⟨t,rfl⟩:=hv
  have I1:Inv X pins σ H { s with heap:=h',toks:=tk }:=I.turned (fun b o hb e=>kk b o (by simpa using hb) e) f0 f1 f3 f4 f5
  refine ⟨_,rfl,JQ (s:={ s with heap:=h',toks:=tk }) (n:="range_iterator") st' rfl rfl (by decide) ⟨.int (lo + i),H,I1,⟨t,?_⟩,⟨rfl,rfl⟩,st',fun b hb=>(hf b hb).1⟩⟩
  rw [Int.mul_one]
 done:=by
  intro X hP hw hK hc i pins s σ H E I hf st hg
  subst hP hw hK
  obtain ⟨f0,f1,f2,f3,f4,f5⟩:=hf it (by simp)
  exact wpAny_pyNext_range_end (I.ok.hd hc) st (by have:n≤i:=hg;lia) fun h' eb=>⟨rfl,I.turned (t':=s.toks) (fun b o hb e=>eb b o hb e) f0 f1 f3 f4 f5⟩
 self:=fun _ _ _ _ _ st h=>wpAny_pyIter_rangeiter st h
end L2
namespace L2
open PySem PySem.Spec PyProof.Rows
section
variable {X:Cx} {tg:Expr}
def yQ (K:W.Frag) (tl:TE):TI:=fun σ H R=>tl σ H fun x H1=>∃ a,x=.ref a∧(∃ xs,SqL K H1 a xs)∧R (Itl K a) H1
def Yg (K:W.Frag) (tl:TE):TI:=fun σ H R=>tl σ H fun x H1=>∃ a,x=.ref a∧(∃ xs,SqT K H1 a xs)∧R (Itt K a) H1
theorem qN {l:Expr} {tl:TE} (hl:PE X l tl):PI X tg l (yQ X.K tl):=by
 intro pins s σ H R I h
 refine thn (hl pins s σ H _ I h) fun v s1 ⟨x,H1,I1,r1,q1⟩=>?_
 obtain ⟨a,e,⟨xs,hq⟩,q⟩:=q1
 subst e
 cases r1
 obtain ⟨its,rv,p,hz⟩:=I1.list hq
 refine wpAny_pyIter_list p.isList ?_
 refine ⟨s1.heap.objs.size,[s1.heap.objs.size],_,_,H1,rfl,I1.kept (t':=s1.toks) fun b o e=>Heap.get?_push_of_some _ e,Xz a _,⟨_,Heap.get?_push_size _ rfl,rfl,rfl⟩,fun b hb=>?_,q⟩
 have e:b=s1.heap.objs.size:=by simpa using hb
 subst e
 exact I1.fpOk (Nat.le_refl _) (I1.hok.fresh (Nat.le_refl _))
theorem Qq {l:Expr} {tl:TE} (hl:PE X l tl):PI X tg l (Yg X.K tl):=by
 intro pins s σ H R I h
 refine thn (hl pins s σ H _ I h) fun v s1 ⟨x,H1,I1,r1,q1⟩=>?_
 obtain ⟨a,e,⟨xs,hq⟩,q⟩:=q1
 subst e
 cases r1
 obtain ⟨its,rv,p,hz⟩:=I1.tuple hq
 refine wpAny_pyIter_tuple (show s1.heap.IsTuple a its.toArray from p) ?_
 refine ⟨s1.heap.objs.size,[s1.heap.objs.size],_,_,H1,rfl,I1.kept (t':=s1.toks) fun b o e=>Heap.get?_push_of_some _ e,Yf a _,⟨_,Heap.get?_push_size _ rfl,rfl,rfl⟩,fun b hb=>?_,q⟩
 have e:b=s1.heap.objs.size:=by simpa using hb
 subst e
 exact I1.fpOk (Nat.le_refl _) (I1.hok.fresh (Nat.le_refl _))
theorem Qr {pins:List (Addr × Obj)} {σ:St} {H:Hp} {s:Shared} {R:It→Hp→Prop} {E:Value→Shared→Prop} {lo hi:Int} {t u v:Tok} {tk:Nat} (I:Inv X pins σ H s) (h1:-(2 ^ 62)≤lo) (h2:lo < 2 ^ 62) (h3:-(2 ^ 62)≤hi) (h4:hi < 2 ^ 62)
  (q:R (Itr lo (hi - lo).toNat) H):wpAny (model X.prog X.w) X.A (pyIter (.ref s.heap.objs.size)) (PIE X pins σ tg R) E { s with heap:=s.heap.push { cls:=.type "range",data:=.fields #[.int lo t,.int hi u,.int 1 v] },toks:=tk }:=by
 refine wpAny_pyIter_range (IsRange.new ..) (small_one h1 h2 h3 h4) ?_
 have I1:Inv X pins σ H { s with heap:=s.heap.push { cls:=.type "range",data:=.fields #[.int lo t,.int hi u,.int 1 v] },toks:=tk }:=I.kept fun b o e=>Heap.get?_push_of_some _ e
 refine ⟨(s.heap.push { cls:=.type "range",data:=.fields #[.int lo t,.int hi u,.int 1 v] }).objs.size,[(s.heap.push { cls:=.type "range",data:=.fields #[.int lo t,.int hi u,.int 1 v] }).objs.size],_,_,H,rfl,
  I1.kept (t':=tk) fun b o e=>Heap.get?_push_of_some _ e,Jg _ lo (hi - lo).toNat,?_,fun b hb=>?_,q⟩
 ·have e1:lo + ((0:Nat):Int) * 1=lo:=by simp
  have e2:(((hi - lo).toNat:Nat):Int) - ((0:Nat):Int)=Builtin.Range.rangeSize lo hi 1:=by rw [rangeSize_one];split <;> lia
  show IsRangeIter _ _ (lo + ((0:Nat):Int) * 1) ((((hi - lo).toNat:Nat):Int) - ((0:Nat):Int)) 1
  rw [e1,e2]
  exact Heap.get?_push_size _ rfl
 ·have e:b=(s.heap.push { cls:=.type "range",data:=.fields #[.int lo t,.int hi u,.int 1 v] }).objs.size:=by simpa using hb
  subst e
  exact I1.fpOk (Nat.le_refl _) (I1.hok.fresh (Nat.le_refl _))
def xQ (ta:TA):TI:=fun σ H R=>ta σ H fun vs H1=>∃ j:Int,vs=[.int j]∧-(2 ^ 62)≤j∧j < 2 ^ 62∧R (Itr 0 j.toNat) H1
def zds (ta:TA):TI:=fun σ H R=>ta σ H fun vs H1=>∃ i j:Int,vs=[.int i,.int j]∧(-(2 ^ 62)≤i∧i < 2 ^ 62∧-(2 ^ 62)≤j∧j < 2 ^ 62)∧R (Itr i (j - i).toNat) H1
theorem jd {a:Expr} {ta:TA} {p pos:Pos} (hg:Gl X "range") (hm:X.mg "range"=none) (ha:PA X [a] ta) (hs:starEach [a] X.env=[(false,eval a X.env)]:=by rfl):PI X tg (.Call (.Name "range" p) [a] [] pos) (xQ ta):=by
 intro pins s σ H R I h
 refine Call_ (Yb I hg hm boot_range (PyProof.Rows.callWith_type1 (thn (ha pos pins s σ H _ I h) fun us s1 ⟨vs,H1,I1,r1,q1⟩=>?_) hs rfl))
 obtain ⟨j,e,q1,q2,q⟩:=q1
 subst e
 cases r1 with
 | cons r rr =>
  cases rr
  obtain ⟨t,rfl⟩:=r
  exact call_range_1 (Qr I1 (by lia) (by lia) q1 q2 (by simpa using q))
def ym (wi:TI) (g:TG) (tb:TS):TS:=fun D σ H=>wi σ H fun J H1=>∃ W:Nat→Nat→St→Hp→Prop,(∃ m,W 0 m σ H1)∧∀ i m σ H,W i m σ H →
 (J.stop i H∧D.nx σ H)∨(J.go i H∧∃ N:St→Hp→Prop,(∀ σ' H',N σ' H'→∃ m',m' < m∧W (i + 1) m' σ' H')∧∀ x H',J.yld i H x H'→g x σ H' fun σ2 H2=>tb { D with nx:=N,ct:=N,bk:=D.nx } σ2 H2)
def Yh (fp:List Addr) (h:Heap):List (Addr × Obj):=fp.filterMap fun b=>(h.get? b).map fun o=>(b,o)
theorem jt {fp:List Addr} {h:Heap} {b:Addr} {o:Obj} (hb:b∈fp) (e:h.get? b=some o):(b,o)∈Yh fp h:=List.mem_filterMap.mpr ⟨b,hb,by rw [e];rfl⟩
theorem KH {fp:List Addr} {h:Heap} {p:Addr × Obj} (hp:p∈Yh fp h):p.1∈fp∧h.get? p.1=some p.2:=by
 obtain ⟨b,hb,e⟩:=List.mem_filterMap.mp hp
 cases q:h.get? b with
 | none=>rw [q] at e;cases e
 | some o =>
  rw [q] at e
  have e':(b,o)=p:=Option.some.inj e
  subst e'
  exact ⟨hb,q⟩
theorem Inv.pinned {pins:List (Addr × Obj)} {σ:St} {H:Hp} {s:Shared} {fp:List Addr} (I:Inv X pins σ H s) (hf:∀ b∈fp,ke X pins H b) (ho:∀ b∈fp,∃ o,s.heap.get? b=some o∧∀ v,o.data≠.cell v):Inv X (pins ++ Yh fp s.heap) σ H s :=
 I.pins_of fun p hp=>(List.mem_append.mp hp).elim (fun z=>I.pin p (List.mem_append_right _ z)) fun z=>by
  obtain ⟨hb,e⟩:=KH z
  obtain ⟨f0,f1,f2,_⟩:=hf p.1 hb
  obtain ⟨o,e',d⟩:=ho p.1 hb
  rw [e] at e';cases e'
  exact ⟨e,f0,f1,f2,d⟩
theorem Inv.unpinned {pins pl:List (Addr × Obj)} {σ:St} {H:Hp} {s:Shared} (I:Inv X (pins ++ pl) σ H s):Inv X pins σ H s:=I.pins_of fun p hp=>I.pin p (List.mem_append_right _ (List.mem_append_left _ hp))
theorem vm {iter:Expr} {body:List Stmt} {wi:TI} {g:TG} {tb:TS} {pos:Pos} (hp:PassesOwn (model X.prog X.w) X.A X.env X.xe) (hc:X.calm=true) (hi:PI X tg iter wi) (hg:PG X tg g) (hb:PSs X body tb)
  (hs:∀ x,foldedSetIterable iter X.env x=pure x:=by intro _;rfl):PS X (.For tg iter body [] pos) (ym wi g tb):=by
 intro pins s σ H D I h
 refine wpAny_For (thn (hi pins s σ H _ I h) fun v s1 h1=>thn h1 fun itv s2 h2=>?_) hs
 obtain ⟨it,fp,tn,J,H2,e,I2,T,st2,f2,W,⟨m0,w0⟩,turn⟩:=h2
 subst e
 -- what stays true of the iterator's objects through the loop
 have stat:∀ {H':Hp},(∀ b∈fp,H' b=none)→∀ b∈fp,ke X pins H' b:=fun hn b hb=>⟨hn b hb,(f2 b hb).2⟩
 refine codeAny_forLoop_any (fun n s'=>∃ i σ' H',Inv X pins σ' H' s'∧tn i s'.heap∧(∀ b∈fp,H' b=none)∧W i n σ' H') ?_ m0 ⟨0,σ,H2,I2,st2,fun b hb=>(f2 b hb).1,w0⟩
 rintro n s3 ⟨i,σ3,H3,I3,st3,fr3,w3⟩
 rcases turn i n σ3 H3 w3 with ⟨stop,qn⟩ | ⟨go,N,hN,step⟩
 ·refine wpAny_passesOwn hp (thn (T.done X rfl rfl rfl hc i pins s3 σ3 H3 X.xe I3 (stat fr3) st3 stop) fun r s4 ⟨hr,I4⟩=>?_)
  subst hr
  exact wpAny_execs_nil ⟨σ3,H3,I4,qn⟩
 ·refine wpAny_passesOwn hp (thn (T.item X rfl rfl rfl hc i pins s3 σ3 H3 X.xe I3 (stat fr3) st3 go) fun r s4 ⟨u,hr,h4⟩=>?_)
  subst hr
  refine wpAny_passesOwn hp (thn h4 fun _ s5 ⟨x,H5,I5,r5,y5,st5,fr5⟩=>?_)
  have I5':=I5.pinned (stat fr5) (T.obj _ _ st5)
  refine wpAny_passesOwn hp (thn (hg _ s5 σ3 H5 x u _ I5' r5 (step x H5 y5)) fun _ s6 ⟨σ6,H6,I6,q6⟩=>?_)
  refine wpAny_passesOwn hp (thn (hb _ s6 σ6 H6 _ I6 q6) fun f s7 q7=>?_)
  have again:∀ {σ7:St} {H7:Hp},Inv X (pins ++ Yh fp s5.heap) σ7 H7 s7→N σ7 H7→∃ m,m < n∧∃ i σ' H',Inv X pins σ' H' s7∧tn i s7.heap∧(∀ b∈fp,H' b=none)∧W i m σ' H':=fun {σ7 H7} I7 n7=>by
   obtain ⟨m',hm,w7⟩:=hN σ7 H7 n7
   refine ⟨m',hm,i + 1,σ7,H7,I7.unpinned,T.keep _ _ _ st5 fun b hb o e=>(I7.pin (b,o) (List.mem_append_right _ (List.mem_append_right _ (jt hb e)))).1,fun b hb=>?_,w7⟩
   obtain ⟨o,e,d⟩:=T.obj _ _ st5 b hb
   exact (I7.pin (b,o) (List.mem_append_right _ (List.mem_append_right _ (jt hb e)))).2.1
  cases f with
  | next=>obtain ⟨σ7,H7,I7,n7⟩:=q7;exact again I7 n7
  | cont=>obtain ⟨σ7,H7,I7,n7⟩:=q7;exact again I7 n7
  | brk=>obtain ⟨σ7,H7,I7,q7⟩:=q7;exact ⟨σ7,H7,I7.unpinned,q7⟩
  | ret v=>obtain ⟨x7,σ7,H7,I7,r7,q7⟩:=q7;exact ⟨x7,σ7,H7,I7.unpinned,r7,q7⟩
end
end L2
namespace L2
open PySem PySem.Spec PyProof.Rows
abbrev R2:=V→V→Hp→VK→Prop
def OpR (X:Cx) (f:Value→Value→Sem Value) (r:R2):Prop :=
 ∀ (pins:List (Addr × Obj)) (s:Shared) (σ:St) (H:Hp) (x y:V) (v u:Value) (Q:VK),Inv X pins σ H s→RelV x v→RelV y u→r x y H Q →
  wpAny (model X.prog X.w) X.A (f v u) (EP X pins σ Q) X.xe s
def UnR (X:Cx) (f:Value→Sem Value) (r:V→Hp→VK→Prop):Prop :=
 ∀ (pins:List (Addr × Obj)) (s:Shared) (σ:St) (H:Hp) (x:V) (v:Value) (Q:VK),Inv X pins σ H s→RelV x v→r x H Q →
  wpAny (model X.prog X.w) X.A (f v) (EP X pins σ Q) X.xe s
def je (X:Cx) (f:Value) (r:List V→Hp→VK→Prop):Prop :=
 ∀ (pins:List (Addr × Obj)) (s:Shared) (σ:St) (H:Hp) (xs:List V) (us:List Value) (Q:VK),Inv X pins σ H s→Vals xs us→r xs H Q →
  wpAny (model X.prog X.w) X.A (call f us) (EP X pins σ Q) X.xe s
def tOp (r:R2) (ta tb:TE):TE:=fun σ H Q=>ta σ H fun x H1=>tb σ H1 fun y H2=>r x y H2 Q
def tUn (r:V→Hp→VK→Prop) (ta:TE):TE:=fun σ H Q=>ta σ H fun x H1=>r x H1 Q
def rI (C:Int→Int→Prop) (g:Int→Int→V):R2:=fun x y H Q=>∃ i j,x=.int i∧y=.int j∧C i j∧Q (g i j) H
def rI0 (g:Int→Int→V):R2:=fun x y H Q=>∃ i j,x=.int i∧y=.int j∧Q (g i j) H
def rU (g:Int→V):V→Hp→VK→Prop:=fun x H Q=>∃ i,x=.int i∧Q (g i) H
section
variable {X:Cx} {a b c:Expr} {ta tb tc:TE} {pos:Pos}
theorem zb3 (ha:PE X a ta) (hb:PE X b tb) {pins:List (Addr × Obj)} {s:Shared} {σ:St} {H:Hp} {R:V→V→Hp→Prop} (I:Inv X pins σ H s)
  (h:ta σ H fun x H1=>tb σ H1 fun y H2=>R x y H2) {Q:Value→Shared→Prop} {f:Value→Value→Sem Value}
  (hf:∀ v u s2 x y H2,Inv X pins σ H2 s2→RelV x v→RelV y u→R x y H2→wpAny (model X.prog X.w) X.A (f v u) Q X.xe s2) :
  wpAny (model X.prog X.w) X.A (eval a X.env) (fun v s₁=>wpAny (model X.prog X.w) X.A (eval b X.env) (fun u s₂=>wpAny (model X.prog X.w) X.A (f v u) Q X.xe s₂) X.xe s₁) X.xe s:=by
 refine thn (ha pins s σ H _ I h) fun v s1 ⟨x,H1,I1,r1,q1⟩=>?_
 refine thn (hb pins s1 σ H1 _ I1 q1) fun u s2 ⟨y,H2,I2,r2,q2⟩=>?_
 exact hf v u s2 x y H2 I2 r1 r2 q2
theorem zv {op:Operator} {r:R2} (ho:OpR X (binaryOp op) r) (ha:PE X a ta) (hb:PE X b tb):PE X (.BinOp a op b pos) (tOp r ta tb):=by
 intro pins s σ H Q I h
 exact wpAny_BinOp (zb3 ha hb I h fun v u s2 x y H2 I2 rx ry q=>ho pins s2 σ H2 x y v u Q I2 rx ry q)
theorem qO {op:UnaryOp} {r:V→Hp→VK→Prop} (ho:UnR X (unaryOp op) r) (ha:PE X a ta):PE X (.UnaryOp op a pos) (tUn r ta):=by
 intro pins s σ H Q I h
 exact UnaryOp_ (thn (ha pins s σ H _ I h) fun v s1 ⟨x,H1,I1,r1,q1⟩=>ho pins s1 σ H1 x v Q I1 r1 q1)
theorem opI {f:Value→Value→Sem Value} {C:Int→Int→Prop} {g:Int→Int→Int}
  (rule:∀ (i j:Int) (t u:Tok) (s:Shared) (Q:Value→Shared→Prop) (E:Value→Shared→Prop),C i j→Q (.int (g i j) s.toks) { s with toks:=s.toks + 1 }→wpAny (model X.prog X.w) X.A (f (.int i t) (.int j u)) Q E s) :
  OpR X f (rI C fun i j=>.int (g i j)):=by
 intro pins s σ H x y v u Q I rx ry h
 obtain ⟨i,j,rfl,rfl,hc,q⟩:=h
 obtain ⟨t,rfl⟩:=rx
 obtain ⟨t',rfl⟩:=ry
 exact rule i j t t' s _ _ hc ⟨.int (g i j),H,I.tok _,⟨_,rfl⟩,q⟩
theorem zcE {f:Value→Value→Sem Value} {g:Int→Int→Int}
  (rule:∀ (i j:Int) (t u:Tok) (s:Shared) (Q:Value→Shared→Prop) (E:Value→Shared→Prop),Q (.int (g i j) s.toks) { s with toks:=s.toks + 1 }→wpAny (model X.prog X.w) X.A (f (.int i t) (.int j u)) Q E s) :
  OpR X f (rI0 fun i j=>.int (g i j)):=by
 intro pins s σ H x y v u Q I rx ry h
 obtain ⟨i,j,rfl,rfl,q⟩:=h
 obtain ⟨t,rfl⟩:=rx
 obtain ⟨t',rfl⟩:=ry
 exact rule i j t t' s _ _ ⟨.int (g i j),H,I.tok _,⟨_,rfl⟩,q⟩
theorem zb4 {f:Value→Value→Sem Value} {g:Int→Int→Bool}
  (rule:∀ (i j:Int) (t u:Tok) (s:Shared) (Q:Value→Shared→Prop) (E:Value→Shared→Prop),Q (.bool (g i j)) s→wpAny (model X.prog X.w) X.A (f (.int i t) (.int j u)) Q E s) :
  OpR X f (rI0 fun i j=>.bl (g i j)):=by
 intro pins s σ H x y v u Q I rx ry h
 obtain ⟨i,j,rfl,rfl,q⟩:=h
 obtain ⟨t,rfl⟩:=rx
 obtain ⟨t',rfl⟩:=ry
 exact rule i j t t' s _ _ ⟨.bl (g i j),H,I,rfl,q⟩
def Yi (i j:Int):Prop:=0≤j∧j≤1000000∧i.natAbs < 2 ^ 64
theorem ya:OpR X (binaryOp .Add) (rI0 fun i j=>.int (i + j)):=zcE fun _ _ _ _ _ _ _ q=>add_int q
theorem ju:OpR X (binaryOp .Sub) (rI0 fun i j=>.int (i - j)):=zcE fun _ _ _ _ _ _ _ q=>sub_int q
theorem yh:OpR X (binaryOp .Mod) (rI (fun _ j=>0 < j) fun i j=>.int (i % j)):=opI fun i j _ _ _ _ _ hc q=>by
 have h1:(0:Int) < j:=hc
 exact mod_int' (by lia) (by rw [Int.fmod_eq_emod_of_nonneg i (by lia)];exact q)
theorem zaK:OpR X (binaryOp .Mod) (rI (fun _ j=>j≠0) fun i j=>.int (i.fmod j)):=opI fun _ _ _ _ _ _ _ hc q=>mod_int' hc q
theorem qp:OpR X (binaryOp .Pow) (rI Yi fun i j=>.int (i ^ j.toNat)):=opI fun _ _ _ _ _ _ _ hc q=>pow_int_small hc.1 hc.2.1 hc.2.2 q
theorem unI {f:Value→Sem Value} {g:Int→Int}
  (rule:∀ (i:Int) (t:Tok) (s:Shared) (Q:Value→Shared→Prop) (E:Value→Shared→Prop),Q (.int (g i) s.toks) { s with toks:=s.toks + 1 }→wpAny (model X.prog X.w) X.A (f (.int i t)) Q E s) :
  UnR X f (rU fun i=>.int (g i)):=by
 intro pins s σ H x v Q I rx h
 obtain ⟨i,rfl,q⟩:=h
 obtain ⟨t,rfl⟩:=rx
 exact rule i t s _ _ ⟨.int (g i),H,I.tok _,⟨_,rfl⟩,q⟩
theorem jv:UnR X (unaryOp .USub) (rU fun i=>.int (-i)):=unI fun _ _ _ _ _ q=>neg_int q
end
def yn:V→V→Bool
 | .non,.non=>true | .non,.int _=>true | .int _,.non=>true | .non,.bl _=>true | .bl _,.non=>true | .non,.str _=>true | .str _,.non=>true
 | .int _,.int _=>true | .bl _,.bl _=>true | .str _,.str _=>true | .byt _,.byt _=>true
 | .int _,.str _=>true | .str _,.int _=>true | .bl _,.str _=>true | .str _,.bl _=>true
 | _,_=>false
def rEq:R2:=fun x y H Q=>yn x y=true∧Q (.bl (decide (x=y))) H
def rNe:R2:=fun x y H Q=>yn x y=true∧Q (.bl (!decide (x=y))) H
theorem JR {i j:Int}:decide (V.int i=V.int j)=(i == j):=by
 rw [Bool.eq_iff_iff]
 simp
theorem Qs {i j:Bool}:decide (V.bl i=V.bl j)=(i == j):=by
 rw [Bool.eq_iff_iff]
 simp
theorem JS {i j:Str}:decide (V.str i=V.str j)=(i == j):=by
 rw [Bool.eq_iff_iff]
 simp
theorem JT {i j:Array UInt8}:decide (V.byt i=V.byt j)=(i.toList == j.toList):=by
 rw [Bool.eq_iff_iff]
 cases i
 cases j
 simp
section
variable {X:Cx} {a b c:Expr} {ta tb tc:TE} {pos:Pos}
theorem ye {pins:List (Addr × Obj)} {σ:St} {H:Hp} {s:Shared} {Q:VK} {k k':Bool} (I:Inv X pins σ H s) (q:Q (.bl k) H) (e:k=k'):EP X pins σ Q (.bool k') s:=by
 subst e
 exact ⟨.bl k,H,I,rfl,q⟩
theorem yp:OpR X (compareOp .Eq) rEq:=by
 intro pins s σ H x y v u Q I rx ry h
 obtain ⟨hs,q⟩:=h
 cases x with
 | non =>
  cases rx
  cases y with
  | non=>cases ry;exact PySem.EqNone.eq_none_none (ye I q (by simp))
  | bl j=>cases ry;exact PySem.EqNone.eq_none_bool (ye I q (by simp))
  | int j=>obtain ⟨t',rfl⟩:=ry;exact PySem.EqNone.eq_none_int (ye I q (by simp))
  | str j=>obtain ⟨t',rfl⟩:=ry;exact PySem.EqNone.eq_none_str (ye I q (by simp))
  | _=>exact absurd (show false=true from hs) Bool.false_ne_true
 | bl i =>
  cases rx
  cases y with
  | non=>cases ry;exact PySem.EqNone.eq_bool_none (ye I q (by simp))
  | bl j=>cases ry;exact eq_bool (ye I q Qs)
  | str j=>obtain ⟨t',rfl⟩:=ry;exact PySem.EqMixed.eq_bool_str (ye I q (by simp))
  | _=>exact absurd (show false=true from hs) Bool.false_ne_true
 | int i =>
  obtain ⟨t,rfl⟩:=rx
  cases y with
  | non=>cases ry;exact PySem.EqNone.eq_int_none (ye I q (by simp))
  | int j=>obtain ⟨t',rfl⟩:=ry;exact eq_int (ye I q JR)
  | str j=>obtain ⟨t',rfl⟩:=ry;exact PySem.EqMixed.eq_int_str (ye I q (by simp))
  | _=>exact absurd (show false=true from hs) Bool.false_ne_true
 | str i =>
  obtain ⟨t,rfl⟩:=rx
  cases y with
  | non=>cases ry;exact PySem.EqNone.eq_str_none (ye I q (by simp))
  | bl j=>cases ry;exact PySem.EqMixed.eq_str_bool (ye I q (by simp))
  | int j=>obtain ⟨t',rfl⟩:=ry;exact PySem.EqMixed.eq_str_int (ye I q (by simp))
  | str j=>obtain ⟨t',rfl⟩:=ry;exact eq_str (ye I q JS)
  | _=>exact absurd (show false=true from hs) Bool.false_ne_true
 | byt i =>
  obtain ⟨t,rfl⟩:=rx
  cases y with
  | byt j=>obtain ⟨t',rfl⟩:=ry;exact W.eq_bytes (ye I q JT)
  | _=>exact absurd (show false=true from hs) Bool.false_ne_true
 | _=>cases y <;> exact absurd (show false=true from hs) Bool.false_ne_true
theorem XA:OpR X (compareOp .NotEq) rNe:=by
 intro pins s σ H x y v u Q I rx ry h
 obtain ⟨hs,q⟩:=h
 cases x with
 | non =>
  cases rx
  cases y with
  | non=>cases ry;exact PySem.EqNone.ne_none_none (ye I q (by simp))
  | bl j=>cases ry;exact PySem.EqNone.ne_none_bool (ye I q (by simp))
  | int j=>obtain ⟨t',rfl⟩:=ry;exact PySem.EqNone.ne_none_int (ye I q (by simp))
  | str j=>obtain ⟨t',rfl⟩:=ry;exact PySem.EqNone.ne_none_str (ye I q (by simp))
  | _=>exact absurd (show false=true from hs) Bool.false_ne_true
 | bl i =>
  cases rx
  cases y with
  | non=>cases ry;exact PySem.EqNone.ne_bool_none (ye I q (by simp))
  | bl j=>cases ry;exact ne_bool (ye I q (congrArg not Qs))
  | str j=>obtain ⟨t',rfl⟩:=ry;exact PySem.EqMixed.ne_bool_str (ye I q (by simp))
  | _=>exact absurd (show false=true from hs) Bool.false_ne_true
 | int i =>
  obtain ⟨t,rfl⟩:=rx
  cases y with
  | non=>cases ry;exact PySem.EqNone.ne_int_none (ye I q (by simp))
  | int j=>obtain ⟨t',rfl⟩:=ry;exact ne_int (ye I q (congrArg not JR))
  | str j=>obtain ⟨t',rfl⟩:=ry;exact PySem.EqMixed.ne_int_str (ye I q (by simp))
  | _=>exact absurd (show false=true from hs) Bool.false_ne_true
 | str i =>
  obtain ⟨t,rfl⟩:=rx
  cases y with
  | non=>cases ry;exact PySem.EqNone.ne_str_none (ye I q (by simp))
  | bl j=>cases ry;exact PySem.EqMixed.ne_str_bool (ye I q (by simp))
  | int j=>obtain ⟨t',rfl⟩:=ry;exact PySem.EqMixed.ne_str_int (ye I q (by simp))
  | str j=>obtain ⟨t',rfl⟩:=ry;exact ne_str (ye I q (congrArg not JS))
  | _=>exact absurd (show false=true from hs) Bool.false_ne_true
 | byt i =>
  obtain ⟨t,rfl⟩:=rx
  cases y with
  | byt j=>obtain ⟨t',rfl⟩:=ry;exact W.ne_bytes (ye I q (congrArg not JT))
  | _=>exact absurd (show false=true from hs) Bool.false_ne_true
 | _=>cases y <;> exact absurd (show false=true from hs) Bool.false_ne_true
theorem jS:OpR X (compareOp .Lt) (rI0 fun i j=>.bl (decide (i < j))):=zb4 fun _ _ _ _ _ _ _ q=>lt_int q
theorem zbF:OpR X (compareOp .LtE) (rI0 fun i j=>.bl (decide (i≤j))):=zb4 fun _ _ _ _ _ _ _ q=>le_int q
theorem JU:OpR X (compareOp .Gt) (rI0 fun i j=>.bl (decide (j < i))):=zb4 fun _ _ _ _ _ _ _ q=>gt_int q
theorem We:OpR X (compareOp .Is) (fun x y H Q=>y=.non∧Q (.bl (decide (x=.non))) H):=by
 intro pins s σ H x y v u Q I rx ry h
 obtain ⟨rfl,q⟩:=h
 cases ry
 refine is_none_gen (ye I q ?_)
 cases x <;> first
  | (cases rx;rfl)
  | (obtain ⟨t,rfl⟩:=rx;rfl)
theorem zC (b:Expr) {op:CmpOp} (h:op≠.In:=by decide) (h2:op≠.NotIn:=by decide):behindInMarks op b=false:=by
 have e1:(op == CmpOp.In)=false:=by cases op <;> first | rfl | exact absurd rfl h
 have e2:(op == CmpOp.NotIn)=false:=by cases op <;> first | rfl | exact absurd rfl h2
 cases b <;> simp [behindInMarks,e1,e2]
theorem kO {op:CmpOp} {r:R2} (ho:OpR X (compareOp op) r) (ha:PE X a ta) (hb:PE X b tb) (hm:behindInMarks op b=false):PE X (.Compare a [op] [b] pos) (tOp r ta tb):=by
 intro pins s σ H Q I h
 exact wpAny_Compare1 (zb3 ha hb I h fun v u s2 x y H2 I2 rx ry q=>ho pins s2 σ H2 x y v u Q I2 rx ry q) hm
def zp (t:TE):TT:=fun σ H Q=>t σ H fun x H'=>∃ k,x=.bl k∧Q k H'
theorem zt {op:CmpOp} {r:R2} (ho:OpR X (compareOp op) r) (ha:PE X a ta) (hb:PE X b tb) (hm:behindInMarks op b=false):PT X (.Compare a [op] [b] pos) (zp (tOp r ta tb)):=by
 intro pins s σ H Q I h
 refine wpAny_isTrue_Compare1 (thn (ha pins s σ H _ I h) fun v s1 ⟨x,H1,I1,r1,q1⟩=>thn (hb pins s1 σ H1 _ I1 q1) fun u s2 ⟨y,H2,I2,r2,q2⟩ =>
  thn (ho pins s2 σ H2 x y v u _ I2 r1 r2 q2) fun c s3 ⟨z,H3,I3,r3,k,e,q3⟩=>?_) hm
 subst e
 cases r3
 exact wpAny_truthy_bool ⟨H3,I3,q3⟩
def Jh (r r':R2) (ta tb tc:TE):TE:=fun σ H Q=>ta σ H fun x H1=>tb σ H1 fun y H2=>r x y H2 fun z H3=>∃ k,z=.bl k ∧
 (if k=true then tc σ H3 fun w' H4=>r' y w' H4 Q else Q (.bl false) H3)
theorem Qt {op op':CmpOp} {r r':R2} (ho:OpR X (compareOp op) r) (ho':OpR X (compareOp op') r') (ha:PE X a ta) (hb:PE X b tb) (hc:PE X c tc)
  (hm:lastMarks [op,op'] [b,c]=false:=by with_unfolding_all rfl):PE X (.Compare a [op,op'] [b,c] pos) (Jh r r' ta tb tc):=by
 intro pins s σ H Q I h
 refine Compare_chain (thn (ha pins s σ H _ I h) fun v s1 ⟨x,H1,I1,r1,q1⟩=>chain_link (thn (hb pins s1 σ H1 _ I1 q1) fun u s2 ⟨y,H2,I2,r2,q2⟩ =>
  thn (ho pins s2 σ H2 x y v u _ I2 r1 r2 q2) fun d s3 ⟨z,H3,I3,r3,k,e,q3⟩=>?_)) hm
 subst e
 cases r3
 refine wpAny_truthy_bool ?_
 cases k with
 | false=>exact ite_ff ⟨.bl false,H3,I3,rfl,q3⟩
 | true=>exact ite_tt (chain_last (thn (hc pins s3 σ H3 _ I3 q3) fun w' s4 ⟨z',H4,I4,r4,q4⟩=>ho' pins s4 σ H4 y z' u w' Q I4 r2 r4 q4))
theorem Wf:(sizeLine:Nat) < 2 ^ 63:=by rw [sizeLine_eq];decide
theorem jz:OpR X (binaryOp .Add) (fun x y H Q=>∃ i j,x=.str i∧y=.str j∧i.length + j.length≤sizeLine∧Q (.str (i ++ j)) H):=by
 intro pins s σ H x y v u Q I rx ry h
 obtain ⟨i,j,rfl,rfl,hz,q⟩:=h
 obtain ⟨t,rfl⟩:=rx
 obtain ⟨t',rfl⟩:=ry
 exact add_str (fun t' tk=>⟨.str (i ++ j),H,I.tok _,⟨_,rfl⟩,q⟩) hz
theorem qP {x:V} {us:List Value} (r:Vals [x] us):∃ u,us=[u]∧RelV x u:=by
 cases r with
 | cons r1 r2=>cases r2;exact ⟨_,rfl,r1⟩
theorem zbG {x y:V} {us:List Value} (r:Vals [x,y] us):∃ u w',us=[u,w']∧RelV x u∧RelV y w':=by
 cases r with
 | cons r1 r2 =>
  cases r2 with
  | cons r3 r4=>cases r4;exact ⟨_,_,rfl,r1,r3⟩
def vL (K:W.Frag) (x:V) (H:Hp) (n:Nat):Prop :=
 match x with
 | .str y=>y.length≤sizeLine∧n=y.length
 | .byt y=>y.size≤sizeLine∧n=y.size
 | .ref p=>(∃ xs,SqL K H p xs∧n=xs.length)∨∃ xs,SqT K H p xs∧n=xs.length
 | _=>False
theorem wk:je X (.builtin "len") (fun xs H Q=>∃ x n,xs=[x]∧vL X.K x H n∧Q (.int n) H):=by
 intro pins s σ H xs us Q I r h
 obtain ⟨x,n,rfl,e,q⟩:=h
 obtain ⟨u,rfl,rx⟩:=qP r
 have hl:=Wf
 have hs:sizeLine=16777216:=sizeLine_eq
 cases x with
 | str y =>
  obtain ⟨t,rfl⟩:=rx
  obtain ⟨hy,e'⟩:y.length≤sizeLine∧n=y.length:=e
  subst e'
  exact len_str (by lia) ⟨.int _,H,I.tok _,⟨_,rfl⟩,q⟩
 | byt y =>
  obtain ⟨t,rfl⟩:=rx
  obtain ⟨hy,e'⟩:y.size≤sizeLine∧n=y.size:=e
  subst e'
  exact W.len_bytes (by lia) ⟨.int _,H,I.tok _,⟨_,rfl⟩,q⟩
 | ref p =>
  cases rx
  have e':(∃ xs,SqL X.K H p xs∧n=xs.length)∨∃ xs,SqT X.K H p xs∧n=xs.length:=e
  rcases e' with ⟨xs,hx,e'⟩ | ⟨xs,hx,e'⟩
  ·subst e'
   obtain ⟨its,r',pl,hz⟩:=I.list hx
   have hlen:=r'.length
   exact Calls.call_len_list pl.isList (by simp only [List.size_toArray];lia) ⟨.int xs.length,H,I.tok _,⟨_,by simp only [List.size_toArray];rw [hlen]⟩,q⟩
  ·subst e'
   obtain ⟨its,r',pl,hz⟩:=I.tuple hx
   have hlen:=r'.length
   exact len_tuple pl (by simp only [List.size_toArray];lia) ⟨.int xs.length,H,I.tok _,⟨_,by simp only [List.size_toArray];rw [hlen]⟩,q⟩
 | _=>exact (show False from e).elim
end
end L2
namespace L2
open PySem PySem.Spec PyProof.Rows
structure ObjM (h:Heap) (x dx C:Addr) (mA:Str→Option Value):Prop where
 obj:h.get? x=some (W.instObj C dx)
 ns:h.Ns1 dx mA
 ne:dx≠x
theorem KI {h:Heap} {dx:Addr} {mA:Str→Option Value} (n:h.Ns1 dx mA):∃ od,h.get? dx=some od∧∀ name,W.lookIn name od=some (mA name):=by
 obtain ⟨o,es,ep,ho,hd,hk,_,hm⟩:=n
 refine ⟨o,ho,fun name=>?_⟩
 have e:=hm name
 unfold nsFind findBy at e
 rw [← Array.find?_toList] at e
 unfold W.lookIn
 rw [hd]
 dsimp only
 split
 ·rename_i y q
  rw [q] at e
  exact congrArg some e
 ·rename_i q
  rw [q] at e
  have a:es.toList.any (·.refKey)=false:=by
   rw [List.any_eq_false]
   intro y hy
   obtain ⟨z,t,hkey⟩:=hk y (Array.mem_toList_iff.mp hy)
   simp [DictEntry.refKey,hkey]
  have a':¬ es.toList.any (·.refKey)=true:=by rw [a];exact Bool.false_ne_true
  rw [if_neg a']
  exact congrArg some e
theorem ObjM.look {h:Heap} {x dx C:Addr} {mA:Str→Option Value} (I:ObjM h x dx C mA):∃ od,W.InstAt h x (W.instObj C dx) C (some od)∧∀ name,W.lookIn name od=some (mA name) :=
 let ⟨od,ho,hl⟩:=KI I.ns
 ⟨od,⟨I.obj,rfl,rfl,ho⟩,hl⟩
section
variable {prog:Program} {w:World} {A:Around} {E:Value→Shared→Prop} {s:Shared} {K:W.Frag} {x dx C f:Addr} {mA:Str→Option Value} {name:Str} {v:Value}
theorem zaL {expr:Bool} {Q:Value→Shared→Prop} (X:K.In s.heap) (I:ObjM s.heap x dx C mA) (hg:W.plainGet K C name=true) (hh:W.hasDictIn K C=true)
  (ha:W.findIn K (.ref C) name=some none) (hv:mA name=some v) (hv':W.handedIn v=true) (h:Q v { s with toks:=s.toks + 1 }) :
  wpAny (model prog w) A (getAttr (.ref x) name expr) Q E s:=by
 obtain ⟨od,J,hl⟩:=I.look
 exact W.get_value X J (W.plainGet_of hg).1 (W.findObj_own hh ha rfl (by rw [hl,hv])) hv' h
theorem Qu {pl:Sem Bool} {Q:Value × List Value→Shared→Prop} (X:K.In s.heap) (I:ObjM s.heap x dx C mA) (hg:W.plainGet K C name=true)
  (hf:W.findIn K (.ref C) name=some (some (.ref f))) (ht:W.isFn K (.ref f)=true) (hv:mA name=none) (h:Q (.ref f,[.ref x]) s) :
  wpAny (model prog w) A (getMethod (.ref x) name pl) Q E s:=by
 obtain ⟨od,J,hl⟩:=I.look
 exact W.method_fn X J (W.plainGet_of hg).1 (W.plainGet_of hg).2 hf (beq_iff_eq.mp ht) (by show (W.lookIn name od).map (·.isSome)=some false;rw [hl,hv];rfl) h
theorem zaM {ns:List Str} {Q:Unit→Shared→Prop} (X:K.In s.heap) (I:ObjM s.heap x dx C mA)
  (hs:W.findIn K (.ref C) "__setattr__"=some (some (.builtin "object.__setattr__"))) (hp:W.plainOver K C=true) (ht:W.takerIn K C name=some none) (hh:W.hasDictIn K C=true)
  (hw:PySem.Within mA ns) (hsz:ns.length≤sizeLine)
  (h:∀ h',ObjM h' x dx C (fun y=>if y=name then some v else mA y)→Heap.SameBut dx s.heap h'→Q () { s with heap:=h',toks:=s.toks + 2 }) :
  wpAny (model prog w) A (setAttr (.ref x) name v) Q E s:=by
 obtain ⟨od,J,hl⟩:=I.look
 refine W.set_plain X J hs (W.osa_open (s:={ s with toks:=s.toks + 1 }) (r:=none) X J hp ht fun b=>?_)
 obtain ⟨cd,hc,hd'⟩:=W.any_some hh
 have hx:s.heap.get? x=some ⟨.ref C,some dx,.plain,#[]⟩:=I.obj
 refine wpAny_bind (wpAny_pure (wpAny_bind (wpAny_bind (wpAny_loadPart hx (wpAny_bind (W.Looks.here (s:={ s with toks:=s.toks + 1 }) (W.looks_clsIn X hc) ?_))))))
 rw [hd']
 refine wpAny_pure (a:=some dx) (wpAny_bind (wpAny_pure (wpAny_bind ?_)))
 refine wpAny_nsSet1 (s:={ s with toks:=s.toks + 1 }) I.ns fun h' hn2 hs2=>?_
 obtain ⟨oD,esD,epD,hoD,hdD,hcD⟩:=hn2.count (PySem.Within.cons name v hw)
 refine wpAny_bind (wpAny_lookBehind hoD (by rw [hdD];exact pastItsLine_dict (Nat.le_trans hcD (by rw [List.length_cons];lia))) ?_)
 exact wpAny_pure (h _ ⟨(hs2.2 _ (Ne.symm I.ne)).trans I.obj,hn2,I.ne⟩ hs2)
theorem Qv {R:Result→Shared→Prop} {vs:List Value} {kw:List (Str × Value)} (X:K.In s.heap) (hm:W.makesIn K C=true)
  (hi:W.findIn K (.ref C) "__init__"=some (some (.ref f))) (hf:W.typeIn K (.ref f)=some (.type "function"))
  (h:codeAny (model prog w) (A.under (.builtin "type.__call__" ⟨.ref C :: vs,kw⟩)) (.call (.ref f) ⟨.ref (s.heap.objs.size + 1) :: vs,kw⟩) (W.InitBack (s.heap.objs.size + 1) R)
   { s with heap:=(s.heap.push W.emptyDict).push (W.instObj C s.heap.objs.size) }) :
  codeAny (model prog w) A (.call (.ref C) ⟨vs,kw⟩) R s:=by
 obtain ⟨hh,g,d,t,os⟩:=s
 exact W.make_core (W.makes_of X hm) (W.looks_findIn X hi) (fun self=>W.bind_fn X self hf) (.inl rfl) h
end
def xt (f:Str) (v:V):List (Str × V)→List (Str × V)
 | []=>[(f,v)]
 | (g,x) :: r=>if g=f then (g,v) :: r else (g,x) :: xt f v r
theorem ZB (f g:Str) (v:V):∀ fs:List (Str × V),(xt f v fs).lookup g=if g=f then some v else fs.lookup g
 | []=>by
  show List.lookup g [(f,v)]=_
  by_cases h:g=f
  ·have hb:(g == f)=true:=beq_iff_eq.mpr h
   simp only [List.lookup,hb,if_pos h]
  ·have hb:(g == f)=false:=beq_eq_false_iff_ne.mpr h
   simp only [List.lookup,hb,if_neg h]
 | (k,x) :: r=>by
  have ih:=ZB f g v r
  rw [show xt f v ((k,x) :: r)=(if k=f then (k,v) :: r else (k,x) :: xt f v r) from rfl]
  by_cases hk:k=f
  ·rw [if_pos hk]
   by_cases h:g=k
   ·have hb:(g == k)=true:=beq_iff_eq.mpr h
    simp only [List.lookup,hb,if_pos (h.trans hk)]
   ·have hb:(g == k)=false:=beq_eq_false_iff_ne.mpr h
    simp only [List.lookup,hb,if_neg (fun e:g=f=>h (e.trans hk.symm))]
  ·rw [if_neg hk]
   by_cases h:g=k
   ·have hb:(g == k)=true:=beq_iff_eq.mpr h
    simp only [List.lookup,hb,if_neg (fun e:g=f=>hk (h.symm.trans e))]
   ·have hb:(g == k)=false:=beq_eq_false_iff_ne.mpr h
    simp only [List.lookup,hb]
    exact ih
theorem Zk (f:Str) (v:V):∀ fs:List (Str × V),f∈(xt f v fs).map (·.1)∧∀ g,g∈fs.map (·.1)→g∈(xt f v fs).map (·.1)
 | []=>⟨by simp [xt],fun g h=>by simp at h⟩
 | (k,x) :: r=>by
  obtain ⟨i1,i2⟩:=Zk f v r
  rw [show xt f v ((k,x) :: r)=(if k=f then (k,v) :: r else (k,x) :: xt f v r) from rfl]
  by_cases hk:k=f
  ·rw [if_pos hk]
   subst hk
   exact ⟨by simp,fun g h=>by simpa using h⟩
  ·rw [if_neg hk]
   refine ⟨?_,fun g h=>?_⟩
   ·rw [List.map_cons]
    exact List.mem_cons_of_mem _ i1
   ·rw [List.map_cons] at h ⊢
    rcases List.mem_cons.mp h with e | e
    ·exact List.mem_cons.mpr (.inl e)
    ·exact List.mem_cons_of_mem _ (i2 g e)
theorem ZC (f:Str) (v:V):∀ fs:List (Str × V),(xt f v fs).length≤fs.length + 1
 | []=>by simp [xt]
 | (k,x) :: r=>by
  have ih:=ZC f v r
  rw [show xt f v ((k,x) :: r)=(if k=f then (k,v) :: r else (k,x) :: xt f v r) from rfl]
  by_cases hk:k=f
  ·rw [if_pos hk,List.length_cons,List.length_cons];lia
  ·rw [if_neg hk,List.length_cons,List.length_cons];lia
theorem RelO.some_of {v:V} {o:Option Value} (r:RelO (some v) o):∃ u,o=some u∧RelV v u:=by
 cases o with
 | none=>exact (show False from r).elim
 | some u=>exact ⟨u,rfl,r⟩
theorem RelO.none_of {o:Option Value} (r:RelO none o):o=none:=by
 cases o with
 | none=>rfl
 | some u=>exact (show False from r).elim
theorem KJ {v:V} {u:Value} (r:RelV v u):W.handedIn u=true:=by
 cases v with
 | non=>cases (show u=Value.none from r);rfl
 | bl b=>cases (show u=Value.bool b from r);rfl
 | int i=>obtain ⟨t,e⟩:=(show ∃ t,u=Value.int i t from r);cases e;rfl
 | str x=>obtain ⟨t,e⟩:=(show ∃ t,u=Value.str x t from r);cases e;rfl
 | byt b=>obtain ⟨t,e⟩:=(show ∃ t,u=Value.bytes b t from r);cases e;rfl
 | flt b=>obtain ⟨t,e⟩:=(show ∃ t,u=Value.float b t from r);cases e;rfl
 | ref a=>cases (show u=Value.ref a from r);rfl
 | ty n=>cases (show u=Value.type n from r);rfl
section
variable {P:Program} {w:World} {H H':Hp} {h h':Heap} {a C dx:Addr} {fs fs':List (Str × V)}
theorem qQ (hok:HOk P w H h) (e:H a=some (.ins C dx fs)):∃ mA,ObjM h a dx C mA∧(∀ f,RelO (fs.lookup f) (mA f))∧PySem.Within mA (fs.map (·.1))∧fs.length≤1000∧H dx=some (.own a):=by
 obtain ⟨d,z,ne,ob,mA,n,r,q⟩:=(show ObjOk P w H h a (.ins C dx fs) from hok a _ e)
 exact ⟨mA,⟨ob,n,ne⟩,r,q,z,d⟩
end
structure Cls (K:W.Frag) (C:Addr):Prop where
 pg:W.plainGet K C Str.empty=true
 hd:W.hasDictIn K C=true
 po:W.plainOver K C=true
 sa:W.findIn K (.ref C) "__setattr__"=some (some (.builtin "object.__setattr__"))
theorem Cls.get {K:W.Frag} {C:Addr} (c:Cls K C) (f:Str):W.plainGet K C f=true:=c.pg
def NoAttr (K:W.Frag) (C:Addr) (f:Str):Prop:=W.findIn K (.ref C) f=some none
theorem NoAttr.taker {K:W.Frag} {C:Addr} {f:Str} (n:NoAttr K C f):W.takerIn K C f=some none:=by
 unfold W.takerIn
 rw [show W.findIn K (.ref C) f=some none from n]
 rfl
structure KK (K:W.Frag) (C:Addr) (m:Str) (f:Addr):Prop where
 at_:W.findIn K (.ref C) m=some (some (.ref f))
 fn:W.isFn K (.ref f)=true
 kp:W.keepIn K (.ref f)=true
section
variable {X:Cx} {pins:List (Addr × Obj)} {σ:St} {H:Hp} {s:Shared} {a C dx:Addr} {fs:List (Str × V)} {f:Str} {v:V} {A:Around} {E:Value→Shared→Prop}
theorem Ji {b:Bool} {Q:Value→Shared→Prop} (I:Inv X pins σ H s) (e:H a=some (.ins C dx fs)) (c:Cls X.K C) (n:NoAttr X.K C f) (l:fs.lookup f=some v)
  (h:∀ u s',Inv X pins σ H s'→RelV v u→Q u s'):wpAny (model X.prog X.w) A (getAttr (.ref a) f b) Q E s:=by
 obtain ⟨mA,O,r,_,_,_⟩:=qQ I.hok e
 obtain ⟨u,hu,ru⟩:=RelO.some_of (v:=v) (o:=mA f) (by rw [← l];exact r f)
 exact zaL I.kIn O (c.get f) c.hd n hu (KJ ru) (h u _ (I.tok _) ru)
theorem Yj {m:Str} {g:Addr} {pl:Sem Bool} {Q:Value × List Value→Shared→Prop} (I:Inv X pins σ H s) (e:H a=some (.ins C dx fs)) (c:Cls X.K C) (k:KK X.K C m g) (l:fs.lookup m=none)
  (h:Q (.ref g,[.ref a]) s):wpAny (model X.prog X.w) A (getMethod (.ref a) m pl) Q E s:=by
 obtain ⟨mA,O,r,_,_,_⟩:=qQ I.hok e
 have hn:mA m=none:=RelO.none_of (by rw [← l];exact r m)
 exact Qu I.kIn O (c.get m) k.at_ k.fn hn h
theorem Jj {y:V} {u:Value} {Q:Unit→Shared→Prop} (I:Inv X pins σ H s) (e:H a=some (.ins C dx fs)) (c:Cls X.K C) (n:NoAttr X.K C f) (hl:fs.length < 1000) (ry:RelV y u)
  (h:∀ s',Inv X pins σ (upd H a (.ins C dx (xt f y fs))) s'→Q () s'):wpAny (model X.prog X.w) A (setAttr (.ref a) f u) Q E s:=by
 obtain ⟨mA,O,r,wi,_,ho⟩:=qQ I.hok e
 have hz:(fs.map (·.1)).length≤sizeLine:=by rw [List.length_map,sizeLine_eq];lia
 refine zaM I.kIn O c.sa c.po n.taker c.hd wi hz fun h' O' sb=>h _ ?_
 have hd:∃ o,h'.get? dx=some o:=let ⟨o,_,_,e',_⟩:=O'.ns;⟨o,e'⟩
 refine I.write (x:=a) (e:=dx) (by rw [e];exact True.intro) (.inr ho) (fun b q hb z=>(sb.2 b hb).trans z) hd ?_
 refine ⟨by rw [zk O.ne];exact ho,?_,O.ne,O'.obj,_,O'.ns,fun g=>?_,fun g hg=>?_⟩
 ·have:=ZC f y fs;lia
 ·show RelO ((xt f y fs).lookup g) (if g=f then some u else mA g)
  rw [ZB]
  by_cases q:g=f
  ·rw [if_pos q,if_pos q];exact ry
  ·rw [if_neg q,if_neg q];exact r g
 ·by_cases q:g=f
  ·rw [q];exact (Zk f y fs).1
  ·refine (Zk f y fs).2 g (wi g fun z=>hg ?_)
   show (if g=f then some u else mA g)=none
   rw [if_neg q];exact z
theorem Inv.made (I:Inv X pins σ H s):Inv X pins σ (upd (upd H s.heap.objs.size (.own (s.heap.objs.size + 1))) (s.heap.objs.size + 1) (.ins C s.heap.objs.size []))
  { s with heap:=(s.heap.push W.emptyDict).push (W.instObj C s.heap.objs.size) }:=by
 have e1:(s.heap.push W.emptyDict).get? s.heap.objs.size=some W.emptyDict:=Heap.get?_push_size s.heap rfl
 have e2:((s.heap.push W.emptyDict).push (W.instObj C s.heap.objs.size)).get? (s.heap.objs.size + 1)=some (W.instObj C s.heap.objs.size):=by
  have:=Heap.get?_push_size (s.heap.push W.emptyDict) (o:=W.instObj C s.heap.objs.size) rfl
  rwa [Heap.size_push] at this
 have e3:(s.heap.push W.emptyDict).Ns s.heap.objs.size (fun _=>none):=⟨W.emptyDict,#[],_,e1,rfl,(fun e he=>absurd he (by simp)),fun _=>rfl⟩
 have I1:=I.laid (a:=s.heap.objs.size) (o:=.own (s.heap.objs.size + 1)) (h':=s.heap.push W.emptyDict) (t':=s.toks) (fun b u q=>Heap.get?_push_of_some _ q) (Nat.le_refl _) ⟨_,e1⟩
 refine I1.laid (a:=s.heap.objs.size + 1) (o:=.ins C s.heap.objs.size []) (t':=s.toks) (fun b u q=>Heap.get?_push_of_some _ q) (Nat.le_of_eq (Heap.size_push _ _)) ?_
 have ne:s.heap.objs.size≠s.heap.objs.size + 1:=Nat.ne_of_lt (Nat.lt_succ_self _)
 refine ⟨by rw [zk ne,zf],Nat.zero_le _,ne,e2,fun _=>none,(Heap.Ns1.of_empty e3).at fun o q=>Heap.get?_push_of_some _ q,fun _=>True.intro,fun y hy=>absurd rfl hy⟩
theorem zaN {prog:Program} {w:World} {env:Env} {e:Expr} {f:Str} {pos:Pos} {s:Shared} {Q:Value→Shared→Prop} (hb:attributeBase e f env (eval e env)=eval e env)
  (h:wpAny (model prog w) A (eval e env) (fun o s₁=>wpAny (model prog w) A (getAttr o f true) Q E s₁) E s):wpAny (model prog w) A (eval (.Attribute e f pos) env) Q E s :=
 Attribute_any_ h (by rw [arm_eval_Attribute,hb])
end
def vM (K:W.Frag) (ta:TE) (f:Str):TE:=fun σ H Q=>ta σ H fun x H1=>∃ a C dx fs v,x=.ref a∧H1 a=some (.ins C dx fs)∧Cls K C∧NoAttr K C f∧fs.lookup f=some v∧Q v H1
def KL (K:W.Frag) (ta tv:TE) (f:Str):TS:=fun D σ H=>tv σ H fun y H1=>ta σ H1 fun x H2=>∃ a C dx fs,x=.ref a∧H2 a=some (.ins C dx fs)∧Cls K C∧NoAttr K C f∧fs.length < 1000 ∧
 D.nx σ (upd H2 a (.ins C dx (xt f y fs)))
def zcY (K:W.Frag) (ta tv:TE) (rd:V→V→Hp→VK→Prop) (f:Str):TS:=fun D σ H=>ta σ H fun x H1=>∃ a C dx fs v,x=.ref a∧H1 a=some (.ins C dx fs)∧Cls K C∧NoAttr K C f∧fs.lookup f=some v ∧
 tv σ H1 fun y H2=>rd v y H2 fun z H3=>∃ dx' fs',H3 a=some (.ins C dx' fs')∧fs'.length < 1000∧D.nx σ (upd H3 a (.ins C dx' (xt f z fs')))
section
variable {X:Cx} {o e value:Expr} {f:Str} {pos pos' tpos:Pos} {ta tv:TE}
theorem kg (he:PE X e ta) (hb:attributeBase e f X.env (eval e X.env)=eval e X.env):PE X (.Attribute e f pos) (vM X.K ta f):=by
 intro pins s σ H Q I h
 refine zaN hb (thn (he pins s σ H _ I h) fun u s1 ⟨x,H1,I1,rx,a,C,dx,fs,v,ex,ea,c,n,l,q⟩=>?_)
 subst ex
 obtain rfl:u=Value.ref a:=rx
 exact Ji I1 ea c n l fun u' s2 I2 ru=>⟨v,H1,I2,ru,q⟩
theorem Jk (ha:PE X o ta) (hv:PE X value tv) (hs:swapsWith value (some (.Attribute o f pos')) pos.line X.env=pure false):PS X (.Assign [.Attribute o f pos'] value pos) (KL X.K ta tv f):=by
 intro pins s σ H D I h
 refine plainObj_wpAny_Assign_Attribute (thn (hv pins s σ H _ I h) fun u s1 ⟨y,H1,I1,ry,q⟩=>thn (ha pins s1 σ H1 _ I1 q) fun ov s2 ⟨x,H2,I2,rx,a,C,dx,fs,ex,ea,c,n,l,q2⟩=>?_) hs
 subst ex
 obtain rfl:ov=Value.ref a:=rx
 exact Jj I2 ea c n l ry fun s3 I3=>⟨σ,_,I3,q2⟩
def zdQ:V→V→Hp→VK→Prop:=fun x y H Q=>∃ i j,x=.int i∧y=.int j∧Q (.int (i + j)) H
end
section
variable {X:Cx} {pins:List (Addr × Obj)} {σ:St} {H:Hp} {s:Shared} {A:Around} {E:Value→Shared→Prop} {Q:Value→Shared→Prop} {c:Value} {b:Bool}
inductive qR (K:W.Frag) (H:Hp):V→Value→Prop where
 | non:qR K H .non (.type "NoneType")
 | bl (x:Bool):qR K H (.bl x) (.type "bool")
 | int (i:Int):qR K H (.int i) (.type "int")
 | str (x:Str):qR K H (.str x) (.type "str")
 | flt (x:UInt64):qR K H (.flt x) (.type "float")
 | lst {a:Addr} {xs:List V} (e:H a=some (.lst xs)):qR K H (.ref a) (.type "list")
 | frz {a:Addr} {o:Obj} {xs:List V} (e:H a=some (.frz o (.lst xs))):qR K H (.ref a) (.type "list")
 | tup {a:Addr} {xs:List V} (e:H a=some (.tup xs)):qR K H (.ref a) (.type "tuple")
 | dK {a:Addr} {kvs:List (Key × V)} (e:H a=some (.dK kvs)):qR K H (.ref a) (.type "dict")
 | dT {a:Addr} {kvs:List (List Key × V)} (e:H a=some (.dT kvs)):qR K H (.ref a) (.type "dict")
 | ins {a C dx:Addr} {fs:List (Str × V)} (e:H a=some (.ins C dx fs)) (cl:Cls K C) (ha:W.findIn K (.ref C) "__class__"=some (some (.builtin "object.__class__")))
   (hn:W.specialIn K (.builtin "object.__class__") "__get__"=some (some (.builtin "getset_descriptor.__get__"))) (htk:W.takesIn K (.builtin "object.__class__")=some true)
   (hm:W.mroIn K C (.type "object")=some true):qR K H (.ref a) (.ref C)
theorem KM {x:V} {u t:Value} (I:Inv X pins σ H s) (rx:RelV x u) (ty:qR X.K H x t) (e:W.kitOne X.K t c=some b) (h:∀ tk,Q (.bool b) { s with toks:=tk }) :
  wpAny (model X.prog X.w) A (call (.builtin "isinstance") [u,c]) Q E s:=by
 cases ty with
 | non=>cases (show u=Value.none from rx);exact W.kia_one W.kitx_none I.kIn True.intro e (fun z=>nomatch z) h
 | bl y=>cases (show u=Value.bool y from rx);exact W.kia_one W.kitx_bool I.kIn True.intro e (fun z=>nomatch z) h
 | int i=>obtain ⟨t,q⟩:=(show ∃ t,u=Value.int i t from rx);cases q;exact W.kia_one W.kitx_int I.kIn True.intro e (fun z=>nomatch z) h
 | str y=>obtain ⟨t,q⟩:=(show ∃ t,u=Value.str y t from rx);cases q;exact W.kia_one W.kitx_str I.kIn True.intro e (fun z=>nomatch z) h
 | flt y=>obtain ⟨t,q⟩:=(show ∃ t,u=Value.float y t from rx);cases q;exact W.kia_one W.kitx_float I.kIn True.intro e (fun z=>nomatch z) h
 | @lst a xs ea =>
  cases (show u=Value.ref a from rx)
  obtain ⟨_,_,n,_,h1⟩:=(show ObjOk X.prog X.w H s.heap a (.lst xs) from I.hok a _ ea)
  exact W.kia_one W.kitx_list I.kIn ⟨_,h1,rfl⟩ e (fun z=>nomatch z) h
 | @frz a ob xs ea =>
  cases (show u=Value.ref a from rx)
  obtain ⟨_,_,_,n,_,h1⟩:=(show ObjOk X.prog X.w H s.heap a (.frz ob (.lst xs)) from I.hok a _ ea)
  exact W.kia_one W.kitx_list I.kIn ⟨_,h1,rfl⟩ e (fun z=>nomatch z) h
 | @tup a xs ea =>
  cases (show u=Value.ref a from rx)
  obtain ⟨_,_,_,p⟩:=(show ObjOk X.prog X.w H s.heap a (.tup xs) from I.hok a _ ea)
  obtain ⟨o,h1,h2,_⟩:=p
  exact W.kia_one W.kitx_tuple I.kIn ⟨o,h1,h2⟩ e (fun z=>nomatch z) h
 | @dK a kvs ea =>
  cases (show u=Value.ref a from rx)
  obtain ⟨_,_,vs,_,p⟩:=(show ObjOk X.prog X.w H s.heap a (.dK kvs) from I.hok a _ ea)
  obtain ⟨o,es,ep,h1,h2,_⟩:=p
  exact W.kia_one W.kitx_dict I.kIn ⟨o,h1,h2.1⟩ e (fun z=>nomatch z) h
 | @dT a kvs ea =>
  cases (show u=Value.ref a from rx)
  obtain ⟨_,_,xs,_,o,es,ep,h1,h2,_⟩:=(show ObjOk X.prog X.w H s.heap a (.dT kvs) from I.hok a _ ea)
  exact W.kia_one W.kitx_dict I.kIn ⟨o,h1,h2.1⟩ e (fun z=>nomatch z) h
 | @ins a C dx fs ea cl ha hn htk hm =>
  cases (show u=Value.ref a from rx)
  obtain ⟨mA,O,_⟩:=qQ I.hok ea
  obtain ⟨od,J,_⟩:=O.look
  exact W.kia_one (W.kitx_own (cl.get _) cl.hd ha hn htk hm) I.kIn J e (fun z=>nomatch z) h
end
end L2
namespace L2
open PySem PySem.Spec PyProof.Rows
structure Room (k:Nat) (A:Around):Prop where
 hd:A.handled=none
 dp:A.depth + 3 * k + 5 < recursionLimit
 un:A.units + 16 * k + 200 < cLine
theorem Room.mono {j k:Nat} {A:Around} (r:Room k A) (h:j≤k):Room j A:=⟨r.hd,by have:=r.dp;lia,by have:=r.un;lia⟩
theorem Room.deeper {k:Nat} {A:Around} (r:Room (k + 1) A) (env:Env):Room k (A.deeper env) :=
 ⟨r.hd,by have:=r.dp;show A.depth + 1 + 3 * k + 5 < _;lia,by have:=r.un;show A.units + 3 + 16 * k + 200 < _;lia⟩
theorem Jl {A:Around} {C:Addr} {us:List Value} {kw:List (Str × Value)}:(A.under (.builtin "type.__call__" ⟨.ref C :: us,kw⟩)).depth=A.depth + 1:=by
 first | rfl | simp [Around.under,Code.weight,Code.isCreation,Code.isGuard,Code.isCaller,Code.frames,Code.isFrame,guardIds]
theorem Jm {A:Around} {C:Addr} {us:List Value} {kw:List (Str × Value)}:(A.under (.builtin "type.__call__" ⟨.ref C :: us,kw⟩)).units=A.units + 1:=by
 first | rfl | simp [Around.under,Code.cUnits,Code.frames,Code.isFrame]
theorem Room.make {k:Nat} {A:Around} (r:Room (k + 1) A) (C:Addr) (us:List Value) (kw:List (Str × Value)):Room k (A.under (.builtin "type.__call__" ⟨.ref C :: us,kw⟩)) :=
 ⟨r.hd,by have:=r.dp;rw [Jl];lia,by have:=r.un;rw [Jm];lia⟩
theorem Room.depth {k:Nat} {A:Around} (r:Room k A):A.depth < recursionLimit:=by have:=r.dp;lia
theorem Room.units {k:Nat} {A:Around} (r:Room k A):A.units + 64 < cLine:=by have:=r.un;lia
def zi:TA:=fun _ H Q=>Q [] H
def zb (ta:TE) (tr:TA):TA:=fun σ H Q=>ta σ H fun x H1=>tr σ H1 fun xs H2=>Q (x :: xs) H2
section
variable {X:Cx} {e:Expr} {es:List Expr} {te:TE} {t:TA} {pos:Pos}
theorem ze:PA X [] zi:=fun _ _ _ _ H Q I h=>Calls.spliced_nil ⟨[],H,I,.nil,h⟩
theorem za (ha:PE X e te) (hr:PA X es t) (hs:starEach (e :: es) X.env=(false,eval e X.env) :: starEach es X.env:=by rfl):PA X (e :: es) (zb te t):=by
 intro pos pins s σ H Q I h
 rw [hs]
 show wpAny _ _ (spliced ((false,eval e X.env) :: backTo pos (starEach es X.env))) _ _ s
 refine Calls.spliced_cons (thn (ha pins s σ H _ I h) fun u s1 ⟨x,H1,I1,r1,q1⟩=>?_)
 exact thn (hr pos pins s1 σ H1 _ I1 q1) fun us s2 ⟨xs,H2,I2,r2,q2⟩=>⟨x :: xs,H2,I2,.cons r1 r2,q2⟩
def zS (t:TA):TE:=fun σ H Q=>t σ H fun xs H1=>xs.length≤sizeLine∧∀ p,H1 p=none→Q (.ref p) (upd H1 p (.tup xs))
def yS (t:TA):TE:=fun σ H Q=>t σ H fun xs H1=>xs.length≤sizeLine∧∀ p,H1 p=none→Q (.ref p) (upd H1 p (.lst xs))
theorem zZ {x1} (h:PA X es t):PE X (.Tuple es x1 pos) (zS t):=by
 intro pins s σ H Q I hq
 refine wpAny_Tuple_spliced (thn (h pos pins s σ H _ I hq) fun us s1 ⟨xs,H1,I1,r,z,q⟩=>⟨by rw [← r.length];exact z,?_⟩)
 have hf:H1 s1.heap.objs.size=none:=I1.hok.fresh (Nat.le_refl _)
 refine ⟨.ref s1.heap.objs.size,upd H1 s1.heap.objs.size (.tup xs),I1.laid (t':=s1.toks) (fun b u e=>Heap.get?_push_of_some _ e) (Nat.le_refl _) ?_,rfl,q _ hf⟩
 exact ⟨z,us,r,⟨_,Heap.get?_push_size _ rfl,rfl,_,rfl⟩⟩
theorem wm (h:PA X es t):PE X (.List es pos) (yS t):=by
 intro pins s σ H Q I hq
 refine wpAny_List_spliced (thn (h pos pins s σ H _ I hq) fun us s1 ⟨xs,H1,I1,r,z,q⟩=>⟨by rw [← r.length];exact z,?_⟩)
 have hf:H1 s1.heap.objs.size=none:=I1.hok.fresh (Nat.le_refl _)
 refine ⟨.ref s1.heap.objs.size,upd H1 s1.heap.objs.size (.lst xs),I1.laid (t':=s1.toks) (fun b u e=>Heap.get?_push_of_some _ e) (Nat.le_refl _) ?_,rfl,q _ hf⟩
 exact ⟨z,us,0,r,Heap.get?_push_size _ rfl⟩
end
abbrev Sp:=List V→Hp→VK→XK→Prop
abbrev CXT:=List Env→Hp→Shared→XK→Value→Shared→Prop
structure Env0 (P:Program) (w:World) (K:W.Frag) (mg:Str→Option Value) (base:Heap) (A:Around) (outer:List Env) (s:Shared) (H:Hp):Prop where
 frames:A.frames=some outer
 mod:Mod K mg base
 bs:∀ b o,base.get? b=some o→s.heap.get? b=some o∧H b=none
 bsz:base.objs.size≤s.heap.objs.size
 funs:s.heap.FunFrames base outer
 frf:∀ b∈frs outer,H b=none
 hok:HOk P w H s.heap
 bare:AllBare s.gens
def CE (outer:List Env) (P:Program) (w:World) (H:Hp) (s:Shared) (Q:VK) (u:Value) (s':Shared):Prop :=
 ∃ v H',s'.os=s.os∧AllBare s'.gens∧Un (frs outer) [] H H' s.heap s'.heap∧HOk P w H' s'.heap∧RelV v u∧Q v H'
def CR (CX:CXT) (outer:List Env) (P:Program) (w:World) (H:Hp) (s:Shared) (Q:VK) (E:XK) (r:Result) (s':Shared):Prop :=
 match r with
 | .ok (.ret u)=>CE outer P w H s Q u s'
 | .ok _=>False
 | .error e=>CX outer H s E e s'
structure FnOk (P:Program) (w:World) (K:W.Frag) (mg:Str→Option Value) (base:Heap) (CX:CXT) (k:Nat) (f:Addr) (fd:FuncData) (ps:List Str) (sp:Sp):Prop where
 len:∀ vs H Q E,sp vs H Q E→vs.length=ps.length
 run:∀ (A:Around) (outer:List Env) (s:Shared) (H:Hp) (args:Args) (us:List Value) (vs:List V) (Q:VK) (E:XK),Room k A→Env0 P w K mg base A outer s H→BindsTo s fd args (ps.zip us)→Vals vs us→sp vs H Q E →
  codeAny (model P w) A (.call (.ref f) args) (CR CX outer P w H s Q E) s
theorem FnOk.mono {P:Program} {w:World} {K:W.Frag} {mg:Str→Option Value} {base:Heap} {CX:CXT} {j k:Nat} {f:Addr} {fd:FuncData} {ps:List Str} {sp:Sp} (F:FnOk P w K mg base CX j f fd ps sp) (h:j≤k) :
  FnOk P w K mg base CX k f fd ps sp:=⟨F.len,fun A outer s H args us vs Q E hr=>F.run A outer s H args us vs Q E (hr.mono h)⟩
theorem Env0.make {P:Program} {w:World} {K:W.Frag} {mg:Str→Option Value} {base:Heap} {A:Around} {outer:List Env} {s:Shared} {H:Hp} (e:Env0 P w K mg base A outer s H) (C:Addr) (us:List Value) (kw:List (Str × Value)) :
  Env0 P w K mg base (A.under (.builtin "type.__call__" ⟨.ref C :: us,kw⟩)) outer s H:=⟨by first | exact e.frames | (simpa [Around.under,Code.envs,Code.isFrame,pushEnvs] using e.frames),e.mod,e.bs,e.bsz,e.funs,e.frf,e.hok,e.bare⟩
section
variable {X:Cx} {pins:List (Addr × Obj)} {σ:St} {H:Hp} {s s':Shared}
theorem Inv.env0 (I:Inv X pins σ H s):Env0 X.prog X.w X.K X.mg X.base X.A X.stack s H :=
 ⟨I.ok.frames,I.ok.mod,I.bs,Nat.le_trans I.ok.bsz I.sz,I.stack,I.stkFree,I.hok,I.bare⟩
theorem Inv.after {Q:VK} {u:Value} (I:Inv X pins σ H s) (h:CE X.stack X.prog X.w H s Q u s'):EP X pins σ Q u s':=by
 obtain ⟨v,H',os,bare,un,hok,r,q⟩:=h
 obtain ⟨hh,g,d,t,os'⟩:=s'
 obtain rfl:os'=s.os:=os
 exact ⟨v,H',I.call (h':=hh) (g':=g) (d':=d) (t':=t) (ch:=[]) un hok bare (fun b z=>absurd z (by simp)),r,q⟩
end
def zm (sp:Sp) (dvs:List V) (E:XK) (t:TA):TE:=fun σ H Q=>t σ H fun vs H1=>sp (vs ++ dvs) H1 Q E
def y6 (C:Addr) (m:Str) (sp:Sp) (dvs:List V) (E:XK) (ta:TE) (t:TA):TE:=fun σ H Q=>ta σ H fun x H1=>∃ a dx fs,x=.ref a∧H1 a=some (.ins C dx fs)∧fs.lookup m=none ∧
 t σ H1 fun vs H2=>sp (x :: (vs ++ dvs)) H2 Q E
def Qw (C:Addr) (sp:Sp) (dvs:List V) (E:XK) (t:TA):TE:=fun σ H Q=>t σ H fun vs H1=>∀ x dx,H1 x=none→H1 dx=none→dx≠x →
 sp (.ref x :: (vs ++ dvs)) (upd (upd H1 dx (.own x)) x (.ins C dx [])) (fun v H2=>v=.non∧Q (.ref x) H2) E
def Binds (K:W.Frag) (fd:FuncData) (ps:List Str) (ds:List Value):Prop :=
 ∀ (s:Shared) (us:List Value),K.In s.heap→(us ++ ds).length=ps.length→BindsTo s fd ⟨us,[]⟩ (ps.zip (us ++ ds))
theorem Binds.all {K:W.Frag} {fd:FuncData} {ps:List Str} (h:∀ us:List Value,us.length=ps.length→bindArgs fd ⟨us,[]⟩=pure (ps.zip us)):Binds K fd ps []:=fun s us _ hl=>by
 rw [List.append_nil] at hl ⊢
 exact .of_eq (h us hl)
def qq (CX:CXT) (X:Cx) (E:XK):Prop:=∀ (pins:List (Addr × Obj)) (σ:St) (H:Hp) (s:Shared) (e:Value) (s':Shared),Inv X pins σ H s→CX X.stack H s E e s'→X.xe e s'
section
variable {X:Cx} {CX:CXT} {k:Nat} {f C:Addr} {fd:FuncData} {ps:List Str} {sp:Sp} {dvs:List V} {ds:List Value} {E:XK} {x m:Str} {p pos apos:Pos} {e o:Expr} {es:List Expr} {ta:TE} {t:TA}
theorem Qx {pins:List (Addr × Obj)} {σ:St} {H:Hp} {s:Shared} {Q:VK} {us:List Value} {vs:List V} (F:FnOk X.prog X.w X.K X.mg X.base CX k f fd ps sp) (hr:Room k X.A) (hb:Binds X.K fd ps ds) (hd:Vals dvs ds) (hx:qq CX X E)
  (I:Inv X pins σ H s) (r:Vals vs us) (h:sp (vs ++ dvs) H Q E):wpAny (model X.prog X.w) X.A (call (.ref f) us) (EP X pins σ Q) X.xe s:=by
 have r2:Vals (vs ++ dvs) (us ++ ds):=r.append hd
 have hl:(us ++ ds).length=ps.length:=by rw [← r2.length];exact F.len _ _ _ _ h
 refine wpAny_call (codeAny_mono (F.run X.A X.stack s H ⟨us,[]⟩ (us ++ ds) (vs ++ dvs) Q E hr I.env0 (hb s us I.kIn hl) r2 h) fun r s' hq=>?_)
 cases r with
 | error e=>exact hx pins σ H s e s' I hq
 | ok fl =>
  cases fl with
  | ret u=>exact I.after hq
  | next=>exact False.elim hq
  | brk=>exact False.elim hq
  | cont=>exact False.elim hq
theorem zr (F:FnOk X.prog X.w X.K X.mg X.base CX k f fd ps sp) (hr:Room k X.A) (hg:Gl X x) (hm:X.mg x=some (.ref f)) (hk:W.keepIn X.K (.ref f)=true) (hb:Binds X.K fd ps ds) (hd:Vals dvs ds) (hx:qq CX X E)
  (ha:PA X (e :: es) t) (hdb:(x == ("__debug__":Str))=false:=by decide) (he:starEach (e :: es) X.env=(false,eval e X.env) :: starEach es X.env:=by rfl) (hpl:(backTo pos (starEach es X.env)).any (·.1)=false:=by rfl) :
  PE X (.Call (.Name x p) (e :: es) [] pos) (zm sp dvs E t):=by
 intro pins s σ H Q I h
 refine wpAny_Call_Name_kw (js I hg hm ?_ hdb)
 refine W.callWith_K (h₀:=X.base) I.ok.mod.kin hk (thn (ha pos pins s σ H _ I h) fun us s1 ⟨vs,H1,I1,r,q⟩=>⟨I1.kIn,?_⟩) he hpl
 exact Qx F hr hb hd hx I1 r q
theorem vd {pl:Sem Bool} (he:PE X o ta) (c:Cls X.K C) (hm:KK X.K C m f) (F:FnOk X.prog X.w X.K X.mg X.base CX k f fd ps sp) (hr:Room k X.A) (hb:Binds X.K fd ps ds) (hd:Vals dvs ds) (hx:qq CX X E) (ha:PA X (e :: es) t)
  (hst:starEach (e :: es) X.env=(false,eval e X.env) :: starEach es X.env:=by rfl) (hpl:(backTo pos (starEach es X.env)).any (·.1)=false:=by rfl)
  (ht:eval (.Call (.Attribute o m apos) (e :: es) [] pos) X.env=(do
   let ov ← eval o X.env
   standAt apos.atName
   let (f,first) ← holding [ov] (getMethod ov m pl)
   callWith pos f first (backTo pos (starEach (e :: es) X.env)) (backToKw pos (keywordEach [] X.env))):=by rfl) :
  PE X (.Call (.Attribute o m apos) (e :: es) [] pos) (y6 C m sp dvs E ta t):=by
 intro pins s σ H Q I h
 refine W.methodCall_KW (pl:=pl) (thn (he pins s σ H _ I h) fun u s1 ⟨x,H1,I1,rx,a,dx,fs,ex,ea,l,q⟩=>?_) ht
 subst ex
 obtain rfl:u=Value.ref a:=rx
 refine Yj I1 ea c hm l ?_
 refine W.callWith_K (first:=[.ref a]) (h₀:=X.base) I.ok.mod.kin hm.kp (thn (ha pos pins s1 σ H1 _ I1 q) fun us s2 ⟨vs,H2,I2,r,q2⟩=>⟨I2.kIn,?_⟩) hst hpl
 exact Qx (us:=.ref a :: us) (vs:=.ref a :: vs) F hr hb hd hx I2 (.cons rfl r) q2
structure Mk (K:W.Frag) (C f:Addr):Prop where
 makes:W.makesIn K C=true
 init:W.findIn K (.ref C) "__init__"=some (some (.ref f))
 fn:W.isFn K (.ref f)=true
 kp:W.keepIn K (.ref C)=true
theorem Qy {pins:List (Addr × Obj)} {σ:St} {H:Hp} {s:Shared} {Q:VK} {us:List Value} {vs:List V} (M:Mk X.K C f) (F:FnOk X.prog X.w X.K X.mg X.base CX k f fd ps sp) (hr:Room (k + 1) X.A) (hb:Binds X.K fd ps ds) (hd:Vals dvs ds)
  (hx:qq CX X E) (I:Inv X pins σ H s) (r:Vals vs us)
  (h:∀ x dx,H x=none→H dx=none→dx≠x→sp (.ref x :: (vs ++ dvs)) (upd (upd H dx (.own x)) x (.ins C dx [])) (fun v H2=>v=.non∧Q (.ref x) H2) E) :
  wpAny (model X.prog X.w) X.A (call (.ref C) us) (EP X pins σ Q) X.xe s:=by
 have hq:=h (s.heap.objs.size + 1) s.heap.objs.size (I.hok.fresh (Nat.le_succ _)) (I.hok.fresh (Nat.le_refl _)) (Nat.ne_of_lt (Nat.lt_succ_self _))
 have I2:=Inv.made (C:=C) I
 have r2:Vals (V.ref (s.heap.objs.size + 1) :: (vs ++ dvs)) (Value.ref (s.heap.objs.size + 1) :: (us ++ ds)):=.cons rfl (r.append hd)
 have hl:(Value.ref (s.heap.objs.size + 1) :: us ++ ds).length=ps.length:=by
  have e:=r2.length
  rw [F.len _ _ _ _ hq] at e
  exact e.symm
 refine wpAny_call (Qv (f:=f) I.kIn M.makes M.init (beq_iff_eq.mp M.fn) (codeAny_mono (F.run _ X.stack _ _ ⟨Value.ref (s.heap.objs.size + 1) :: us,[]⟩ (Value.ref (s.heap.objs.size + 1) :: (us ++ ds)) _ _ E (hr.make C us [])
  (I2.env0.make C us []) (hb _ (Value.ref (s.heap.objs.size + 1) :: us) I2.kIn hl) r2 hq) fun r s' hq'=>?_))
 cases r with
 | error e=>exact hx pins σ _ _ e s' I2 hq'
 | ok fl =>
  cases fl with
  | ret u =>
   obtain ⟨v,H',I3,rv,ev,q3⟩:=I2.after hq'
   subst ev
   exact ⟨rv,⟨V.ref (s.heap.objs.size + 1),H',I3,rfl,q3⟩⟩
  | next=>exact False.elim hq'
  | brk=>exact False.elim hq'
  | cont=>exact False.elim hq'
theorem zaO (M:Mk X.K C f) (F:FnOk X.prog X.w X.K X.mg X.base CX k f fd ps sp) (hr:Room (k + 1) X.A) (hg:Gl X x) (hm:X.mg x=some (.ref C)) (hb:Binds X.K fd ps ds) (hd:Vals dvs ds) (hx:qq CX X E)
  (ha:PA X (e :: es) t) (hdb:(x == ("__debug__":Str))=false:=by decide) (he:starEach (e :: es) X.env=(false,eval e X.env) :: starEach es X.env:=by rfl) (hpl:(backTo pos (starEach es X.env)).any (·.1)=false:=by rfl) :
  PE X (.Call (.Name x p) (e :: es) [] pos) (Qw C sp dvs E t):=by
 intro pins s σ H Q I h
 refine wpAny_Call_Name_kw (js I hg hm ?_ hdb)
 refine W.callWith_K (h₀:=X.base) I.ok.mod.kin M.kp (thn (ha pos pins s σ H _ I h) fun us s1 ⟨vs,H1,I1,r,q⟩=>⟨I1.kIn,?_⟩) he hpl
 exact Qy M F hr hb hd hx I1 r q
end
section
variable {X:Cx} {CX:CXT} {k:Nat} {f C:Addr} {fd:FuncData} {ps ks:List Str} {sp:Sp} {E:XK} {x m:Str} {p pos apos kpos:Pos} {e o:Expr} {es:List Expr} {kws:List Keyword} {te ta:TE} {t tk:TA} {nm:Option Str}
variable {g:List Value→List Value→List Value} {gV:List V→List V→List V}
end
structure zN (N P:List Str) (sc:Scope):Prop where
 kind:sc.kind=.function
 co:sc.isCoroutine=false
 gen:sc.isGenerator=false
 nd:N.Nodup
 pre:N.take P.length=P
 par:∀ x∈P,sc.names.lookup x=some .local∨sc.names.lookup x=some .cell
 nofree:∀ y∈sc.names,y.2≠.free
theorem XB {kindOf:Str→Option NameKind} {x:Str}:∀ {binds:List (Str × Value)} {m:Str→Option Value},(∀ v,(x,v) ∉ binds)→bindL kindOf binds m x=m x
 | [],_,_=>rfl
 | (n,v) :: r,m,h=>by
  unfold bindL
  rw [XB fun w hw=>h w (List.mem_cons_of_mem _ hw)]
  split
  ·have:x≠n:=by rintro rfl;exact h v List.mem_cons_self
   simp [this]
  ·rfl
theorem XC {kindOf:Str→Option NameKind} {x:Str}:∀ {binds:List (Str × Value)} {m:Str→Option Value},(∀ v,(x,v) ∉ binds)→bindC kindOf binds m x=m x
 | [],_,_=>rfl
 | (n,v) :: r,m,h=>by
  unfold bindC
  rw [XC fun w hw=>h w (List.mem_cons_of_mem _ hw)]
  split
  ·rfl
  ·have:x≠n:=by rintro rfl;exact h v List.mem_cons_self
   simp [this]
theorem XD {kindOf:Str→Option NameKind} {x:Str} {v:Value}:∀ {P:List Str} {vs:List Value} {i:Nat} {m:Str→Option Value},P.Nodup→P[i]?=some x→vs[i]?=some v→kindOf x=some .local →
  bindL kindOf (P.zip vs) m x=some v
 | [],_,_,_,_,h,_,_=>by simp at h
 | _ :: _,[],_,_,_,_,h,_=>by simp at h
 | p :: P,w :: vs,0,m,nd,h1,h2,hk=>by
  simp at h1 h2;subst h1;subst h2
  show bindL kindOf ((p,w) :: P.zip vs) m p=_
  unfold bindL
  rw [XB fun v hv=>(List.nodup_cons.mp nd).1 (List.of_mem_zip hv).1,if_pos hk]
  simp
 | p :: P,w :: vs,i + 1,m,nd,h1,h2,hk=>by
  show bindL kindOf ((p,w) :: P.zip vs) m x=_
  unfold bindL
  exact XD (i:=i) (List.nodup_cons.mp nd).2 (by simpa using h1) (by simpa using h2) hk
theorem XE {kindOf:Str→Option NameKind} {x:Str} {v:Value}:∀ {P:List Str} {vs:List Value} {i:Nat} {m:Str→Option Value},P.Nodup→P[i]?=some x→vs[i]?=some v→kindOf x≠some .local →
  bindC kindOf (P.zip vs) m x=some v
 | [],_,_,_,_,h,_,_=>by simp at h
 | _ :: _,[],_,_,_,_,h,_=>by simp at h
 | p :: P,w :: vs,0,m,nd,h1,h2,hk=>by
  simp at h1 h2;subst h1;subst h2
  show bindC kindOf ((p,w) :: P.zip vs) m p=_
  unfold bindC
  rw [XC fun v hv=>(List.nodup_cons.mp nd).1 (List.of_mem_zip hv).1,if_neg hk]
  simp
 | p :: P,w :: vs,i + 1,m,nd,h1,h2,hk=>by
  show bindC kindOf ((p,w) :: P.zip vs) m x=_
  unfold bindC
  exact XE (i:=i) (List.nodup_cons.mp nd).2 (by simpa using h1) (by simpa using h2) hk
def start (N:List Str) (vs:List V):St:=vs.map some ++ List.replicate (N.length - vs.length) none
def qb (CX:CXT) (P:Program) (w:World) (K:W.Frag) (mg:Str→Option Value) (base:Heap) (N:List Str) (qual:Str) (scope:Scope) (f:Addr) (cd:Value) (A:Around) (outer:List Env) (s:Shared) (H:Hp) (E:XK):Cx where
 prog:=P
 w:=w
 K:=K
 mg:=mg
 base:=base
 A:=A.deeper (envOfC qual scope s.heap.objs.size f cd)
 N:=N
 s₀:=s
 H₀:=H
 env:=envOfC qual scope s.heap.objs.size f cd
 outer:=outer
 stack:=envOfC qual scope s.heap.objs.size f cd :: outer
 ex:=[]
 calm:=true
 fn:=fun _=>true
 pn:=[]
 xe:=fun e s'=>wpAny (model P w) (A.deeper (envOfC qual scope s.heap.objs.size f cd)) (leaving (envOfC qual scope s.heap.objs.size f cd) e) (fun _ s''=>CX outer H s E e s'') (fun e' s''=>CX outer H s E e' s'') s'
theorem W1 {sc:Scope} {n:Nat} {x:Str} (h:sc.names.lookup x=some .cell):∃ c,(cellsFrom n sc.names []).lookup x=some c:=by
 have q:=W.cellsFrom_some sc.names n [] (.inl h)
 exact Option.isSome_iff_exists.mp q
theorem XG {CX:CXT} {P:Program} {w:World} {K:W.Frag} {mg:Str→Option Value} {base:Heap} {N ps:List Str} {qual:Str} {scope:Scope} {f:Addr} {cd:Value} {A:Around} {outer:List Env} {s s1:Shared} {H:Hp} {E:XK} {us:List Value} {vs:List V}
  (S:zN N ps scope) (hd:A.handled=none) (e0:Env0 P w K mg base A outer s H) (hl:vs.length=ps.length) (r:Vals vs us)
  (x:InCallC s s.heap.objs.size (bindL (envOfC qual scope s.heap.objs.size f cd).kindOf (ps.zip us) fun _=>none) (cellsFrom (s.heap.objs.size + 1) scope.names []) (bindC (envOfC qual scope s.heap.objs.size f cd).kindOf (ps.zip us) fun _=>none) s1) :
  Inv (qb CX P w K mg base N qual scope f cd A outer s H E) [] (start N vs) H s1:=by
 have hpl:ps.length≤N.length:=by have:=congrArg List.length S.pre;rw [List.length_take] at this;lia
 obtain ⟨h1,tk,rfl,hk⟩:=x.done
 have noA:∀ b:Addr,b ∉ (qb CX P w K mg base N qual scope f cd A outer s H E).ex:=fun b z=>absurd (show b∈([]:List Addr) from z) (by simp)
 refine ⟨⟨e0.mod,S.kind,rfl,rfl,Nat.le_refl _,fun y z c h1 h2=>?_,fun y hy=>?_,fun y c _ h=>?_,fun _=>hd,Around.frames_deeper e0.frames,.inr ⟨rfl,rfl⟩,fun b z=>absurd z (noA b),e0.bs,e0.bsz,fun b _ _=>noA b,fun b z=>absurd z (noA b),e0.funs,e0.frf⟩,
  rfl,e0.bare,Un.kept hk,⟨_,x.toInCall.ns,fun i y v h1 h2 h3=>?_⟩,fun y c h=>⟨_,x.cell y c h⟩,e0.hok.fresh (Nat.le_refl _),fun y c h=>?_,fun p hp=>absurd (show p∈([]:List (Addr × Obj)) from hp) (by simp),e0.hok.kept hk,?_⟩
 ·exact name_of_addr x.apart (PySem.mem_of_lookup h1) (PySem.mem_of_lookup h2)
 ·have hy:scope.names.lookup y=some .cell∨scope.names.lookup y=some .free:=hy
  rcases hy with hy | hy
  ·exact W1 hy
  ·exact absurd rfl (S.nofree _ (PySem.mem_of_lookup hy))
 ·exact Nat.le_of_lt (x.above y c (PySem.mem_of_lookup h))
 ·have hi:i < vs.length:=by
   unfold start at h2
   by_cases hi:i < vs.length
   ·exact hi
   ·rw [List.getElem?_append_right (by simpa using hi)] at h2
    rw [List.getElem?_replicate] at h2
    split at h2 <;> cases h2
  have ha:vs[i]?=some v:=by
   unfold start at h2
   rw [List.getElem?_append_left (by simpa using hi),List.getElem?_map] at h2
   cases e:vs[i]? with
   | none=>rw [e] at h2;cases h2
   | some a=>rw [e] at h2;cases h2;rfl
  obtain ⟨u,hu,rv⟩:=r.get ha
  have hp:ps[i]?=some y:=by
   rw [← S.pre,List.getElem?_take_of_lt (by lia)];exact h1
  have ndP:ps.Nodup:=by rw [← S.pre];exact S.nd.sublist (List.take_sublist _ _)
  refine ⟨u,rv,?_⟩
  rcases S.par y (List.mem_of_getElem? hp) with k | k
  ·exact .inl ⟨k,XD ndP hp hu k⟩
  ·obtain ⟨c,e⟩:=W1 (n:=s.heap.objs.size + 1) k
   refine .inr ⟨.inl k,c,e,?_⟩
   have q:=x.cell y c e
   rw [XE ndP hp hu (by show scope.names.lookup y≠_;rw [k];decide)] at q
   exact q
 ·exact e0.hok.fresh (Nat.le_of_lt (x.above y c (PySem.mem_of_lookup h)))
 ·unfold start
  show _=N.length
  rw [List.length_append,List.length_map,List.length_replicate]
  lia
theorem zcF {CX:CXT} {P:Program} {w:World} {K:W.Frag} {mg:Str→Option Value} {base:Heap} {k:Nat} {f:Addr} {name qual:Str} {params:Arguments} {body:List Stmt} {scope:Scope} {dV kV doc pm cdv ct oc:Value} {an od:Option Addr}
  {osl:Array (Option Value)} {N ps:List Str} {sp:Sp} (lk:K.lookup f=some ⟨oc,od,.func (W.fnOf name qual params body scope dV kV doc pm an cdv ct),osl⟩) (hcd:W.codeIn K cdv qual=true) (S:zN N ps scope)
  (len:∀ vs H Q E,sp vs H Q E→vs.length=ps.length)
  (hbody:∀ (A:Around) (outer:List Env) (s:Shared) (H:Hp) (vs:List V) (Q:VK) (E:XK),Room k (A.deeper (envOfC qual scope s.heap.objs.size f cdv))→sp vs H Q E →
   ∃ t,PSs (qb CX P w K mg base N qual scope f cdv A outer s H E) body t∧t { nx:=fun _ H'=>Q .non H',rt:=Q } (start N vs) H) :
  FnOk P w K mg base CX (k + 1) f (W.fnOf name qual params body scope dV kV doc pm an cdv ct) ps sp:=by
 refine ⟨len,fun A outer s H args us vs Q E hr e0 hb r hsp=>?_⟩
 have hl:=len _ _ _ _ hsp
 have KX:K.In s.heap:=e0.mod.kin.keeps fun b o e=>(e0.bs b o e).1
 have lim:s.heap.NoLimit:=e0.mod.nolimit.keeps fun b o e=>(e0.bs b o e).1
 have hkind:∀ y∈ps.zip us,scope.names.lookup y.1=some .local∨(scope.names.lookup y.1=some .cell∧((cellsFrom (s.heap.objs.size + 1) scope.names []).lookup y.1).isSome=true):=fun ⟨n,v⟩ hy=>by
  rcases S.par n (List.of_mem_zip hy).1 with q | q
  ·exact .inl q
  ·exact .inr ⟨q,W.cellsFrom_some _ _ _ (.inl q)⟩
 refine codeAny_call_function hr.depth (KX _ _ lk) rfl S.co S.gen rfl (W.codeRec_of KX hcd) (hb _ _ _ _ ?_)
 refine wpAny_newFunctionEnv_cells S.kind hkind fun env he s1 x=>?_
 subst he
 refine ⟨lim.keeps x.toInCall.keep,codeAny_func ?_⟩
 obtain ⟨t,ht,hq⟩:=hbody A outer s H vs Q E (hr.deeper _) hsp
 have I:Inv (qb CX P w K mg base N qual scope f cdv A outer s H E) [] (start N vs) H s1:=XG S hr.hd e0 hl r x
 refine wpAny_mono (ht [] s1 (start N vs) H _ I hq) (fun fl s' hs=>?_) fun e s' hs=>hs
 have fin:∀ {σ':St} {H':Hp} {v:V} {u:Value},Inv (qb CX P w K mg base N qual scope f cdv A outer s H E) [] σ' H' s'→RelV v u→Q v H'→CE outer P w H s Q u s' :=
  fun {σ' H' v u} J rv q=>⟨v,H',J.os,J.bare,J.base,J.hok,rv,q⟩
 cases fl with
 | ret u =>
  obtain ⟨v,σ',H',J,rv,q⟩:=hs
  exact fin J rv q
 | next =>
  obtain ⟨σ',H',J,q⟩:=hs
  exact fin (v:=V.non) (u:=Value.none) J rfl q
 | brk =>
  obtain ⟨_,_,_,q⟩:=hs
  exact False.elim q
 | cont =>
  obtain ⟨_,_,_,q⟩:=hs
  exact False.elim q
end L2
namespace L2
open PySem PySem.Spec PyProof.Rows
section
variable {X:Cx} {x:Str} {p pos:Pos} {e:Expr} {es:List Expr} {t:TA} {id T:String} {r:List V→Hp→VK→Prop}
def tCB (r:List V→Hp→VK→Prop) (t:TA):TE:=fun σ H Q=>t σ H fun vs H1=>r vs H1 Q
theorem yf (hc:je X (.builtin id) r) (hg:Gl X x) (hm:X.mg x=none) (hv:bootBuiltins x=some (.builtin id)) (ha:PA X (e :: es) t) (hn:x≠"__name__":=by decide) (hdb:(x == ("__debug__":Str))=false:=by decide)
  (he:starEach (e :: es) X.env=(false,eval e X.env) :: starEach es X.env:=by rfl) (hpl:(backTo pos (starEach es X.env)).any (·.1)=false:=by rfl):PE X (.Call (.Name x p) (e :: es) [] pos) (tCB r t):=by
 intro pins s σ H Q I h
 refine wpAny_Call_Name_kw (Yb I hg hm hv ?_ hn hdb)
 exact PyProof.Rows.callWith_builtin1 (thn (ha pos pins s σ H _ I h) fun us s1 ⟨vs,H1,I1,r1,q1⟩=>hc pins s1 σ H1 vs us Q I1 r1 q1) he hpl
theorem yG (hc:je X (.type T) r) (hg:Gl X x) (hm:X.mg x=none) (hv:bootBuiltins x=some (.type T)) (ha:PA X (e :: es) t) (hn:x≠"__name__":=by decide) (hdb:(x == ("__debug__":Str))=false:=by decide)
  (he:starEach (e :: es) X.env=(false,eval e X.env) :: starEach es X.env:=by rfl) (hpl:(backTo pos (starEach es X.env)).any (·.1)=false:=by rfl):PE X (.Call (.Name x p) (e :: es) [] pos) (tCB r t):=by
 intro pins s σ H Q I h
 refine wpAny_Call_Name_kw (Yb I hg hm hv ?_ hn hdb)
 exact PyProof.Rows.callWith_type1 (thn (ha pos pins s σ H _ I h) fun us s1 ⟨vs,H1,I1,r1,q1⟩=>hc pins s1 σ H1 vs us Q I1 r1 q1) he hpl
end
end L2
namespace HT
open PySem PyProof.Rows
def zcG:List Int→List Int→Bool
 | [],[]=>false
 | [],_ :: _=>true
 | _ :: _,[]=>false
 | x :: xs,y :: ys=>if x=y then zcG xs ys else decide (x < y)
theorem rcLt_int (A:Around) (s:Shared) (a:Int) (t:Tok) (c:Int) (u:Tok) (prog:Program) (w:World) (E:Value→Shared→Prop) (Q:Value→Shared→Prop) (h:Q (.bool (decide (a < c))) s) :
  wpAny (model prog w) A (richCompare .Lt (.int a t) (.int c u)) Q E s :=
 (PyProof.Rows.lt_int h:wpAny (model prog w) A (compareOp .Lt (.int a t) (.int c u)) Q E s)
section
open PySem.SeqAt
open PySem.AutoSeq1 (wpAny_loadPart')
open PySem.MeetsSeq PySem.MeetsSeq2 PySem.MeetsSeq3
end
section
variable {prog:Program} {w:World} {A:Around} {E:Value→Shared→Prop} {s:Shared}
theorem cat_tup {t b:Addr} {vs ws:List Value} {Q:Value→Shared→Prop} (ht:IsTup s.heap t vs.toArray) (hb:IsTup s.heap b ws.toArray) (hv:vs≠[])
  (h1:ws=[]→Q (.ref t) s) (h2:ws≠[]→Q (.ref s.heap.objs.size) { s with heap:=s.heap.push { cls:=.type "tuple",data:=.seq (vs ++ ws).toArray } })
  (hsz:vs.length + ws.length≤sizeLine):wpAny (model prog w) A (binaryOp .Add (.ref t) (.ref b)) Q E s:=by
 obtain ⟨⟨cls,dd,data,sl⟩,ho,hc,n,hd⟩:=id ht
 obtain ⟨⟨cls2,dd2,data2,sl2⟩,ho2,hc2,n2,hd2⟩:=id hb
 simp only at hc hd hc2 hd2
 subst hc hd hc2 hd2
 have e:vs.toArray ++ ws.toArray=(vs ++ ws).toArray:=by simp
 by_cases hw:ws=[]
 ·exact concat_meets ⟨_,ho,rfl⟩ ⟨_,ho2,rfl⟩ noFill_tuple_add seq_tuple_add F.slot_tuple_add F.entry_tuple_add (F.args_tuple_add_2 _ _)
   (tuple_addW1 t b vs.toArray ws.toArray n n2 dd dd2 sl sl2 (by simpa using hv) (by simp [hw])) ⟨ho,ho2,h1 hw⟩
 ·refine concat_meets ⟨_,ho,rfl⟩ ⟨_,ho2,rfl⟩ noFill_tuple_add seq_tuple_add F.slot_tuple_add F.entry_tuple_add (F.args_tuple_add_2 _ _)
   (tuple_addW2 t b vs.toArray ws.toArray n n2 dd dd2 sl sl2 (by simpa using hv) (by simpa using hw) (by rw [List.size_toArray,List.size_toArray];exact hsz)) ⟨ho,ho2,?_⟩
  rw [e]
  exact h2 hw
def sIx (n d:Nat):Option Int→Nat
 | none=>d
 | some v=>if v < 0 then (v + (n:Int)).toNat else min v.toNat n
theorem sIx_none (n d:Nat):sIx n d none=d:=rfl
theorem sIx_nat (n d k:Nat):sIx n d (some (k:Int))=min k n:=by
 show (if (k:Int) < 0 then ((k:Int) + (n:Int)).toNat else min (k:Int).toNat n)=min k n
 rw [if_neg (by lia),Int.toNat_natCast]
theorem sIx_le (n d:Nat) (hd:d≤n) (o:Option Int):sIx n d o≤n:=by
 cases o with
 | none=>exact hd
 | some v =>
  show (if v < 0 then (v + (n:Int)).toNat else min v.toNat n)≤n
  by_cases hv:v < 0
  ·rw [if_pos hv];lia
  ·rw [if_neg hv];exact Nat.min_le_right _ _
end
end HT
namespace L2
open PySem PySem.Spec PyProof.Rows
abbrev TO:=St→Hp→(Option Int→Hp→Prop)→Prop
def PO (X:Cx) (e:Option Expr) (t:TO):Prop :=
 ∀ (pins:List (Addr × Obj)) (s:Shared) (σ:St) (H:Hp) (Q:Option Int→Hp→Prop),Inv X pins σ H s→t σ H Q →
  wpAny (model X.prog X.w) X.A (evalPart e X.env) (fun u s'=>∃ o H',Inv X pins σ H' s'∧IsPart u o∧Q o H') X.xe s
def yW:TO:=fun _ H Q=>Q none H
def xR (t:TE):TO:=fun σ H Q=>t σ H fun x H1=>∃ i,x=.int i∧Q (some i) H1
section
variable {X:Cx} {e:Expr} {te:TE} {lo hi:Option Expr} {tl th:TO} {pos p2:Pos}
theorem kP:PO X none yW:=by
 intro pins s σ H Q I h
 rw [evalPart_none]
 exact wpAny_pure ⟨none,H,I,.none,h⟩
theorem vP (h:PE X e te):PO X (some e) (xR te):=by
 intro pins s σ H Q I hw
 rw [evalPart_some]
 refine thn (h pins s σ H _ I hw) fun u s1 ⟨x,H1,I1,r1,q1⟩=>?_
 obtain ⟨i,rfl,q⟩:=q1
 obtain ⟨t,rfl⟩:=r1
 exact ⟨some i,H1,I1,.int i t,q⟩
def SlR (X:Cx) (r:V→Option Int→Option Int→Hp→VK→Prop):Prop :=
 ∀ (pins:List (Addr × Obj)) (s:Shared) (σ:St) (H:Hp) (x:V) (v vl vu:Value) (lo hi:Option Int) (sl:Addr) (Q:VK),Inv X pins σ H s→RelV x v→s.heap.IsSliceOf sl vl vu .none→IsPart vl lo→IsPart vu hi→r x lo hi H Q →
  ∃ T id,typeLookup (.type T) "__getitem__"=pure (some (.builtin id))∧s.TypeIs v T∧wpAny (model X.prog X.w) X.A (getItem v (.ref sl)) (EP X pins σ Q) X.xe s
def tSl (r:V→Option Int→Option Int→Hp→VK→Prop) (te:TE) (tl th:TO):TE:=fun σ H Q=>te σ H fun x H1=>tl σ H1 fun l H2=>th σ H2 fun u H3=>r x l u H3 Q
theorem vn {r:V→Option Int→Option Int→Hp→VK→Prop} (hr:SlR X r) (he:PE X e te) (hl:PO X lo tl) (hu:PO X hi th):PE X (.Subscript e (.Slice lo hi none p2) pos) (tSl r te tl th):=by
 intro pins s σ H Q I h
 refine Subscript_ (thn (he pins s σ H _ I h) fun v s1 ⟨x,H1,I1,r1,q1⟩=>?_)
 refine wpAny_Slice (thn (hl pins s1 σ H1 _ I1 q1) fun vl s2 ⟨l,H2,I2,pl,q2⟩=>thn (hu pins s2 σ H2 _ I2 q2) fun vu s3 ⟨u,H3,I3,pu,q3⟩=>?_)
 rw [evalPart_none]
 refine wpAny_pure ?_
 have I4:Inv X pins σ H3 { s3 with heap:=s3.heap.push { cls:=.type "slice",data:=.fields #[vl,vu,.none] } }:=I3.kept (t':=s3.toks) fun b ob q=>Heap.get?_push_of_some _ q
 obtain ⟨T,id,hT,ht,hg⟩:=hr pins { s3 with heap:=s3.heap.push { cls:=.type "slice",data:=.fields #[vl,vu,.none] } } σ H3 x v vl vu l u s3.heap.objs.size Q I4 r1 (Heap.IsSliceOf.new ..) pl pu q3
 show wpAny (model X.prog X.w) X.A (subscriptTail e (.Slice lo hi none p2) v (.ref s3.heap.objs.size)) (EP X pins σ Q) X.xe { s3 with heap:=s3.heap.push { cls:=.type "slice",data:=.fields #[vl,vu,.none] } }
 exact tail_any (ops:=[.ref s3.heap.objs.size,v]) ht hT hg (by with_unfolding_all rfl)
def Wg (xs:List V) (lo hi:Option Int):List V:=(xs.drop (HT.sIx xs.length 0 lo)).take (HT.sIx xs.length xs.length hi - HT.sIx xs.length 0 lo)
theorem W4 (xs:List V) (lo hi:Option Int):(Wg xs lo hi).length≤xs.length:=by
 unfold Wg
 rw [List.length_take,List.length_drop]
 lia
def XH (K:W.Frag):R2:=fun x y H Q=>∃ a b xs ys,x=.ref a∧y=.ref b∧SqT K H a xs∧SqT K H b ys∧xs≠[]∧xs.length + ys.length≤sizeLine ∧
 (ys=[]→Q (.ref a) H)∧(ys≠[]→∀ p,H p=none→Q (.ref p) (upd H p (.tup (xs ++ ys))))
theorem Vals.nil_iff {xs:List V} {us:List Value} (r:Vals xs us):us=[]↔xs=[]:=by
 cases r with
 | nil=>simp
 | cons _ _=>simp
theorem zaP:OpR X (binaryOp .Add) (XH X.K):=by
 intro pins s σ H x y v u Q I rx ry h
 obtain ⟨a,b,xs,ys,rfl,rfl,ha,hb,hx,hz,q1,q2⟩:=h
 cases rx
 cases ry
 obtain ⟨its,r1,p1,_⟩:=I.tuple ha
 obtain ⟨its2,r2,p2,_⟩:=I.tuple hb
 refine HT.cat_tup p1 p2 (fun z=>hx (r1.nil_iff.mp z)) (fun z=>⟨.ref a,H,I,rfl,q1 (r2.nil_iff.mp z)⟩) (fun z=>?_) (by rw [← r1.length,← r2.length];exact hz)
 refine ⟨.ref s.heap.objs.size,_,I.laid (t':=s.toks) (o:=.tup (xs ++ ys)) (fun b ob q=>Heap.get?_push_of_some _ q) (Nat.le_refl _) ?_,rfl,q2 (fun w=>z (r2.nil_iff.mpr w)) _ (I.hok.fresh (Nat.le_refl _))⟩
 exact ⟨by rw [List.length_append];exact hz,_,r1.append r2,IsTup.new _ _⟩
end
end L2
namespace L2
open PySem PySem.Spec PyProof.Rows
def ixN (n:Nat) (i:Int):Option Nat:=if 0≤i then (if i < n then some i.toNat else none) else if -(n:Int)≤i then some (i + n).toNat else none
def atI {α:Type} (xs:List α) (i:Int):Option α:=(ixN xs.length i).bind fun j=>xs[j]?
theorem zaQ {n:Nat} {i:Int} {j:Nat} (h:ixN n i=some j):seqIndex? i n=some j∧j < n∧-(n:Int)≤i∧i < n:=by
 unfold ixN at h
 by_cases h0:0≤i
 ·rw [if_pos h0] at h
  by_cases h1:i < n
  ·rw [if_pos h1] at h
   have e:i.toNat=j:=Option.some.inj h
   exact ⟨by rw [seqIndex_of h0 h1,e],by lia,by lia,h1⟩
  ·rw [if_neg h1] at h;cases h
 ·rw [if_neg h0] at h
  by_cases h1:-(n:Int)≤i
  ·rw [if_pos h1] at h
   have e:(i + n).toNat=j:=Option.some.inj h
   exact ⟨by rw [seqIndex_neg (by lia) h1,e],by lia,h1,by lia⟩
  ·rw [if_neg h1] at h;cases h
theorem Wh {α:Type} {xs:List α} {i:Int} {v:α} (h:atI xs i=some v):∃ j,seqIndex? i xs.length=some j∧xs[j]?=some v∧j < xs.length∧-(xs.length:Int)≤i∧i < xs.length:=by
 unfold atI at h
 cases e:ixN xs.length i with
 | none=>rw [e] at h;cases h
 | some j =>
  rw [e] at h
  obtain ⟨h1,h2,h3,h4⟩:=zaQ e
  exact ⟨j,h1,h,h2,h3,h4⟩
def zaR (b:Expr):Prop:=∀ o i,subscripted b false o i=operate [o,i] (getItem o i)
def IxR (X:Cx) (r:R2):Prop :=
 ∀ (value slice:Expr) (pins:List (Addr × Obj)) (s:Shared) (σ:St) (H:Hp) (x y:V) (v u:Value) (Q:VK),Inv X pins σ H s→RelV x v→RelV y u→r x y H Q →
  subscripted slice false v u=operate [v,u] (getItem v u)→wpAny (model X.prog X.w) X.A (subscriptTail value slice v u) (EP X pins σ Q) X.xe s
def MtR (X:Cx) (id:String) (r:V→List V→Hp→VK→Prop):Prop :=
 ∀ (pins:List (Addr × Obj)) (s:Shared) (σ:St) (H:Hp) (x:V) (xs:List V) (v:Value) (us:List Value) (Q:VK),Inv X pins σ H s→RelV x v→Vals xs us→r x xs H Q →
  wpAny (model X.prog X.w) X.A (call (.builtin id) (v :: us)) (EP X pins σ Q) X.xe s
section
variable {X:Cx} {a b:Expr} {ta tb:TE} {pos:Pos}
theorem zL {r:R2} (hr:IxR X r) (ha:PE X a ta) (hb:PE X b tb) (hs:zaR b):PE X (.Subscript a b pos) (tOp r ta tb):=by
 intro pins s σ H Q I h
 exact Subscript_ (zb3 ha hb I h fun v u s2 x y H2 I2 rx ry q=>hr a b pins s2 σ H2 x y v u Q I2 rx ry q (hs _ _))
def yo (K:W.Frag):R2:=fun x y H Q=>∃ p xs i v,x=.ref p∧y=.int i∧SqL K H p xs∧atI xs i=some v∧Q v H
def zT (K:W.Frag):R2:=fun x y H Q=>∃ p xs i v,x=.ref p∧y=.int i∧SqT K H p xs∧atI xs i=some v∧Q v H
def Yk:R2:=fun x y H Q=>∃ z i c,x=.str z∧y=.int i∧z.length≤sizeLine∧atI z.cps.toList i=some c∧Q (.str ⟨#[c]⟩) H
theorem z0:IxR X (yo X.K):=by
 intro value slice pins s σ H x y v u Q I rx ry h hs
 obtain ⟨p,xs,i,z,rfl,rfl,hq,he,q⟩:=h
 cases rx
 obtain ⟨t,rfl⟩:=ry
 obtain ⟨its,r,pl,hz⟩:=I.list hq
 obtain ⟨j,h1,h2,h3,h4,h5⟩:=Wh he
 obtain ⟨w,ew,rw'⟩:=r.get h2
 have hl:=r.length
 have hn:=Wf
 have fin:EP X pins σ Q w s:=⟨z,H,I,rw',q⟩
 by_cases h0:0≤i
 ·have hj:i.toNat=j:=by
   rw [seqIndex_of h0 h5] at h1
   exact Option.some.inj h1
  exact item_listR pl.isList h0 (by lia) (by rw [hj];simpa using ew) fin hs
 ·have hj:(i + (its.toArray.size:Int)).toNat=j:=by
   rw [seqIndex_neg (by lia) h4] at h1
   rw [List.size_toArray,← hl]
   exact Option.some.inj h1
  exact subscriptTail_builtinR (x:=w) pl.isList.typeIs slot_list_getitem.lookup
   (wpAny_getItem_list_neg (Q:=fun r s'=>r=w∧EP X pins σ Q r s') pl.isList (by lia) (by rw [List.size_toArray] <;> lia) (by lia) (by rw [hj];simpa using ew) ⟨rfl,fin⟩) hs
theorem z6:IxR X (zT X.K):=by
 intro value slice pins s σ H x y v u Q I rx ry h hs
 obtain ⟨p,xs,i,z,rfl,rfl,hq,he,q⟩:=h
 cases rx
 obtain ⟨t,rfl⟩:=ry
 obtain ⟨its,r,pl,hz⟩:=I.tuple hq
 obtain ⟨j,h1,h2,h3,h4,h5⟩:=Wh he
 obtain ⟨w,ew,rw'⟩:=r.get h2
 have hl:=r.length
 have hn:=Wf
 have fin:EP X pins σ Q w s:=⟨z,H,I,rw',q⟩
 exact subscriptTail_builtinR (x:=w) pl.typeIs slot_tuple_getitem.lookup
  (getItem_tuple (j:=j) (Q:=fun r s'=>r=w∧EP X pins σ Q r s') pl (by lia) (by lia) (by rw [List.size_toArray,← hl];exact h1) (by simpa using ew) ⟨rfl,fin⟩) hs
theorem Qz:IxR X Yk:=by
 intro value slice pins s σ H x y v u Q I rx ry h hs
 obtain ⟨z,i,c,rfl,rfl,hz,he,q⟩:=h
 obtain ⟨t,rfl⟩:=rx
 obtain ⟨t',rfl⟩:=ry
 obtain ⟨j,h1,h2,h3,h4,h5⟩:=Wh he
 have hl:z.cps.toList.length=z.length:=by simp [Str.length]
 rw [hl] at h1 h4 h5
 have hn:=Wf
 exact tail_any (typeIs_str s z t) slot_str_getitem.lookup (getItem_str (c:=c) (by
  have e1:decide (i < -(2 ^ 63:Int))=false:=decide_eq_false (by lia)
  have e2:decide (i ≥ 2 ^ 63)=false:=decide_eq_false (by lia)
  rw [e1,e2,Bool.or_false]) (by rw [h1];simpa using h2) ⟨.str ⟨#[c]⟩,H,I.tok _,⟨_,rfl⟩,q⟩) hs
theorem Wi (lo hi:Option Int) (n:Nat):(sliceBounds lo hi none n).1=((HT.sIx n 0 lo:Nat):Int)∧(sliceBounds lo hi none n).2.1=((HT.sIx n n hi:Nat):Int)∧(sliceBounds lo hi none n).2.2=1:=by
 refine ⟨?_,?_,rfl⟩
 ·cases lo with
  | none=>simp [sliceBounds,HT.sIx]
  | some i =>
   simp only [sliceBounds,HT.sIx,Option.getD_none,show (1:Int) > 0 by decide,if_true]
   by_cases h:i < 0
   ·simp only [h,if_true] <;> lia
   ·simp only [h,if_false] <;> lia
 ·cases hi with
  | none=>simp [sliceBounds,HT.sIx]
  | some i =>
   simp only [sliceBounds,HT.sIx,Option.getD_none,show (1:Int) > 0 by decide,if_true]
   by_cases h:i < 0
   ·simp only [h,if_true] <;> lia
   ·simp only [h,if_false] <;> lia
theorem Xe (its:List Value) (lo hi:Option Int):slicePick its.toArray lo hi none=((its.drop (HT.sIx its.length 0 lo)).take (HT.sIx its.length its.length hi - HT.sIx its.length 0 lo)).toArray:=by
 obtain ⟨h1,h2,h3⟩:=Wi lo hi its.toArray.size
 unfold slicePick
 rw [h1,h2,h3]
 simp only [sliceRange_one,pick_run,List.size_toArray] <;> rfl
def KN (K:W.Frag):V→Option Int→Option Int→Hp→VK→Prop:=fun x lo hi H Q=>∃ a xs,x=.ref a∧SqL K H a xs∧∀ p,H p=none→Q (.ref p) (upd H p (.lst (Wg xs lo hi)))
theorem JV:SlR X (KN X.K):=by
 intro pins s σ H x v vl vu lo hi sl Q I rx hs pl pu h
 obtain ⟨a,xs,rfl,hx,q⟩:=h
 cases rx
 obtain ⟨its,r,ht,hz⟩:=I.list hx
 have hlen:=r.length
 refine ⟨"list",_,slot_list_getitem.lookup,ht.isList.typeIs,?_⟩
 refine wpAny_getItem_list_slice ht.isList hs pl pu .none (by simp) ?_ (by rw [List.size_toArray] <;> lia)
 rw [Xe,← hlen]
 refine ⟨.ref s.heap.objs.size,_,I.laid (t':=s.toks) (o:=.lst (Wg xs lo hi)) (fun b ob q=>Heap.get?_push_of_some _ q) (Nat.le_refl _) ?_,rfl,q _ (I.hok.fresh (Nat.le_refl _))⟩
 exact ⟨Nat.le_trans (W4 xs lo hi) hz,_,0,(r.drop (HT.sIx xs.length 0 lo)).take (HT.sIx xs.length xs.length hi - HT.sIx xs.length 0 lo),Heap.get?_push_size _ rfl⟩
def qe:V→Bool
 | .non=>true
 | .bl _=>true
 | .int _=>true
 | .str _=>true
 | _=>false
def eqV:V→V→Bool
 | .non,.non=>true
 | .bl a,.bl b=>a == b
 | .bl a,.int b=>(if a then 1 else 0) == b
 | .int a,.bl b=>a == (if b then 1 else 0)
 | .int a,.int b=>a == b
 | .str a,.str b=>a == b
 | _,_=>false
theorem zb5 {A:Around} {s:Shared} {y x:V} {u v:Value} (ry:RelV y u) (rx:RelV x v) (fy:qe y=true) (fx:qe x=true):SeqAt.EqAt A s u v (eqV y x):=by
 cases y with
 | non =>
  cases ry
  cases x with
  | non=>cases rx;exact SeqAt.EqAt.same _
  | bl b=>cases rx;exact SeqAt.EqAt.none_bool b
  | int b=>obtain ⟨t,rfl⟩:=rx;exact SeqAt.EqAt.none_int b t
  | str b=>obtain ⟨t,rfl⟩:=rx;exact SeqAt.EqAt.none_str b t
  | _=>exact absurd (show false=true from fx) Bool.false_ne_true
 | bl a =>
  cases ry
  cases x with
  | non=>cases rx;exact SeqAt.EqAt.bool_none a
  | bl b=>cases rx;exact SeqAt.EqAt.bool_bool a b
  | int b=>obtain ⟨t,rfl⟩:=rx;exact SeqAt.EqAt.bool_int a b t
  | str b=>obtain ⟨t,rfl⟩:=rx;exact SeqAt.EqAt.bool_str a b t
  | _=>exact absurd (show false=true from fx) Bool.false_ne_true
 | int a =>
  obtain ⟨t',rfl⟩:=ry
  cases x with
  | non=>cases rx;exact SeqAt.EqAt.int_none a t'
  | bl b=>cases rx;exact SeqAt.EqAt.int_bool a t' b
  | int b=>obtain ⟨t,rfl⟩:=rx;exact SeqAt.EqAt.int_int a t' b t
  | str b=>obtain ⟨t,rfl⟩:=rx;exact SeqAt.EqAt.int_str a t' b t
  | _=>exact absurd (show false=true from fx) Bool.false_ne_true
 | str a =>
  obtain ⟨t',rfl⟩:=ry
  cases x with
  | non=>cases rx;exact SeqAt.EqAt.str_none a t'
  | bl b=>cases rx;exact SeqAt.EqAt.str_bool a t' b
  | int b=>obtain ⟨t,rfl⟩:=rx;exact SeqAt.EqAt.str_int a t' b t
  | str b=>obtain ⟨t,rfl⟩:=rx;exact SeqAt.EqAt.str_str a t' b t
  | _=>exact absurd (show false=true from fx) Bool.false_ne_true
 | _=>exact absurd (show false=true from fy) Bool.false_ne_true
def eqU (x:V) (u:Value):Bool:=match u with
 | .none=>eqV .non x
 | .bool b=>eqV (.bl b) x
 | .int i _=>eqV (.int i) x
 | .str z _=>eqV (.str z) x
 | _=>false
theorem QA {x y:V} {u:Value} (r:RelV y u) (f:qe y=true):eqU x u=eqV y x:=by
 cases y with
 | non=>cases r;rfl
 | bl b=>cases r;rfl
 | int i=>obtain ⟨t,rfl⟩:=r;rfl
 | str z=>obtain ⟨t,rfl⟩:=r;rfl
 | _=>exact absurd (show false=true from f) Bool.false_ne_true
theorem Wj {x:V}:∀ {xs:List V} {us:List Value},Vals xs us→xs.all qe=true→us.any (eqU x)=xs.any fun y=>eqV y x
 | _,_,.nil,_=>rfl
 | y :: xs,u :: us,.cons r t,f=>by
  rw [List.all_cons,Bool.and_eq_true] at f
  rw [List.any_cons,List.any_cons,QA r f.1,Wj t f.2]
theorem Yl {A:Around} {s:Shared} {x:V} {v:Value} (rx:RelV x v) (fx:qe x=true):∀ {xs:List V} {us:List Value},Vals xs us→xs.all qe=true→∀ u∈us,SeqAt.EqAt A s u v (eqU x u)
 | _,_,.nil,_=>fun u hu=>by cases hu
 | y :: xs,u :: us,.cons r t,f=>fun u' hu=>by
  rw [List.all_cons,Bool.and_eq_true] at f
  rcases List.mem_cons.mp hu with rfl | hu
  ·rw [QA r f.1];exact zb5 r rx f.1 fx
  ·exact Yl rx fx t f.2 u' hu
def inV (x:V) (xs:List V):Bool:=xs.any fun y=>eqV y x
def rIn (K:W.Frag) (neg:Bool):R2:=fun x y H Q=>∃ p xs,y=.ref p∧(SqL K H p xs∨SqT K H p xs)∧qe x=true∧xs.all qe=true∧Q (.bl (if neg then !inV x xs else inV x xs)) H
theorem jf:OpR X (compareOp .In) (rIn X.K false):=by
 intro pins s σ H x y v u Q I rx ry h
 obtain ⟨p,xs,rfl,hq,fx,fs,q⟩:=h
 cases ry
 rcases hq with hq | hq
 ·obtain ⟨its,r,pl,hz⟩:=I.list hq
  refine SeqAt.in_listAt (eqU x) pl.isList (fun w hw=>Yl rx fx r fs w (by simpa using hw)) ⟨.bl _,H,I,rfl,?_⟩
  rw [show its.toArray.any (eqU x)=its.any (eqU x) by simp,Wj r fs]
  exact q
 ·obtain ⟨its,r,pl,hz⟩:=I.tuple hq
  refine SeqAt.in_tupleAt (eqU x) pl (fun w hw=>Yl rx fx r fs w (by simpa using hw)) ⟨.bl _,H,I,rfl,?_⟩
  rw [show its.toArray.any (eqU x)=its.any (eqU x) by simp,Wj r fs]
  exact q
theorem qS:je X (.type "list") (fun xs H Q=>∃ p ys,xs=[.ref p]∧(SqL X.K H p ys∨SqT X.K H p ys)∧∀ l,H l=none→Q (.ref l) (upd H l (.lst ys))):=by
 intro pins s σ H xs us Q I r h
 obtain ⟨p,ys,rfl,hq,q⟩:=h
 obtain ⟨u,rfl,rx⟩:=qP r
 cases rx
 have fin:∀ (its:List Value),Vals ys its→ys.length≤sizeLine→∀ (h':Heap) (c':Nat),(∀ b o',s.heap.get? b=some o'→h'.get? b=some o') →
   h'.get? s.heap.objs.size=some { cls:=.type "list",dict:=none,data:=.seq its.toArray c',slots:=#[] }→EP X pins σ Q (.ref s.heap.objs.size) { s with heap:=h' }:=fun its r' hz h' c' kp e =>
  ⟨.ref s.heap.objs.size,_,I.laid (t':=s.toks) kp (Nat.le_refl _) (show ObjOk X.prog X.w _ h' _ (.lst ys) from ⟨hz,its,c',r',e⟩),rfl,q _ (I.hok.fresh (Nat.le_refl _))⟩
 rcases hq with hq | hq
 ·obtain ⟨its,r',pl,hz⟩:=I.list hq
  have hlen:=r'.length
  obtain ⟨o,ho,hc,n,hd⟩:=pl.isList
  exact call_list_seq p (.inl rfl) ho hc hd (fun h' c' kp e=>fin its r' hz h' c' kp e) (by simp only [List.size_toArray] <;> lia)
 ·obtain ⟨its,r',pl,hz⟩:=I.tuple hq
  have hlen:=r'.length
  obtain ⟨o,ho,hc,n,hd⟩:=pl
  exact call_list_seq p (.inr rfl) ho hc hd (fun h' c' kp e=>fin its r' hz h' c' kp e) (by simp only [List.size_toArray] <;> lia)
theorem qf:je X (.type "tuple") (fun xs H Q=>∃ p ys,xs=[.ref p]∧((SqL X.K H p ys∧∀ l,H l=none→Q (.ref l) (upd H l (.tup ys)))∨(SqT X.K H p ys∧Q (.ref p) H))):=by
 intro pins s σ H xs us Q I r h
 obtain ⟨p,ys,rfl,h⟩:=h
 obtain ⟨u,rfl,rx⟩:=qP r
 cases rx
 rcases h with ⟨hq,q⟩ | ⟨hq,q⟩
 ·obtain ⟨its,r',pl,hz⟩:=I.list hq
  have hlen:=r'.length
  refine call_tuple_list pl.isList (fun h' kp=>?_) (by simp only [List.size_toArray] <;> lia)
  have I1:Inv X pins σ H { s with heap:=h' }:=I.kept (t':=s.toks) kp
  have I2:Inv X pins σ (upd H h'.objs.size (.tup ys)) { s with heap:=h'.push { cls:=.type "tuple",data:=.seq its.toArray } } :=
   I1.laid (t':=s.toks) (fun b o e=>Heap.get?_push_of_some _ e) (Nat.le_refl _) (show ObjOk X.prog X.w _ _ _ (.tup ys) from ⟨hz,its,r',IsTup.new _ _⟩)
  exact ⟨.ref h'.objs.size,_,I2,rfl,q _ (I1.hok.fresh (Nat.le_refl _))⟩
 ·obtain ⟨its,r',pl,hz⟩:=I.tuple hq
  exact call_tuple_same pl ⟨.ref p,H,I,rfl,q⟩
def tyV (K:W.Frag) (T:String) (x:V) (H:Hp):Prop:=match x with
 | .str _=>T="str"
 | .int _=>T="int"
 | .ref p=>(T="list"∧∃ xs,SqL K H p xs)∨(T="tuple"∧∃ o,K.lookup p=some o∧o.cls=.type "tuple"∧o.dict=none) ∨
   (T="dict"∧((∃ kvs,H p=some (.dK kvs))∨∃ kvs,H p=some (.dT kvs)))∨(T="set"∧∃ S n,H p=some (.set S n))
 | _=>False
theorem QB {pins:List (Addr × Obj)} {σ:St} {H:Hp} {s:Shared} {T:String} {x:V} {v:Value} (I:Inv X pins σ H s) (r:RelV x v) (ty:tyV X.K T x H) :
  s.TypeIs v T∧∀ a,v=.ref a→∃ ob,s.heap.get? a=some ob∧ob.dict=none:=by
 cases x with
 | str z =>
  obtain ⟨t,rfl⟩:=r
  cases (show T="str" from ty)
  exact ⟨typeIs_str s z t,fun _ e=>nomatch e⟩
 | int i =>
  obtain ⟨t,rfl⟩:=r
  cases (show T="int" from ty)
  exact ⟨typeIs_int s i t,fun _ e=>nomatch e⟩
 | ref p =>
  cases r
  rcases ty with ⟨rfl,xs,hq⟩ | ⟨rfl,o,hk,hc,hd⟩ | ⟨rfl,hk⟩ | ⟨rfl,S,n,hk⟩
  ·obtain ⟨its,_,pl,_⟩:=I.list hq
   refine ⟨pl.isList.typeIs,fun a e=>?_⟩
   cases e
   obtain ⟨o,n,e,c,hd,_⟩:=pl
   exact ⟨o,e,hd⟩
  ·refine ⟨⟨o,I.kIn p o hk,hc⟩,fun a e=>?_⟩
   cases e
   exact ⟨o,I.kIn _ o hk,hd⟩
  ·have z:∃ o,s.heap.get? p=some o∧o.ExactDict:=by
    rcases hk with ⟨kvs,hk⟩ | ⟨kvs,hk⟩
    ·obtain ⟨_,_,_,_,o,_,_,e,ex,_⟩:=I.hok p _ hk
     exact ⟨o,e,ex⟩
    ·obtain ⟨_,_,_,_,o,_,_,e,ex,_⟩:=I.hok p _ hk
     exact ⟨o,e,ex⟩
   obtain ⟨o,e,ex⟩:=z
   refine ⟨⟨o,e,ex.1⟩,fun a e2=>?_⟩
   cases e2
   exact ⟨o,e,ex.2.1⟩
  ·obtain ⟨o,_,_,_,e,ex,_⟩:=I.hok p _ hk
   refine ⟨⟨o,e,ex.1⟩,fun a e2=>?_⟩
   cases e2
   exact ⟨o,e,ex.2.1⟩
 | _=>exact False.elim ty
def qc (K:W.Frag) (T:String) (r:V→List V→Hp→VK→Prop) (to:TE):TE:=fun σ H Q=>to σ H fun x H1=>tyV K T x H1∧r x [] H1 Q
def tBM (K:W.Frag) (T:String) (r:V→List V→Hp→VK→Prop) (to:TE) (t:TA):TE:=fun σ H Q=>to σ H fun x H1=>tyV K T x H1∧t σ H1 fun xs H2=>r x xs H2 Q
variable {o e:Expr} {es:List Expr} {to:TE} {t:TA} {name:Str} {apos cpos:Pos} {T id:String} {r:V→List V→Hp→VK→Prop}
theorem Zl (pa:PlainAttrs T) (slot:Slot T name id) (hty:typeOf (.builtin id)=pure (.type "method_descriptor")) (hm:MtR X id r) (ho:PE X o to)
  (hbase:attributeBase o name X.env (eval o X.env)=eval o X.env:=by rfl) (hline:(apos.endLine == cpos.line)=true:=by rfl):PE X (.Call (.Attribute o name apos) [] [] cpos) (qc X.K T r to):=by
 intro pins s σ H Q I h
 refine wpAny_Call_method0_late hbase hline (thn (ho pins s σ H _ I h) fun v s1 ⟨x,H1,I1,r1,ty,q1⟩=>?_)
 obtain ⟨h1,h2⟩:=QB I1 r1 ty
 exact ⟨T,id,pa,slot,hty,h1,h2,Calls.callWith_builtin rfl (PySem.evalArgs_none (hm pins s1 σ H1 x [] v [] Q I1 r1 .nil q1))⟩
theorem jg (pa:PlainAttrs T) (slot:Slot T name id) (hty:typeOf (.builtin id)=pure (.type "method_descriptor")) (hm:MtR X id r) (ho:PE X o to) (ha:PA X (e :: es) t)
  (hbase:attributeBase o name X.env (eval o X.env)=eval o X.env:=by rfl)
  (hfew:((backTo cpos (starEach (e :: es) X.env)).all (fun x=>!x.1) && (backToKw cpos (keywordEach [] X.env)).all (fun x=>x.1.isSome)
   && decide ((e :: es).length + ([]:List Keyword).length + (if ([]:List Keyword).isEmpty then 0 else 1) < 30))=true:=by rfl)
  (hline:(apos.endLine == cpos.line)=true:=by rfl) (hs:starEach (e :: es) X.env=(false,eval e X.env) :: starEach es X.env:=by rfl) (hplain:(backTo cpos (starEach es X.env)).any (·.1)=false:=by rfl) :
  PE X (.Call (.Attribute o name apos) (e :: es) [] cpos) (tBM X.K T r to t):=by
 intro pins s σ H Q I h
 refine wpAny_Call_method_late hbase hfew hline rfl (thn (ho pins s σ H _ I h) fun v s1 ⟨x,H1,I1,r1,ty,q1⟩=>?_)
 obtain ⟨h1,h2⟩:=QB I1 r1 ty
 refine ⟨T,id,pa,slot,hty,h1,h2,?_⟩
 have hA:=ha cpos pins s1 σ H1 _ I1 q1
 rw [hs] at hA ⊢
 refine Calls.callWith_builtin (by show (false || (backTo cpos (starEach es X.env)).any (·.1))=false;rw [hplain] <;> rfl) (Calls.evalArgs_plain ?_)
 exact thn hA fun us s2 ⟨vs,H2,I2,r2,q2⟩=>hm pins s2 σ H2 x vs v us Q I2 r1 r2 q2
end
end L2
namespace L2
open PySem PySem.Spec PyProof.Rows
def MtM (X:Cx) (id:String) (r:V→List V→Hp→VK→Prop):Prop :=
 ∀ (pins:List (Addr × Obj)) (s:Shared) (σ:St) (H:Hp) (x:V) (xs:List V) (v:Value) (us:List Value) (Q:VK),Inv X pins σ H s→RelV x v→Vals xs us→r x xs H Q →
  wpAny (model X.prog X.w) X.A (call (.builtin id) (v :: us)) (EP X pins σ Q) X.xe s
theorem Vals.one:∀ {x:V} {us:List Value},Vals [x] us→∃ u,us=[u]∧RelV x u
 | _,_,.cons r .nil=>⟨_,rfl,r⟩
theorem Vals.zero:∀ {us:List Value},Vals [] us→us=[]
 | _,.nil=>rfl
theorem Vals.dropLast {xs:List V} {us:List Value} (h:Vals xs us):Vals xs.dropLast us.dropLast:=by
 induction h with
 | nil=>exact .nil
 | cons r t ih =>
  cases t with
  | nil=>exact .nil
  | cons q t'=>exact .cons r ih
theorem Jn {α:Type} (l:List α):l.eraseIdx (l.length - 1)=l.dropLast:=by
 induction l with
 | nil=>rfl
 | cons a r ih =>
  cases r with
  | nil=>rfl
  | cons b r =>
   have e:(a :: b :: r).length - 1=((b :: r).length - 1) + 1:=by
    have h1:(a :: b :: r).length=r.length + 2:=rfl
    have h2:(b :: r).length=r.length + 1:=rfl
    lia
   rw [e,List.eraseIdx_cons_succ,ih]
   all_goals rfl
section
variable {X:Cx} {pins:List (Addr × Obj)} {σ:St} {H:Hp} {s:Shared} {l b:Addr} {xs ys zs:List V}
theorem Inv.lset {its its':List Value} {n:Nat} {f:Array Value→Array Value} {t':Nat} (I:Inv X pins σ H s) (hH:H l=some (.lst xs))
  (e:s.heap.get? l=some { cls:=.type "list",data:=.seq its.toArray n }) (hf:f its.toArray=its'.toArray) (hv:Vals ys its') (hz:ys.length≤sizeLine) :
  Inv X pins σ (upd H l (.lst ys)) { s with heap:=s.heap.update l (Obj.mapSeq f),toks:=t' }:=by
 have q:=PySem.IsL.update e f
 rw [hf] at q
 refine I.write (x:=l) (e:=l) (by rw [hH];exact trivial) (.inl rfl) (fun b' u hb hu=>(Heap.get?_update_other s.heap (Obj.mapSeq f) (Ne.symm hb)).trans hu) ⟨_,q⟩ ?_
 exact ⟨hz,its',_,hv,q⟩
theorem Inv.lnew {its:List Value} {t':Nat} (I:Inv X pins σ H s) (hv:Vals ys its) (hz:ys.length≤sizeLine) :
  Inv X pins σ (upd H s.heap.objs.size (.lst ys)) { s with heap:=s.heap.push { cls:=.type "list",data:=.seq its.toArray },toks:=t' } :=
 I.laid (fun _ _ q=>Heap.get?_push_of_some _ q) (Nat.le_refl _) ⟨hz,its,0,hv,Heap.get?_push_size _ rfl⟩
theorem Inv.fresh (I:Inv X pins σ H s):H s.heap.objs.size=none:=I.hok.fresh (Nat.le_refl _)
theorem Inv.lstM (I:Inv X pins σ H s) (hH:H l=some (.lst xs)):xs.length≤sizeLine∧∃ (its:List Value) (n:Nat),Vals xs its∧xs.length=its.length∧s.heap.get? l=some { cls:=.type "list",data:=.seq its.toArray n }:=by
 obtain ⟨z,its,n,r,e⟩:=I.hok l _ hH
 exact ⟨z,its,n,r,r.length,e⟩
end
section
variable {X:Cx}
def zP:V→List V→Hp→VK→Prop:=fun x vs H Q=>∃ l xs y,x=.ref l∧vs=[y]∧H l=some (.lst xs)∧xs.length < sizeLine∧Q .non (upd H l (.lst (xs ++ [y])))
theorem yr:MtM X "list.append" zP:=by
 intro pins s σ H x vs v us Q I rx rv h
 obtain ⟨l,xs,y,rfl,rfl,hH,hz,q⟩:=h
 cases rx
 obtain ⟨u,rfl,ru⟩:=rv.one
 obtain ⟨z,its,n,r,hl,e⟩:=I.lstM hH
 refine call_meets F.slot_list_append ⟨_,e,rfl⟩ F.entry_list_append (F.args_list_append_2 _ _) (PySem.list_append l its.toArray n u (by rw [List.size_toArray];lia)) ⟨e,?_⟩
 refine ⟨.non,_,I.lset (its':=its ++ [u]) hH e (by simp) (r.append (.cons ru .nil)) ?_,rfl,q⟩
 rw [List.length_append,List.length_singleton]
 lia
def zaS:V→List V→Hp→VK→Prop:=fun x vs H Q=>∃ l b xs zs,x=.ref l∧vs=[.ref b]∧H l=some (.lst xs)∧H b=some (.lst zs)∧xs.length + zs.length≤sizeLine∧Q .non (upd H l (.lst (xs ++ zs)))
def Ym:V→List V→Hp→VK→Prop:=fun x vs H Q=>∃ l xs y,x=.ref l∧vs=[]∧H l=some (.lst xs)∧xs[xs.length - 1]?=some y∧Q y (upd H l (.lst xs.dropLast))
theorem Zm:MtM X "list.pop" Ym:=by
 intro pins s σ H x vs v us Q I rx rv h
 obtain ⟨l,xs,y,rfl,rfl,hH,hy,q⟩:=h
 cases rx
 have hus:=rv.zero
 subst hus
 obtain ⟨z,its,n,r,hl,e⟩:=I.lstM hH
 obtain ⟨u,hu,ru⟩:=r.get hy
 have hy':its.toArray[its.toArray.size - 1]?=some u:=by
  show its.toArray[its.length - 1]?=some u
  rw [← Array.getElem?_toList,← hl]
  exact hu
 refine call_meets F.slot_list_pop ⟨_,e,rfl⟩ F.entry_list_pop (F.args_list_pop_1 _) (MeetsSeq.list_pop_last l its.toArray n u hy' (by rw [List.size_toArray];lia)) ⟨e,?_⟩
 refine ⟨y,_,I.lset (its':=its.dropLast) hH e ?_ r.dropLast ?_,ru,q⟩
 ·show its.toArray.eraseIdxIfInBounds (its.toArray.size - 1)=its.dropLast.toArray
  rw [List.size_toArray,List.eraseIdxIfInBounds_toArray,Jn]
 ·rw [List.length_dropLast]
  lia
def zb6:V→List V→Hp→VK→Prop:=fun x vs H Q=>∃ l xs,x=.ref l∧vs=[]∧H l=some (.lst xs)∧Q .non (upd H l (.lst []))
def zdR:R2:=fun x y H Q=>∃ l b xs zs,x=.ref l∧y=.ref b∧H l=some (.lst xs)∧H b=some (.lst zs)∧xs.length + zs.length≤sizeLine∧∀ p,H p=none→Q (.ref p) (upd H p (.lst (xs ++ zs)))
def zdS:R2:=fun x y H Q=>∃ l k xs,x=.ref l∧y=.int k∧H l=some (.lst xs)∧-(2 ^ 63)≤k∧k < 2 ^ 63∧xs.length * k.toNat≤sizeLine ∧
 ∀ p,H p=none→Q (.ref p) (upd H p (.lst (List.replicate k.toNat xs).flatten))
end
section
variable {prog:Program} {w:World} {A:Around} {E:Value→Shared→Prop} {s:Shared}
set_option maxRecDepth 100000 in
end
section
variable {X:Cx}
end
end L2
namespace L2
open PySem PySem.Spec PyProof.Rows
section
variable {κ:Type} [DecidableEq κ]
def yB (kvs:List (κ × V)) (k:κ):Option V:=(kvs.find? fun kv=>decide (kv.1=k)).map (·.2)
def yT (kvs:List (κ × V)) (k:κ) (v:V):List (κ × V) :=
 if (kvs.any fun kv=>decide (kv.1=k))=true then kvs.map (fun kv=>if kv.1=k then (kv.1,v) else kv) else kvs ++ [(k,v)]
def XI (kvs:List (κ × V)) (k:κ):List (κ × V):=kvs.filter fun kv=>decide (kv.1≠k)
theorem Yn {k:κ}:yB ([]:List (κ × V)) k=none:=rfl
theorem xh {p:κ × V} {r:List (κ × V)} {k:κ} (e:p.1=k):yB (p :: r) k=some p.2:=by simp [yB,List.find?_cons,e]
theorem xi {p:κ × V} {r:List (κ × V)} {k:κ} (e:¬ p.1=k):yB (p :: r) k=yB r k:=by simp [yB,List.find?_cons,e]
theorem wR (k:κ):∀ kvs:List (κ × V),(kvs.any fun kv=>decide (kv.1=k))=(yB kvs k).isSome
 | []=>rfl
 | p :: r=>by
  rw [List.any_cons]
  by_cases e:p.1=k
  ·simp only [xh e,decide_eq_true e,Bool.true_or,Option.isSome_some]
  ·rw [xi e,decide_eq_false e,Bool.false_or];exact wR k r
theorem W5 (k j:κ) (y:V):∀ kvs:List (κ × V),yB (kvs.map fun kv=>if kv.1=k then (kv.1,y) else kv) j=(yB kvs j).map fun x=>if j=k then y else x
 | []=>rfl
 | p :: r=>by
  have ih:=W5 k j y r
  rw [List.map_cons]
  by_cases h:p.1=k
  ·rw [if_pos h]
   by_cases e:p.1=j
   ·rw [xh (p:=(p.1,y)) e,xh e,Option.map_some,if_pos (e.symm.trans h)]
   ·rw [xi (p:=(p.1,y)) e,xi e,ih]
  ·rw [if_neg h]
   by_cases e:p.1=j
   ·rw [xh (p:=p) e,xh e,Option.map_some,if_neg (fun z=>h (e.trans z))]
   ·rw [xi (p:=p) e,xi e,ih]
theorem XJ (k j:κ) (y:V):∀ kvs:List (κ × V),yB kvs k=none→yB (kvs ++ [(k,y)]) j=if j=k then some y else yB kvs j
 | [],_=>by
  by_cases e:k=j
  ·rw [if_pos e.symm];exact xh (p:=(k,y)) e
  ·rw [if_neg (fun z=>e z.symm)];exact xi (p:=(k,y)) e
 | p :: r,hn=>by
  rw [List.cons_append]
  have hk:¬ p.1=k:=fun z=>by rw [xh z] at hn;cases hn
  rw [xi hk] at hn
  have ih:=XJ k j y r hn
  by_cases e:p.1=j
  ·rw [xh e,xh e,if_neg (fun z=>hk (e.trans z))]
  ·rw [xi e,xi e,ih]
theorem W6 (kvs:List (κ × V)) (k j:κ) (y:V):yB (yT kvs k y) j=if j=k then some y else yB kvs j:=by
 unfold yT
 by_cases a:(kvs.any fun kv=>decide (kv.1=k))=true
 ·rw [if_pos a,W5]
  rw [wR] at a
  by_cases e:j=k
  ·obtain ⟨x,hx⟩:=Option.isSome_iff_exists.mp a
   rw [if_pos e,e,hx,Option.map_some,if_pos rfl]
  ·rw [if_neg e]
   cases yB kvs j with
   | none=>rfl
   | some x=>rw [Option.map_some,if_neg e]
 ·rw [if_neg a]
  refine XJ k j y kvs ?_
  rw [wR] at a
  cases q:yB kvs k with
  | none=>rfl
  | some x=>rw [q] at a;exact (a rfl).elim
theorem xS (kvs:List (κ × V)) (k:κ) (v:V):(yT kvs k v).length≤kvs.length + 1:=by
 unfold yT
 split
 ·rw [List.length_map];lia
 ·rw [List.length_append,List.length_cons,List.length_nil];lia
theorem W7 {kvs:List (κ × V)} {k:κ} (v:V) (h:yB kvs k=none):yT kvs k v=kvs ++ [(k,v)]:=by
 unfold yT
 rw [wR,h]
 exact if_neg (by decide)
theorem RelO.isSome_eq {o:Option V} {u:Option Value} (r:RelO o u):o.isSome=u.isSome:=by
 cases o with
 | none=>cases u with
  | none=>rfl
  | some _=>exact (show False from r).elim
 | some _=>cases u with
  | none=>exact (show False from r).elim
  | some _=>rfl
theorem RelO.getD {o:Option V} {u:Option Value} {d:V} {d':Value} (r:RelO o u) (rd:RelV d d'):RelV (o.getD d) (u.getD d'):=by
 cases o with
 | none=>cases u with
  | none=>exact rd
  | some _=>exact (show False from r).elim
 | some _=>cases u with
  | none=>exact (show False from r).elim
  | some _=>exact r
theorem KV.val {kvs:List (κ × V)} {vs:List (κ × Value)} (r:KV kvs vs) (k:κ):RelO (yB kvs k) (valueAt vs k):=by
 unfold KV at r
 induction r with
 | nil=>exact True.intro
 | @cons p q ps qs h t ih =>
  obtain ⟨h1,h2⟩:=h
  by_cases e:p.1=k
  ·have e':q.1=k:=h1.symm.trans e
   have b:valueAt (q :: qs) k=some q.2:=by simp [valueAt,List.find?_cons,e']
   rw [xh e,b];exact h2
  ·have e':¬ q.1=k:=fun z=>e (h1.trans z)
   have b:valueAt (q :: qs) k=valueAt qs k:=by simp [valueAt,List.find?_cons,e']
   rw [xi e,b];exact ih
theorem KV.any {kvs:List (κ × V)} {vs:List (κ × Value)} (r:KV kvs vs) (k:κ):(kvs.any fun kv=>decide (kv.1=k))=vs.any fun kv=>decide (kv.1=k):=by
 unfold KV at r
 induction r with
 | nil=>rfl
 | cons h t ih=>rw [List.any_cons,List.any_cons,ih,h.1]
theorem KV.repl {kvs:List (κ × V)} {vs:List (κ × Value)} (r:KV kvs vs) (k:κ) {y:V} {u:Value} (ry:RelV y u) :
  KV (kvs.map fun kv=>if kv.1=k then (kv.1,y) else kv) (vs.map fun kv=>if kv.1=k then (kv.1,u) else kv):=by
 unfold KV at r ⊢
 induction r with
 | nil=>exact .nil
 | @cons p q ps qs h t ih =>
  rw [List.map_cons,List.map_cons]
  refine .cons ?_ ih
  obtain ⟨h1,h2⟩:=h
  by_cases e:p.1=k
  ·rw [if_pos e,if_pos (h1.symm.trans e)];exact ⟨h1,ry⟩
  ·rw [if_neg e,if_neg (fun z=>e (h1.trans z))];exact ⟨h1,h2⟩
theorem KV.put {kvs:List (κ × V)} {vs:List (κ × Value)} (r:KV kvs vs) (k:κ) {y:V} {u:Value} (ry:RelV y u):KV (yT kvs k y) (stored vs k u):=by
 unfold yT stored
 rw [r.any k]
 by_cases e:(vs.any fun kv=>decide (kv.1=k))=true
 ·rw [if_pos e,if_pos e];exact r.repl k ry
 ·rw [if_neg e,if_neg e];exact Paired.snoc r ⟨rfl,ry⟩
theorem KV.length {kvs:List (κ × V)} {vs:List (κ × Value)} (r:KV kvs vs):kvs.length=vs.length:=Paired.length r
end
theorem W8 {P:Program} {w:World} {k:Key} {u:Value} (r:RelV (kV k) u):(yv P w).is k u=true:=by
 cases k with
 | inl i=>obtain ⟨t,e⟩:=(show ∃ t,u=Value.int i t from r);subst e;exact WW P w i t
 | inr x=>obtain ⟨t,e⟩:=(show ∃ t,u=Value.str x t from r);subst e;exact WX P w x t
theorem Zn {P:Program} {w:World}:∀ {ks:List Key} {us:List Value},Vals (ks.map kV) us→ItemsAre (yv P w) ks us
 | [],_,r=>by rw [List.map_nil] at r;cases r;exact .nil
 | k :: ks,_,r=>by
  rw [List.map_cons] at r
  cases r with
  | cons h t=>exact .cons (W8 h) (Zn t)
abbrev KT (H:Hp):List (List Key × V)→List (List Key × Addr × Value)→Prop:=Paired fun p q=>p.1=q.1∧H q.2.1=some (.tup (p.1.map kV))∧RelV p.2 q.2.2
theorem KT.val {H:Hp} {kvs:List (List Key × V)} {xs:List (List Key × Addr × Value)} (r:KT H kvs xs) (k:List Key):RelO (yB kvs k) ((atKey xs k).map (·.2)):=by
 induction r with
 | nil=>exact True.intro
 | @cons p q ps qs h t ih =>
  obtain ⟨h1,_,h2⟩:=h
  by_cases e:p.1=k
  ·have e':q.1=k:=h1.symm.trans e
   have b:atKey (q :: qs) k=some q.2:=by simp [atKey,List.find?_cons,e']
   rw [xh e,b];exact h2
  ·have e':¬ q.1=k:=fun z=>e (h1.trans z)
   have b:atKey (q :: qs) k=atKey qs k:=by simp [atKey,List.find?_cons,e']
   rw [xi e,b];exact ih
theorem KT.repl {H:Hp} {kvs:List (List Key × V)} {xs:List (List Key × Addr × Value)} (r:KT H kvs xs) (k:List Key) {y:V} {u:Value} (ry:RelV y u) :
  KT H (kvs.map fun kv=>if kv.1=k then (kv.1,y) else kv) (xs.map (putAt k u)):=by
 induction r with
 | nil=>exact .nil
 | @cons p q ps qs h t ih =>
  rw [List.map_cons,List.map_cons]
  refine .cons ?_ ih
  obtain ⟨h1,h2,h3⟩:=h
  unfold putAt
  by_cases e:p.1=k
  ·rw [if_pos e,if_pos (h1.symm.trans e)];exact ⟨h1,h2,ry⟩
  ·rw [if_neg e,if_neg (fun z=>e (h1.trans z))];exact ⟨h1,h2,h3⟩
theorem KT.put {H:Hp} {kvs:List (List Key × V)} {xs:List (List Key × Addr × Value)} (r:KT H kvs xs) (k:List Key) {b:Addr} {y:V} {u:Value} (hb:H b=some (.tup (k.map kV))) (ry:RelV y u) :
  KT H (yT kvs k y) (storedH xs k b u):=by
 have e:(kvs.any fun kv=>decide (kv.1=k))=(atKey xs k).isSome:=by
  rw [wR,(r.val k).isSome_eq,Option.isSome_map]
 unfold yT storedH
 rw [e]
 by_cases q:(atKey xs k).isSome=true
 ·rw [if_pos q,if_pos q];exact r.repl k ry
 ·rw [if_neg q,if_neg q];exact Paired.snoc r ⟨rfl,hb,ry⟩
theorem KT.keeps {H H':Hp} {kvs:List (List Key × V)} {xs:List (List Key × Addr × Value)} (r:KT H kvs xs) (ht:∀ b ys,H b=some (.tup ys)→H' b=some (.tup ys)):KT H' kvs xs :=
 Paired.mapP r fun _ _ z=>⟨z.1,ht _ _ z.2.1,z.2.2⟩
section
variable {P:Program} {w:World} {H:Hp} {h:Heap} {a:Addr}
theorem zbH {u:HO} (ok:HOk P w H h) (e:Rd H a u):ObjOk P w H h a u:=e.ok ok
theorem W9 {kvs:List (Key × V)} (ok:HOk P w H h) (e:Rd H a (.dK kvs)):kvs.length≤sizeLine∧(a == sysModules)=false∧∃ vs,KV kvs vs∧h.DictOf (yv P w) a vs :=
 show ObjOk P w H h a (.dK kvs) from zbH ok e
theorem zbI {kvs:List (Key × V)} (ok:HOk P w H h) (e:H a=some (.dK kvs)):kvs.length≤sizeLine∧(a == sysModules)=false∧∃ vs,KV kvs vs∧h.DictOf (yv P w) a vs:=W9 ok (.inl e)
theorem Yo {ks:List Key} (ok:HOk P w H h) (e:H a=some (.tup (ks.map kV))):(tupleKind (yv P w)).is h ks a:=by
 obtain ⟨_,its,r,o,h1,h2,n,h3⟩:=(show ObjOk P w H h a (.tup (ks.map kV)) from ok a _ e)
 exact ⟨o,its.toArray,n,h1,h2,h3,by simpa using Zn r⟩
theorem Va {kvs:List (List Key × V)} (ok:HOk P w H h) (e:Rd H a (.dT kvs)):kvs.length≤sizeLine∧(a == sysModules)=false ∧
  ∃ xs,KT H kvs xs∧h.DictOfH (tupleKind (yv P w)) a xs:=by
 obtain ⟨z,y,xs,r,o,es,ep,h1,h2,h3,h4,h5⟩:=(show ObjOk P w H h a (.dT kvs) from zbH ok e)
 refine ⟨z,y,xs,r,o,es,ep,h1,h2,h3,h4,fun x hx=>?_,h5⟩
 have all:∀ {l:List (List Key × V)} {m:List (List Key × Addr × Value)},KT H l m→∀ x∈m,(tupleKind (yv P w)).is h x.1 x.2.1:=by
  intro l m q
  induction q with
  | nil=>intro x hx;exact nomatch hx
  | @cons p q ps qs hq t ih =>
   intro x hx
   rcases List.mem_cons.mp hx with e | hx
   ·subst e
    exact Yo ok (by rw [← hq.1];exact hq.2.1)
   ·exact ih x hx
 exact all r x hx
theorem zbJ {kvs:List (List Key × V)} (ok:HOk P w H h) (e:H a=some (.dT kvs)):kvs.length≤sizeLine∧(a == sysModules)=false ∧
  ∃ xs,KT H kvs xs∧h.DictOfH (tupleKind (yv P w)) a xs:=Va ok (.inl e)
end
def DGet (H:Hp) (a:Addr) (y:V) (r:Option V):Prop :=
 (∃ kvs k,Rd H a (.dK kvs)∧y=kV k∧r=yB kvs k)∨∃ kvs k b,Rd H a (.dT kvs)∧y=.ref b∧H b=some (.tup (k.map kV))∧r=yB kvs k
def DPut (H:Hp) (a:Addr) (y v:V) (H':Hp):Prop :=
 (∃ kvs k,H a=some (.dK kvs)∧y=kV k∧kvs.length < sizeLine∧H'=upd H a (.dK (yT kvs k v))) ∨
 ∃ kvs k b,H a=some (.dT kvs)∧y=.ref b∧H b=some (.tup (k.map kV))∧kvs.length < sizeLine∧H'=upd H a (.dT (yT kvs k v))
theorem DGet.k {H:Hp} {a:Addr} {kvs:List (Key × V)} {k:Key} (e:H a=some (.dK kvs)):DGet H a (kV k) (yB kvs k):=.inl ⟨kvs,k,.inl e,rfl,rfl⟩
theorem DPut.k {H:Hp} {a:Addr} {kvs:List (Key × V)} {k:Key} {v:V} (e:H a=some (.dK kvs)) (hl:kvs.length < sizeLine):DPut H a (kV k) v (upd H a (.dK (yT kvs k v))):=.inl ⟨kvs,k,e,rfl,hl,rfl⟩
theorem DPut.t {H:Hp} {a b:Addr} {kvs:List (List Key × V)} {k:List Key} {v:V} (e:H a=some (.dT kvs)) (eb:H b=some (.tup (k.map kV))) (hl:kvs.length < sizeLine) :
  DPut H a (.ref b) v (upd H a (.dT (yT kvs k v))):=.inr ⟨kvs,k,b,e,rfl,eb,hl,rfl⟩
section
variable {X:Cx} {pins:List (Addr × Obj)} {σ:St} {H:Hp} {s:Shared} {a:Addr} {y v:V} {u r:Value} {o:Option V} {A:Around} {E:Value→Shared→Prop}
theorem Inv.big (I:Inv X pins σ H s):sysModules < s.heap.objs.size:=by
 have h:mainGlobals < s.heap.objs.size:=(I.mod.glob.keeps I.bk).lt
 exact Nat.lt_trans (by decide) h
theorem KO {Q:Value→Shared→Prop} (hu:A.units + 1 < cLine) (I:Inv X pins σ H s) (g:DGet H a y (some v)) (ry:RelV y u) (h:∀ w' s',Inv X pins σ H s'→RelV v w'→Q w' s') :
  wpAny (model X.prog X.w) A (getItem (.ref a) u) Q E s:=by
 rcases g with ⟨kvs,k,e,ey,l⟩ | ⟨kvs,k,b,e,ey,eb,l⟩
 ·subst ey
  obtain ⟨z,hd,vs,rel,dd⟩:=W9 I.hok e
  obtain ⟨w',hw,rw'⟩:=RelO.some_of (v:=v) (o:=valueAt vs k) (by rw [l];exact rel.val k)
  exact wpAny_getItem_of (W8 ry) dd.mapOf hw (h w' _ (I.tok _) rw')
 ·subst ey
  cases (show u=Value.ref b from ry)
  obtain ⟨z,hd,xs,rel,dd⟩:=Va I.hok e
  obtain ⟨w',hw,rw'⟩:=RelO.some_of (v:=v) (o:=(atKey xs k).map (·.2)) (by rw [l];exact rel.val k)
  obtain ⟨p,hp,hp2⟩:=Option.map_eq_some_iff.mp hw
  refine wpAny_getItem_heap (tupleKind_room_in1 hu) (Yo I.hok eb) dd hp ?_
  rw [hp2]
  exact h w' _ (I.tok _) rw'
theorem ZW {h':Heap} {t':Nat} {ob:HO} (I:Inv X pins σ H s) (mu:Mut (H a)) (hs:Heap.SameBut a s.heap h') (he:∃ q,h'.get? a=some q) (new:ObjOk X.prog X.w (upd H a ob) h' a ob) :
  Inv X pins σ (upd H a ob) { s with heap:=h',toks:=t' } :=
 I.write (x:=a) (e:=a) mu (.inl rfl) (fun b q hb z=>(hs.2 b hb).trans z) he new
theorem QC {P:Program} {w:World} {H':Hp} {h':Heap} {kvs:List (Key × V)} {vs:List (Key × Value)} (z:kvs.length≤sizeLine) (hd:(a == sysModules)=false) (rel:KV kvs vs) (dd:h'.DictOf (yv P w) a vs) :
  ObjOk P w H' h' a (.dK kvs):=⟨z,hd,vs,rel,dd⟩
theorem KP {H':Hp} {Q:Unit→Shared→Prop} (hu:A.units + 1 < cLine) (I:Inv X pins σ H s) (g:DPut H a y v H') (ry:RelV y u) (rv:RelV v r) (h:∀ s',Inv X pins σ H' s'→Q () s') :
  wpAny (model X.prog X.w) A (setItem (.ref a) u r) Q E s:=by
 rcases g with ⟨kvs,k,e,ey,l,eH⟩ | ⟨kvs,k,b,e,ey,eb,l,eH⟩
 ·subst ey eH
  obtain ⟨z,hd,vs,rel,dd⟩:=zbI I.hok e
  have hz:vs.length≤sizeLine:=by rw [← rel.length];exact z
  have hl:(yT kvs k v).length≤sizeLine:=by have:=xS kvs k v;lia
  refine wpAny_setItem_pairs (hsz:=hz) (W8 ry) dd fun h' dd' hs=>h _ ?_
  have he:∃ q,h'.get? a=some q:=let ⟨q,_,_,hq,_⟩:=dd';⟨q,hq⟩
  exact ZW I (by rw [e];exact True.intro) hs he (QC hl hd (rel.put k rv) dd')
 ·subst ey eH
  cases (show u=Value.ref b from ry)
  obtain ⟨z,hd,xs,rel,dd⟩:=zbJ I.hok e
  have hz:xs.length≤sizeLine:=by rw [← Paired.length rel];exact z
  have hl:(yT kvs k v).length≤sizeLine:=by have:=xS kvs k v;lia
  refine wpAny_setItem_heap (hsz:=hz) (tupleKind_room_in1 hu) (Yo I.hok eb) dd fun h' dd' hs=>h _ ?_
  obtain ⟨q,es,ep,hq,h2,h3,h4,_,h5⟩:=dd'
  refine ZW I (by rw [e];exact True.intro) hs ⟨q,hq⟩ ⟨hl,hd,_,(rel.put k eb rv).keeps fun c ys ec=>?_,q,es,ep,hq,h2,h3,h4,h5⟩
  rw [zk (xF ec e (fun z=>nomatch z))]
  exact ec
end
section
variable {X:Cx} {pins:List (Addr × Obj)} {σ:St} {H:Hp} {s:Shared} {a:Addr} {kvs:List (Key × V)} {k:Key} {u:Value} {A:Around} {E:Value→Shared→Prop}
end
def zcH (i:Expr):Prop:=∀ ov iv,subscripted i false ov iv=operate [ov,iv] (getItem ov iv)
theorem zaT {prog:Program} {w:World} {A:Around} {E:Value→Shared→Prop} {s:Shared} {env:Env} {value slice:Expr} {pos:Pos} {T id:String} {Q:Value→Shared→Prop}
  (hl:typeLookup (.type T) "__getitem__"=pure (some (.builtin id))) (hs:zcH slice)
  (h:wpAny (model prog w) A (eval value env) (fun o s₁=>wpAny (model prog w) A (eval slice env) (fun i s₂=>s₂.TypeIs o T∧wpAny (model prog w) A (getItem o i) Q E s₂) E s₁) E s) :
  wpAny (model prog w) A (eval (.Subscript value slice pos) env) Q E s:=by
 refine Subscript_ (wpAny_mono h (fun o s₁ h₁=>wpAny_mono h₁ (fun i s₂ h₂=>?_) fun _ _ x=>x) fun _ _ x=>x)
 obtain ⟨hT,h₂⟩:=h₂
 unfold subscriptTail
 refine wpAny_bind ?_
 rw [getitemInPython_of_ne hT.not_modules]
 refine wpAny_bind (wpAny_specialOf hT hl ?_)
 have fin:wpAny (model prog w) A (subscripted slice false o i) (fun r s₃=>wpAny (model prog w) A (letTemporaryGo value o r >>= fun _=>pure r) Q E s₃) E s₂:=by
  rw [hs o i]
  exact wpAny_operating (wpAny_mono h₂ (fun r s₃ h₃=>wpAny_bind (wpAny_letTemporaryGo (wpAny_pure h₃))) fun _ _ x=>x)
 first
  | exact wpAny_pure (wpAny_bind fin)
  | exact wpAny_bind (wpAny_pure (wpAny_bind fin))
  | exact wpAny_bind fin
theorem Vb {X:Cx} {pins:List (Addr × Obj)} {σ:St} {H:Hp} {s:Shared} {a:Addr} {y:V} {o:Option V} (I:Inv X pins σ H s) (g:DGet H a y o):s.TypeIs (.ref a) "dict":=by
 rcases g with ⟨kvs,k,e,_,_⟩ | ⟨kvs,k,b,e,_,_,_⟩
 ·obtain ⟨_,_,vs,_,dd⟩:=W9 I.hok e
  exact dd.typeIs
 ·obtain ⟨_,_,xs,_,dd⟩:=Va I.hok e
  exact dd.typeIs
def yC (td ty:TE):TE:=fun σ H Q=>td σ H fun x H1=>ty σ H1 fun y H2=>∃ a v,x=.ref a∧DGet H2 a y (some v)∧Q v H2
def xj (td ty tv:TE):TS:=fun D σ H=>tv σ H fun v H1=>td σ H1 fun x H2=>ty σ H2 fun y H3=>∃ a H4,x=.ref a∧DPut H3 a y v H4∧D.nx σ H4
section
variable {X:Cx} {o i e value:Expr} {pos pos' tpos:Pos} {td ty tv:TE}
theorem wn (hu:X.A.units + 1 < cLine) (ho:PE X o td) (hi:PE X i ty) (hs:zcH i):PE X (.Subscript o i pos) (yC td ty):=by
 intro pins s σ H Q I h
 refine zaT F.slot_dict_getitem.lookup hs (thn (ho pins s σ H _ I h) fun u s1 ⟨x,H1,I1,rx,q1⟩=>thn (hi pins s1 σ H1 _ I1 q1) fun iv s2 ⟨y,H2,I2,ry,a,v,ex,g,q2⟩=>?_)
 subst ex
 obtain rfl:u=Value.ref a:=rx
 exact ⟨Vb I2 g,KO hu I2 g ry fun w' s3 I3 rw'=>⟨v,H2,I3,rw',q2⟩⟩
theorem vQ (hu:X.A.units + 1 < cLine) (ho:PE X o td) (hi:PE X i ty) (hv:PE X value tv) (hs:swapsWith value (some (.Subscript o i pos')) pos.line X.env=pure false) :
  PS X (.Assign [.Subscript o i pos'] value pos) (xj td ty tv):=by
 intro pins s σ H D I h
 refine wpAny_Assign_Subscript (thn (hv pins s σ H _ I h) fun r s1 ⟨v,H1,I1,rv,q1⟩=>thn (ho pins s1 σ H1 _ I1 q1) fun u s2 ⟨x,H2,I2,rx,q2⟩=>thn (hi pins s2 σ H2 _ I2 q2) fun iv s3 ⟨y,H3,I3,ry,a,H4,ex,g,q3⟩=>?_) hs
 subst ex
 obtain rfl:u=Value.ref a:=rx
 exact KP hu I3 g ry rv fun s4 I4=>⟨σ,H4,I4,q3⟩
end
theorem Vc {P:Program} {w:World} {H:Hp} (h:Heap) (hb:sysModules < h.objs.size):ObjOk P w H (h.push { cls:=.type "dict",data:=.dict #[] }) h.objs.size (.dK []) :=
 ⟨Nat.zero_le _,beq_eq_false_iff_ne.mpr (Ne.symm (Nat.ne_of_lt hb)),[],.nil,Heap.DictOf.new h⟩
theorem Vd {P:Program} {w:World} {H:Hp} (h:Heap) (hb:sysModules < h.objs.size):ObjOk P w H (h.push { cls:=.type "dict",data:=.dict #[] }) h.objs.size (.dT []) :=
 ⟨Nat.zero_le _,beq_eq_false_iff_ne.mpr (Ne.symm (Nat.ne_of_lt hb)),[],.nil,_,#[],0,Heap.get?_push_size _ rfl,⟨rfl,rfl,rfl⟩,rfl,rfl,List.nodup_nil⟩
def Yp:TE:=fun _ H Q=>∀ p,H p=none→Q (.ref p) (upd H p (.dK []))
def Wk:TE:=fun _ H Q=>∀ p,H p=none→Q (.ref p) (upd H p (.dT []))
section
variable {X:Cx} {pos:Pos}
theorem Ve:PE X (.Dict [] [] pos) Yp:=fun pins s σ H Q I h =>
 wpAny_Dict_empty ⟨.ref s.heap.objs.size,_,I.laid (a:=s.heap.objs.size) (o:=.dK []) (t':=s.toks) (fun _ _ q=>Heap.get?_push_of_some _ q) (Nat.le_refl _) (Vc s.heap I.big),rfl,h _ (I.hok.fresh (Nat.le_refl _))⟩
theorem QD:PE X (.Dict [] [] pos) Wk:=fun pins s σ H Q I h =>
 wpAny_Dict_empty ⟨.ref s.heap.objs.size,_,I.laid (a:=s.heap.objs.size) (o:=.dT []) (t':=s.toks) (fun _ _ q=>Heap.get?_push_of_some _ q) (Nat.le_refl _) (Vd s.heap I.big),rfl,h _ (I.hok.fresh (Nat.le_refl _))⟩
end
def Wl:List (TE × TE)→St→Hp→(List (V × V)→Hp→Prop)→Prop
 | [],_,H,Q=>Q [] H
 | (tk,tv) :: r,σ,H,Q=>tk σ H fun x H1=>tv σ H1 fun y H2=>Wl r σ H2 fun ps H3=>Q ((x,y) :: ps) H3
abbrev VV:List (V × V)→List (Value × Value)→Prop:=Paired fun p q=>RelV p.1 q.1∧RelV p.2 q.2
def PPs (X:Cx) (pos:Pos) (keys:List (Option Expr)) (values:List Expr) (trs:List (TE × TE)):Prop :=
 ∀ (pins:List (Addr × Obj)) (s:Shared) (σ:St) (H:Hp) (Q:List (V × V)→Hp→Prop),Inv X pins σ H s→Wl trs σ H Q →
  wpAny (model X.prog X.w) X.A (evalPairs (pairTrees keys values X.env pos)) (fun vs s'=>∃ ps H',Inv X pins σ H' s'∧VV ps vs∧Q ps H') X.xe s
theorem zaU {X:Cx} {pos:Pos}:PPs X pos [] [] []:=fun pins s σ H Q I h=>pairTrees_nil_walk ⟨[],H,I,.nil,h⟩
theorem qT {X:Cx} {pos:Pos} {k v:Expr} {ks:List (Option Expr)} {vs:List Expr} {tk tv:TE} {trs:List (TE × TE)} (hk:PE X k tk) (hv:PE X v tv) (hr:PPs X pos ks vs trs) :
  PPs X pos (some k :: ks) (v :: vs) ((tk,tv) :: trs):=fun pins s σ H Q I h =>
 pairTrees_cons_walk (thn (hk pins s σ H _ I h) fun u s1 ⟨x,H1,I1,rx,q1⟩=>thn (hv pins s1 σ H1 _ I1 q1) fun w2 s2 ⟨y,H2,I2,ry,q2⟩ =>
  thn (hr pins s2 σ H2 _ I2 q2) fun ws s3 ⟨ps,H3,I3,rel,q3⟩=>⟨(x,y) :: ps,H3,I3,.cons ⟨rx,ry⟩ rel,q3⟩)
def Zo (kvs more:List (Key × V)):List (Key × V):=more.foldl (fun acc kv=>yT acc kv.1 kv.2) kvs
theorem KV.merge:∀ {more:List (Key × V)} {rs:List (Key × Value)} {kvs:List (Key × V)} {vs:List (Key × Value)},KV more rs→KV kvs vs→KV (Zo kvs more) (merged vs rs):=by
 intro more rs kvs vs r
 unfold KV at r
 induction r generalizing kvs vs with
 | nil=>intro q;exact q
 | @cons p q ps qs h t ih =>
  intro r0
  have e:KV (yT kvs p.1 p.2) (stored vs q.1 q.2):=by
   have:=r0.put p.1 h.2
   rw [← h.1];exact this
  exact ih e
theorem qg:∀ (more kvs:List (Key × V)),(Zo kvs more).length≤kvs.length + more.length
 | [],kvs=>by show kvs.length≤kvs.length + 0;lia
 | p :: r,kvs=>by
  have h1:=qg r (yT kvs p.1 p.2)
  have h2:=xS kvs p.1 p.2
  show (Zo (yT kvs p.1 p.2) r).length≤_
  rw [List.length_cons];lia
theorem Yq {P:Program} {w:World}:∀ {kvs:List (Key × V)} {ws:List (Value × Value)},VV (kvs.map fun kv=>(kV kv.1,kv.2)) ws→∃ rs,Carries (yv P w) ws rs∧KV kvs rs
 | [],_,r=>by rw [List.map_nil] at r;cases r;exact ⟨[],True.intro,.nil⟩
 | p :: kvs,_,r=>by
  rw [List.map_cons] at r
  cases r with
  | @cons a b as bs h t =>
   obtain ⟨rs,c,q⟩:=Yq (P:=P) (w:=w) t
   obtain ⟨b1,b2⟩:=b
   exact ⟨(p.1,b2) :: rs,⟨W8 h.1,rfl,c⟩,.cons ⟨rfl,h.2⟩ q⟩
def QE (trs:List (TE × TE)):TE:=fun σ H Q=>∀ p,H p=none→Wl trs σ (upd H p (.dK [])) fun ps H2=>H2 p=some (.dK [])∧∃ kvs:List (Key × V),ps=kvs.map (fun kv=>(kV kv.1,kv.2))∧kvs.length≤15∧Q (.ref p) (upd H2 p (.dK (Zo [] kvs)))
theorem zaV {X:Cx} {pos:Pos} {keys:List (Option Expr)} {values:List Expr} {trs:List (TE × TE)} (h:PPs X pos keys values trs) (hall:keys.all (·.isSome)=true) (hl:keys.length=values.length) (h0:keys≠[])
  (h15:keys.length≤15):PE X (.Dict keys values pos) (QE trs):=by
 intro pins s σ H Q I q
 have hn:=I.hok.fresh (Nat.le_refl s.heap.objs.size)
 have I1:=I.laid (a:=s.heap.objs.size) (o:=.dK []) (h':=s.heap.push { cls:=.type "dict",data:=.dict #[] }) (t':=s.toks) (fun _ _ q=>Heap.get?_push_of_some _ q) (Nat.le_refl _) (Vc s.heap I.big)
 refine wpAny_Dict_walk (knd:=yv X.prog X.w) hall hl h0 h15 (thn (h pins _ σ _ _ I1 (q _ hn)) fun ws s2 ⟨ps,H2,I2,rel,e,kvs,ep,lk,q2⟩=>?_)
 subst ep
 obtain ⟨rs,c,rk⟩:=Yq (P:=X.prog) (w:=X.w) rel
 obtain ⟨z,hd,vs0,r0,dd⟩:=zbI I2.hok e
 cases r0
 refine ⟨rs,c,dd,fun h' dd' hs=>⟨.ref s.heap.objs.size,_,?_,rfl,q2⟩⟩
 have hz:(Zo [] kvs).length≤sizeLine:=by
  have h1:=qg kvs []
  rw [List.length_nil] at h1
  rw [sizeLine_eq];lia
 have he:∃ q,h'.get? s.heap.objs.size=some q:=let ⟨q,_,_,hq,_⟩:=dd';⟨q,hq⟩
 exact ZW I2 (by rw [e];exact True.intro) hs he (QC hz hd (rk.merge .nil) dd')
structure M1 (X:Cx) (o:Expr) (m:Str) (apos:Pos) (e:Expr) (cpos:Pos):Prop where
 base:attributeBase o m X.env (eval o X.env)=eval o X.env
 few:((backTo cpos (starEach [e] X.env)).all (fun x=>!x.1) && (backToKw cpos (keywordEach [] X.env)).all (fun x=>x.1.isSome)
  && decide (([e]:List Expr).length + ([]:List Keyword).length + (if ([]:List Keyword).isEmpty then 0 else 1) < 30))=true
 line:(apos.endLine == cpos.line)=true
 trees:backTo cpos (starEach [e] X.env)=[(false,eval e X.env)]
structure M2 (X:Cx) (o:Expr) (m:Str) (apos:Pos) (e f:Expr) (cpos:Pos):Prop where
 base:attributeBase o m X.env (eval o X.env)=eval o X.env
 few:((backTo cpos (starEach [e,f] X.env)).all (fun x=>!x.1) && (backToKw cpos (keywordEach [] X.env)).all (fun x=>x.1.isSome)
  && decide (([e,f]:List Expr).length + ([]:List Keyword).length + (if ([]:List Keyword).isEmpty then 0 else 1) < 30))=true
 line:(apos.endLine == cpos.line)=true
 trees:backTo cpos (starEach [e,f] X.env)=[(false,eval e X.env),(false,eval f X.env)]
def IsD (H:Hp) (a:Addr):Prop:=(∃ kvs,Rd H a (.dK kvs))∨∃ kvs,Rd H a (.dT kvs)
theorem Jo {X:Cx} {pins:List (Addr × Obj)} {σ:St} {H:Hp} {s:Shared} {a:Addr} (I:Inv X pins σ H s) (d:IsD H a) :
  s.TypeIs (.ref a) "dict"∧(∀ b,Value.ref a=.ref b→∃ ob,s.heap.get? b=some ob∧ob.dict=none)∧(a == sysModules)=false:=by
 rcases d with ⟨kvs,e⟩ | ⟨kvs,e⟩
 ·obtain ⟨_,hd,vs,_,dd⟩:=W9 I.hok e
  refine ⟨dd.typeIs,fun b q=>?_,hd⟩
  cases q
  obtain ⟨ob,_,_,h1,h2,_⟩:=dd
  exact ⟨ob,h1,h2.2.1⟩
 ·obtain ⟨_,hd,xs,_,dd⟩:=Va I.hok e
  refine ⟨dd.typeIs,fun b q=>?_,hd⟩
  cases q
  obtain ⟨ob,_,_,h1,h2,_⟩:=dd
  exact ⟨ob,h1,h2.2.1⟩
section
variable {X:Cx} {pins:List (Addr × Obj)} {σ:St} {H:Hp} {s:Shared} {a:Addr} {y d:V} {u r:Value} {o:Option V} {A:Around} {E:Value→Shared→Prop}
theorem zb7 {Q:Value→Shared→Prop} (hu:A.units + 1 < cLine) (I:Inv X pins σ H s) (g:DGet H a y o) (ry:RelV y u) (rd:RelV d r) (h:∀ w' s',Inv X pins σ H s'→RelV (o.getD d) w'→Q w' s') :
  wpAny (model X.prog X.w) A (call (.builtin "dict.get") [.ref a,u,r]) Q E s:=by
 rcases g with ⟨kvs,k,e,ey,l⟩ | ⟨kvs,k,b,e,ey,eb,l⟩
 ·subst ey
  obtain ⟨z,hd,vs,rel,dd⟩:=W9 I.hok e
  refine call_meetsIn F.slot_dict_get dd.typeIs F.entry_dict_get (F.args_dict_get_3 _ _ _) (meets_dict_get_default (yv X.prog X.w) a (W8 ry) hd r) ⟨_,dd.mapOf,h _ _ (I.tok _) ?_⟩
  rw [l]
  exact (rel.val k).getD rd
 ·subst ey
  cases (show u=Value.ref b from ry)
  obtain ⟨z,hd,xs,rel,dd⟩:=Va I.hok e
  refine call_meetsIn F.slot_dict_get dd.typeIs F.entry_dict_get (F.args_dict_get_3 _ _ _) (meetsH_dict_get_default (tupleKind (yv X.prog X.w)) a b hd r) ⟨tupleKind_room_in1 hu,k,xs,Yo I.hok eb,dd,h _ _ (I.tok _) ?_⟩
  rw [l]
  exact (rel.val k).getD rd
end
def zW (td ty tx:TE):TE:=fun σ H Q=>td σ H fun x H1=>∃ a,x=.ref a∧IsD H1 a∧ty σ H1 fun y H2=>tx σ H2 fun z H3=>∃ o,DGet H3 a y o∧Q (o.getD z) H3
def zc5 (td ty tx:TE):TE:=fun σ H Q=>td σ H fun x H1=>∃ a,x=.ref a∧IsD H1 a∧ty σ H1 fun y H2=>tx σ H2 fun z H3=>∃ kvs k,H3 a=some (.dK kvs)∧y=kV k ∧
 (∀ v,yB kvs k=some v→Q v (upd H3 a (.dK (XI kvs k))))∧(yB kvs k=none→Q z H3)
section
variable {X:Cx} {o e f:Expr} {apos cpos:Pos} {td ty tx:TE}
theorem qU (hu:X.A.units + 1 < cLine) (ho:PE X o td) (he:PE X e ty) (hf:PE X f tx) (m:M2 X o "get" apos e f cpos):PE X (.Call (.Attribute o "get" apos) [e,f] [] cpos) (zW td ty tx):=by
 intro pins s σ H Q I h
 refine wpAny_Call_method m.base m.few m.line F.plainAttrs_dict F.slot_dict_get F.type_dict_get (thn (ho pins s σ H _ I h) fun u s1 ⟨x,H1,I1,rx,a,ex,d,q1⟩=>?_)
 subst ex
 obtain rfl:u=Value.ref a:=rx
 obtain ⟨t1,t2,_⟩:=Jo I1 d
 refine ⟨t1,t2,?_⟩
 rw [m.trees]
 refine Calls.callWith_builtin rfl (Calls.evalArgs_plain (Calls.spliced_cons (thn (he pins s1 σ H1 _ I1 q1) fun iv s2 ⟨y,H2,I2,ry,q2⟩ =>
  Calls.spliced_cons (thn (hf pins s2 σ H2 _ I2 q2) fun fv s3 ⟨z,H3,I3,rz,ov,g,q3⟩=>Calls.spliced_nil ?_))))
 exact zb7 hu I3 g ry rz fun w' s4 I4 rw'=>⟨_,H3,I4,rw',q3⟩
end
section
variable {X:Cx} {pins:List (Addr × Obj)} {σ:St} {H:Hp} {s:Shared} {a:Addr} {kvs:List (Key × V)} {A:Around} {E:Value→Shared→Prop}
end
section
variable {X:Cx} {pins:List (Addr × Obj)} {σ:St} {H:Hp} {s:Shared} {a:Addr} {y:V} {u:Value} {A:Around} {E:Value→Shared→Prop}
end
end L2
namespace Att
open PySem PySem.W PySem.Calls PyProof.Rows
theorem ZL {P:Params} {h:Heap}:∀ (ns:List Int) (vs:List Value),WellAll P h vs (ns.map WData.int)→IntsAre vs ns:=by
 intro ns
 induction ns with
 | nil =>
  intro vs w
  rw [List.map_nil] at w
  cases w
  exact .nil
 | cons n ns ih =>
  intro vs w
  rw [List.map_cons] at w
  cases w with
  | cons a b =>
   cases a
   exact .cons _ _ (ih _ b)
theorem XL {l:OpenLaw} {n:Nat} (hn:l.most=some n) {P:Params} {h:Heap} {args:List WData} {vals:List Value}
  (hpre:l.row.toRowW.claim.pre args=true) (hwl:WellAll P h vals args) :
  ∃ a vs ns,vals=[Value.ref a]∧args=[WData.list (ns.map WData.int)]∧h.get? a=some { cls:=.type "list",data:=.seq vs.toArray }∧IntsAre vs ns∧ns.length≤n:=by
 have hsh:WShape.hasAll [] args [.list .int]=true:=(pre_splitW hpre).1
 have hc:l.pre.holds [] { args:=args }=true:=(pre_splitW hpre).2
 obtain ⟨d,r,rfl,h1,h2⟩:=hasAllW_cons hsh
 obtain rfl:=hasAllW_nil h2
 obtain ⟨xs,rfl,h3⟩:=hasW_list h1
 obtain ⟨ns,rfl⟩:=items_int h3
 have hlen:ns.length≤n:=by
  unfold OpenLaw.pre at hc
  have h4:(WTm.not (.lt (.lit (.int (n:Int))) (.len (.arg 0)))).holds [] { args:=[.list (ns.map .int)] }=true:=by
   have h4:=(holds_andW hc).1
   rw [hn] at h4
   exact h4
  have h5:=condW_of h4 (w_not (w_lt w_lit (w_len_list (w_arg rfl))))
  rw [List.length_map] at h5
  refine Nat.le_of_not_lt fun q=>?_
  have q':(n:Int) < ((ns.length:Nat):Int):=by lia
  first
   | (rw [decide_eq_true q'] at h5;exact absurd h5 (by decide))
   | (simp at h5;lia)
 cases hwl with
 | cons w1 w2 =>
  cases w2
  cases w1 with
  | list ho hall=>exact ⟨_,_,ns,rfl,rfl,ho,ZL ns _ hall,hlen⟩
theorem XM (l:OpenLaw) (args:List WData):l.row.toRowW.claim.post args (.bool true) args=true :=
 postW_of (r:=l.row.toRowW) (X:=(true == true))
  (show WShape.has [] (.bool true) .bool=true by first | rfl | decide | simp [WShape.has,WShape.arms,WShape.armsAll])
  (show (WTm.eq .res (.lit (.bool true))).value [] { args:=args,res:=some (.bool true),after:=args }=some (.bool (true == true)) from w_eq_bool (w_res rfl) w_lit) rfl
theorem attach_call {l:OpenLaw} {n:Nat} {q:Program} {loose:List Str} {XP:(Str→Option Value)→Heap→Prop} {YP:World→Heap→Prop} {d:DefRec}
  (hn:l.most=some n) (hdf:d.params.defaults=[])
  (call:∀ (w:World) (s₀ s₁:Shared) (mg mb:Str→Option Value) (fa:Addr) (o:Obj) (pm cd doc:Value) (a:Addr) (vs:List Value) (ns:List Int),
   Ground q loose [] XP w s₀ mg mb s₁.heap→YP w s₁.heap →
   s₁.heap.get? fa=some o→o.data=.func (docDef d.name d.params d.body d.scope pm cd doc)→s₁.heap.CodeRec cd d.name→mg d.name=some (.ref fa) →
   s₁.heap.get? a=some { cls:=.type "list",data:=.seq vs.toArray }→IntsAre vs ns→ns.length≤n→s₁.gens=#[] →
   codeAny (model l.prog w) callerA (.call (.ref fa) ⟨[.ref a],[]⟩) (fun r s'=>r=.ok (.ret (.bool true))∧OldK s₁.heap s'.heap∧s'.os=s₁.os∧AllBare s'.gens) s₁) :
  WalkO q loose XP YP l.row.toRowW d [] (fun f vs=>PySem.call f vs):=by
 intro w s₀ s₁ mg mb G Y fa o pm cd doc dV kV ho hd hcd hD hmg hg args vals as hpre hlay hrd hwl hlo
 obtain rfl:dV=.none:=Dflts.none hD hdf
 obtain rfl:kV=.none:=Dflts.noKw hD
 obtain ⟨a,vs,ns,rfl,rfl,hobj,hints,hlen⟩:=XL hn hpre hwl
 refine enter_call (codeAny_mono (call w s₀ s₁ mg mb fa o pm cd doc a vs ns G Y ho (fd_plain hd) hcd hmg hobj hints hlen hg) fun r s' hq=>?_)
 obtain ⟨rfl,h2,h3,h4⟩:=hq
 exact ⟨.inl ⟨.bool true,.bool true,[],rfl,fun _=>rfl,.bool true,XM l _,fun _=>⟨List.Pairwise.nil,fun _ hm=>(nomatch hm)⟩⟩,h2,h3,h4⟩
section
variable {prog:Program} {w:World} {A:Around} {E:Value→Shared→Prop} {s:Shared} {K:Frag}
def zc6 (h:Heap) (L d:Addr):List (Addr × Obj):=(List.range h.objs.size).filterMap fun a=>if a=L∨a=d then none else (h.get? a).map fun o=>(a,o)
end
end Att
namespace L2
open PySem PySem.Spec PyProof.Rows
theorem XN:∀ {vs:List Value} {ns:List Int},IntsAre vs ns→Vals (ns.map V.int) vs
 | _,_,.nil=>.nil
 | _,_,.cons n t h=>.cons ⟨t,rfl⟩ (XN h)
def Jp (H:Hp):Prop:=∀ b,H b=none∨∃ o xs,H b=some (.frz o (.lst xs))
theorem Vf {P:Program} {w:World} {K:W.Frag} {mg mb:Str→Option Value} {CX:CXT} {k:Nat} {fa a:Addr} {fd:FuncData} {x:Str} {sp:Sp} {s₁:Shared} {vs:List Value} {ns:List Int}
  (KX:K.In s₁.heap) (hns:s₁.heap.Ns mainGlobals mg) (hb:s₁.heap.Ns builtinsNs mb) (hbb:∀ x:Str,x≠"__name__"→mb x=bootBuiltins x) (hlim:s₁.heap.NoLimit) (hg:s₁.gens=#[])
  (ha:s₁.heap.get? a=some { cls:=.type "list",data:=.seq vs.toArray }) (hi:IntsAre vs ns) (hl:ns.length≤sizeLine) (hr:Room k callerA)
  (F:∀ base:Heap,K.In base→base.Ns mainGlobals mg→FnOk P w K mg base CX k fa fd [x] sp) (hbind:∀ (s:Shared) (u:Value),BindsTo s fd ⟨[u],[]⟩ [(x,u)])
  (hsp:∀ H:Hp,Jp H→SqL K H a (ns.map V.int)→sp [.ref a] H (fun v _=>v=.bl true) fun _ _ _=>False)
  (hCX:∀ H e s',CX [] H s₁ (fun _ _ _=>False) e s'→False) :
  codeAny (model P w) callerA (.call (.ref fa) ⟨[.ref a],[]⟩) (fun r s'=>r=.ok (.ret (.bool true))∧OldK s₁.heap s'.heap∧s'.os=s₁.os∧AllBare s'.gens) s₁:=by
 have rv:=XN hi
 have lenV:=hi.length
 -- from an abstract heap in which nothing but the script may be tracked
 have core:∀ H:Hp,Jp H→SqL K H a (ns.map V.int)→HOk P w H s₁.heap→(∀ b,H b≠none→b=a)→(H a≠none→K.lookup a=none) →
   codeAny (model P w) callerA (.call (.ref fa) ⟨[.ref a],[]⟩) (fun r s'=>r=.ok (.ret (.bool true))∧OldK s₁.heap s'.heap∧s'.os=s₁.os∧AllBare s'.gens) s₁:=by
  intro H hO hS hok hA hK
  have base_of:∀ {b:Addr} {o:Obj},s₁.heap.get? b=some o→H b=none→(Wc s₁.heap H).get? b=some o:=fun e n=>Qm e n
  have noA:∀ {b:Addr} {o:Obj} {es:Array DictEntry} {ep:Nat},s₁.heap.get? b=some o→o.data=.dict es ep→H b=none:=fun {b o es ep} e d=>by
   cases q:H b with
   | none=>rfl
   | some u =>
    have e':b=a:=hA b (by rw [q];simp)
    subst e'
    rw [ha] at e;cases e
    have d':Data.seq vs.toArray _=Data.dict es ep:=d
    cases d'
  have nsK:∀ {b:Addr} {m:Str→Option Value},s₁.heap.Ns b m→(Wc s₁.heap H).Ns b m:=fun {b m} ⟨o,es,ep,e,d,r⟩=>⟨o,es,ep,base_of e (noA e d),d,r⟩
  have hKb:K.In (Wc s₁.heap H):=fun b o e=>base_of (KX b o e) (by
   cases q:H b with
   | none=>rfl
   | some u =>
    have e':b=a:=hA b (by rw [q];simp)
    subst e'
    rw [hK (by rw [q];simp)] at e;cases e)
  have hM:Mod K mg (Wc s₁.heap H):=⟨hKb,nsK hns,⟨mb,nsK hb,hbb⟩,let ⟨mc,h1,h2⟩:=hlim;⟨mc,nsK h1,h2⟩⟩
  have e0:Env0 P w K mg (Wc s₁.heap H) callerA [] s₁ H:=⟨rfl,hM,fun b o e=>zaG e,Nat.le_of_eq (KD _ _),trivial,fun b hb=>absurd (show b∈([]:List Addr) from hb) (by simp),hok,.of_eq hg⟩
  refine codeAny_mono ((F _ hKb (nsK hns)).run callerA [] s₁ H ⟨[.ref a],[]⟩ [.ref a] [.ref a] _ _ hr e0 (hbind s₁ (.ref a)) (.cons rfl .nil) (hsp H hO hS)) fun r s' h=>?_
  cases r with
  | error e=>exact (hCX H e s' h).elim
  | ok fl =>
   cases fl with
   | next=>exact False.elim h
   | brk=>exact False.elim h
   | cont=>exact False.elim h
   | ret u =>
    obtain ⟨v,H',os,bare,un,hok',r',q⟩:=h
    have q':v=.bl true:=q
    subst q'
    obtain rfl:u=Value.bool true:=r'
    refine ⟨rfl,OldK.of_keep fun b o e=>?_,os,bare⟩
    cases q:H b with
    | none=>exact un.keep b o e q (by intro z;exact absurd (show b∈([]:List Addr) from z) (by simp)) (by simp)
    | some u =>
     rcases hO b with z | ⟨ob,xs,z⟩
     ·rw [q] at z;cases z
     ·have z2:=un.frzs b ob _ z
      obtain ⟨e1,_⟩:=hok b _ z
      obtain ⟨e2,_⟩:=hok' b _ z2
      rw [e] at e1;cases e1
      exact e2
 cases hk:K.lookup a with
 | some o =>
  -- the script is one of the module's own objects
  have e:=KX a o hk
  rw [ha] at e
  cases e
  refine core (fun _=>none) (fun _=>.inl rfl) (.inr ⟨_,vs.toArray,_,hk,rfl,rfl,rfl,by rw [List.size_toArray,lenV];exact hl,by simpa using rv⟩) (fun b u z=>by have z':(none:Option HO)=some u:=z;cases z') (fun b z=>absurd rfl z) fun z=>absurd rfl z
 | none =>
  refine core (fun b=>if b=a then some (.frz { cls:=.type "list",data:=.seq vs.toArray } (.lst (ns.map V.int))) else none) (fun b=>?_) (.inl (.inr ⟨{ cls:=.type "list",data:=.seq vs.toArray },if_pos rfl⟩)) (fun b u z=>?_) (fun b z=>?_) fun _=>hk
  ·by_cases hb:b=a
   ·exact .inr ⟨_,_,if_pos hb⟩
   ·exact .inl (if_neg hb)
  ·by_cases hb:b=a
   ·have z':=(if_pos hb).symm.trans z
    cases z'
    subst hb
    exact ⟨ha,by rw [List.length_map];exact hl,vs,_,rv,ha⟩
   ·have z':=(if_neg hb).symm.trans z
    cases z'
  ·by_cases hb:b=a
   ·exact hb
   ·exact absurd (if_neg hb) z
end L2
namespace L2
open PySem PySem.Spec PyProof.Rows
abbrev KOf {K:W.Frag} {h:Heap} (_:K.In h):W.Frag:=K
theorem JW {l:W.OpenLaw} {n k:Nat} {q:Program} {loose:List Str} {XP:(Str→Option Value)→Heap→Prop} {YP:World→Heap→Prop} {d:DefRec} {K:Params→W.Frag} {CX:World→CXT} {sp:World→Sp} {x:Str}
  (hn:l.most=some n) (hn2:n≤sizeLine) (hdf:d.params.defaults=[]) (hr:Room k callerA)
  (hY:∀ (w:World) (h:Heap),YP w h→(K w.params).In h)
  (F:∀ (w:World) (mg:Str→Option Value) (fa:Addr) (h:Heap),(K w.params).In h→h.Ns mainGlobals mg→mg d.name=some (.ref fa) →
   ∃ fd:FuncData,(∀ (s:Shared) (u:Value),BindsTo s fd ⟨[u],[]⟩ [(x,u)]) ∧
    ∀ base:Heap,(K w.params).In base→base.Ns mainGlobals mg→FnOk l.prog w (K w.params) mg base (CX w) k fa fd [x] (sp w))
  (hsp:∀ (w:World) (H:Hp) (a:Addr) (ns:List Int),ns.length≤n→Jp H→SqL (K w.params) H a (ns.map V.int)→sp w [.ref a] H (fun v _=>v=.bl true) fun _ _ _=>False)
  (hCX:∀ (w:World) (H:Hp) (s:Shared) (e:Value) (s':Shared),CX w [] H s (fun _ _ _=>False) e s'→False) :
  W.WalkO q loose XP YP l.row.toRowW d [] (fun f vs=>PySem.call f vs):=by
 refine Att.attach_call hn hdf fun w s₀ s₁ mg mb fa o pm cd doc a vs ns G Y ho hd hcd hmg hobj hints hlen hg=>?_
 have KX:=hY w _ Y
 obtain ⟨fd,hb,hF⟩:=F w mg fa _ KX G.T.g hmg
 exact Vf KX G.T.g G.T.b G.T.builtins G.T.nolimit hg hobj hints (Nat.le_trans hlen hn2) hr hF hb (fun H hO hS=>hsp w H a ns hlen hO hS) fun H e s'=>hCX w H s₁ e s'
theorem zcI {l:W.OpenLaw} {n k:Nat} {q:Program} {loose:List Str} {XP:(Str→Option Value)→Heap→Prop} {YP:World→Heap→Prop} {d:DefRec} {K:Params→W.Frag} {CX:CXT} {sp:W.Frag→Sp} {x:Str}
  (hn:l.most=some n) (hn2:n≤sizeLine) (hdf:d.params.defaults=[]) (hr:Room k callerA)
  (hY:∀ (w:World) (h:Heap),YP w h→(K w.params).In h)
  (F:∀ (w:World) (mg:Str→Option Value) (fa:Addr) (h:Heap),(K w.params).In h→h.Ns mainGlobals mg→mg d.name=some (.ref fa) →
   ∃ fd:FuncData,(∀ (s:Shared) (u:Value),BindsTo s fd ⟨[u],[]⟩ [(x,u)]) ∧
    ∀ base:Heap,(K w.params).In base→base.Ns mainGlobals mg→FnOk l.prog w (K w.params) mg base CX k fa fd [x] (sp (K w.params)))
  (hsp:∀ (K:W.Frag) (H:Hp) (a:Addr) (ns:List Int),ns.length≤n→Jp H→SqL K H a (ns.map V.int)→sp K [.ref a] H (fun v _=>v=.bl true) fun _ _ _=>False)
  (hCX:∀ (H:Hp) (s:Shared) (e:Value) (s':Shared),CX [] H s (fun _ _ _=>False) e s'→False) :
  W.WalkO q loose XP YP l.row.toRowW d [] (fun f vs=>PySem.call f vs) :=
 JW (K:=K) (CX:=fun _=>CX) (sp:=fun w=>sp (K w.params)) hn hn2 hdf hr hY F (fun w H a ns h1 h2 h3=>hsp (K w.params) H a ns h1 h2 h3) fun _ H s e s'=>hCX H s e s'
end L2
namespace L2
open PySem PySem.Spec PyProof.Rows
def ZX (s:Stmt) (j:Nat):Stmt:=match s with
 | .ClassDef _ _ _ body _ _ _ _ _ _ _=>body.getD j (.Pass ⟨0,0,0,0⟩)
 | _=>.Pass ⟨0,0,0,0⟩
def zQ (s:Stmt):Arguments:=match s with
 | .FunctionDef _ a _ _ _ _ _ _ _ _=>a
 | _=>{ posonlyargs:=[],args:=[],vararg:=none,kwonlyargs:=[],kw_defaults:=[],kwarg:=none,defaults:=[] }
def zM (s:Stmt):List Stmt:=match s with
 | .FunctionDef _ _ b _ _ _ _ _ _ _=>b
 | _=>[]
def zj (s:Stmt):Scope:=match s with
 | .FunctionDef _ _ _ _ _ _ sc _ _ _=>sc
 | _=>{ kind:=.function,names:=[],isGenerator:=false,isCoroutine:=false }
abbrev CX0:CXT:=fun _ _ _ _ _ _=>False
abbrev E0:XK:=fun _ _ _=>False
structure Fun (K:W.Frag) (x qual:Str) (st:Stmt) (f:Addr) (fd:FuncData):Prop where
 ex:∃ (oc:Value) (od:Option Addr) (kV doc pm:Value) (an:Option Addr) (cdv ct:Value) (osl:Array (Option Value)),
  fd=W.fnOf x qual (zQ st) (zM st) (zj st) .none kV doc pm an cdv ct∧K.lookup f=some ⟨oc,od,.func fd,osl⟩∧W.codeIn K cdv qual=true
 kp:W.keepIn K (.ref f)=true
section
variable {P:Program} {w:World} {K:W.Frag} {mg:Str→Option Value} {base:Heap}
theorem Fun.binds {x qual:Str} {st:Stmt} {f:Addr} {fd:FuncData} {ps:List Str} (F:Fun K x qual st f fd)
  (h:∀ (kV doc pm:Value) (an:Option Addr) (cdv ct:Value) (us:List Value),us.length=ps.length→bindArgs (W.fnOf x qual (zQ st) (zM st) (zj st) .none kV doc pm an cdv ct) ⟨us,[]⟩=pure (ps.zip us)):Binds K fd ps []:=by
 obtain ⟨oc,od,kV,doc,pm,an,cdv,ct,osl,rfl,lk,hcd⟩:=F.ex
 exact .all (h kV doc pm an cdv ct)
theorem yc {x qual:Str} {st:Stmt} {f:Addr} {oc:Value} {od an:Option Addr} {osl:Array (Option Value)} {kV doc pm cdv ct:Value} (l:K.lookup f=some ⟨oc,od,.func (W.fnOf x qual (zQ st) (zM st) (zj st) .none kV doc pm an cdv ct),osl⟩)
  (c:W.codeIn K cdv qual=true) (k:W.keepIn K (.ref f)=true):Fun K x qual st f (W.fnOf x qual (zQ st) (zM st) (zj st) .none kV doc pm an cdv ct):=⟨⟨oc,od,kV,doc,pm,an,cdv,ct,osl,rfl,l,c⟩,k⟩
end
theorem xw {A:Around} {k:Nat} (hr:Room k A):A.units + 1 < cLine:=Nat.lt_of_le_of_lt (Nat.add_le_add_left (by decide:1≤64) _) hr.units
section
variable {X:Cx}
theorem pv (i:Nat) {x:Str} {pos:Pos} (hN:X.N[i]?=some x:=by rfl) (hv:Vis X.env.scope x:=by first | exact Or.inl rfl | exact Or.inr (Or.inl rfl) | exact Or.inr (Or.inr rfl)) (hd:(x == ("__debug__":Str))=false:=by decide)
  (hcd:(x == ("__classdict__":Str))=false:=by decide):PE X (.Name x pos) (zc i):=zbY hN hv hd hcd
end
theorem yE {c A B:Prop} [Decidable c] (h1:c→A) (h2:¬ c→B):if c then A else B:=by
 by_cases h:c
 ·rw [if_pos h]
  exact h1 h
 ·rw [if_neg h]
  exact h2 h
def Same (H H':Hp):Prop:=∀ b o,H b=some o→H' b=some o
theorem Same.refl (H:Hp):Same H H:=fun _ _ h=>h
theorem Same.trans {H H1 H2:Hp} (a:Same H H1) (b:Same H1 H2):Same H H2:=fun c o h=>b c o (a c o h)
end L2
namespace L2
open PySem PySem.Spec PyProof.Rows
section
variable {X:Cx}
end
section
variable {κ:Type} [DecidableEq κ]
theorem QF {kvs:List (κ × V)} {k:κ} (h:yB kvs k=none):¬ k∈kvs.map (·.1):=by
 intro m
 obtain ⟨p,hp,e⟩:=List.mem_map.mp m
 have q:(kvs.any fun kv=>decide (kv.1=k))=true:=List.any_eq_true.mpr ⟨p,hp,decide_eq_true e⟩
 rw [wR,h] at q
 exact absurd q (by simp)
theorem zaW {kvs:List (κ × V)} {k:κ} {v:V} (h:yB kvs k=some v):k∈kvs.map (·.1):=by
 have q:(kvs.any fun kv=>decide (kv.1=k))=true:=by
  rw [wR,h]
  all_goals rfl
 obtain ⟨p,hp,e⟩:=List.any_eq_true.mp q
 exact List.mem_map.mpr ⟨p,hp,of_decide_eq_true e⟩
theorem JX:∀ {l:List κ} {k:κ},l.Nodup→¬ k∈l→(l ++ [k]).Nodup
 | [],k,_,_=>by simp
 | a :: r,k,h,hk=>by
  obtain ⟨h1,h2⟩:=List.nodup_cons.mp h
  show (a :: (r ++ [k])).Nodup
  refine List.nodup_cons.mpr ⟨fun m=>?_,JX h2 fun m=>hk (List.mem_cons.mpr (Or.inr m))⟩
  rcases List.mem_append.mp m with q | q
  ·exact h1 q
  ·exact hk (List.mem_cons.mpr (Or.inl (List.mem_singleton.mp q).symm))
theorem zaX {kvs:List (κ × V)} {k:κ} (v:V) (hn:(kvs.map (·.1)).Nodup) (h:yB kvs k=none):((yT kvs k v).map (·.1)).Nodup:=by
 rw [W7 v h,List.map_append]
 exact JX hn (QF h)
theorem KQ {p:κ × V} {r:List (κ × V)} {k:κ} (e:¬ p.1=k):XI (p :: r) k=p :: XI r k:=by
 unfold XI
 rw [List.filter_cons,if_pos (by simp [e])]
theorem QG:∀ {kvs:List (κ × V)} {k:κ},¬ k∈kvs.map (·.1)→XI kvs k=kvs
 | [],_,_=>rfl
 | p :: r,k,h=>by
  have h':¬ k∈r.map (·.1):=fun m=>by
   obtain ⟨q,hq,e⟩:=List.mem_map.mp m
   exact h (List.mem_map.mpr ⟨q,List.mem_cons.mpr (Or.inr hq),e⟩)
  rw [KQ fun e=>h (List.mem_map.mpr ⟨p,List.mem_cons.mpr (Or.inl rfl),e⟩),QG h']
end
end L2
set_option Elab.async false
set_option linter.all false
set_option maxRecDepth 100000
set_option maxHeartbeats 4000000
namespace L2
open PySem PySem.Spec PyProof.Rows
def Cx.comp (X:Cx) (scope:Scope) (cl:List (Str × Addr)) (C:Addr) (N:List Str) (fp:List Addr) (s:Shared) (H:Hp):Cx :=
 { X with env:=compEnvC scope cl C X.env,N:=N,s₀:=s,H₀:=H,outer:=X.stack,ex:=fp,fn:=fun _=>false,pn:=[],xe:=fun _ _=>False }
structure kQ (X:Cx) (scope:Scope) (cl:List (Str × Addr)) (ix:List Nat):Prop where
 clos:closureFor scope X.env=pure cl
 nocell:∀ y∈scope.names,y.2≠.cell
 kind:scope.kind=.function
 names:∀ y∈scope.names,y.2=.local→scope.names.lookup y.1=some .local
 sub:∀ y c,cl.lookup y=some c→X.env.cells.lookup y=some c
 has:∀ y,((relabel scope X.env).names.lookup y=some .cell∨(relabel scope X.env).names.lookup y=some .free)→∃ c,cl.lookup y=some c
 cap:∀ i∈ix,∃ y,X.N[i]?=some y∧(X.env.kindOf y=some .cell∨X.env.kindOf y=some .free)∧((relabel scope X.env).names.lookup y=some .cell∨(relabel scope X.env).names.lookup y=some .free)
def kh (scope:Scope) (env:Env):List (Str × Addr):=scope.names.foldl (fun cs y=>if y.2 == .free then (y.1,(env.cells.lookup y.1).getD 0) :: cs else cs) []
def JY (osc:Scope) (N:List Str) (sc:Scope) (ix:List Nat):Bool :=
 sc.kind == .function && sc.names.all (fun y=>y.2 != .cell && (y.2 != .local || sc.names.lookup y.1 == some .local) && (y.2 != .free || osc.names.lookup y.1 == some .cell || osc.names.lookup y.1 == some .free)) &&
  ix.all fun i=>match N[i]? with
   | some y=>sc.names.lookup y == some .free
   | none=>false
theorem wS {l:List (Str × NameKind)} {y:Str} {k:NameKind} (h:l.lookup y=some k):(y,k)∈l:=PySem.mem_of_lookup h
theorem jA {env:Env}:∀ {names:List (Str × NameKind)} {x:Str} {k:NameKind},(names.map fun (n,k)=>if (k == NameKind.free && env.scope.kind == .function && env.kindOf n == some .cell) then (n,NameKind.cell) else (n,k)).lookup x=some k →
  ∃ k',names.lookup x=some k'∧(k'=.free∨k'=k)
 | [],_,_,h=>by simp at h
 | (n,k') :: r,x,k,h=>by
  have ih:=@jA env r x k
  rw [List.map_cons] at h
  cases hx:x == n with
  | true =>
   by_cases hc:(k' == NameKind.free && env.scope.kind == .function && env.kindOf n == some .cell)=true
   ·have e:k'=.free:=by
     have:=(Bool.and_eq_true _ _ ▸ (Bool.and_eq_true _ _ ▸ hc).1).1
     simpa using this
    exact ⟨k',by simp [List.lookup_cons,hx],.inl e⟩
   ·simp only [if_neg hc,List.lookup_cons,hx] at h
    exact ⟨k',by simp [List.lookup_cons,hx],.inr (Option.some.inj h)⟩
  | false =>
   have h':(r.map fun (n,k)=>if (k == NameKind.free && env.scope.kind == .function && env.kindOf n == some .cell) then (n,NameKind.cell) else (n,k)).lookup x=some k:=by
    by_cases hc:(k' == NameKind.free && env.scope.kind == .function && env.kindOf n == some .cell)=true
    ·simp only [if_pos hc,List.lookup_cons,hx] at h;exact h
    ·simp only [if_neg hc,List.lookup_cons,hx] at h;exact h
   obtain ⟨q,e,r'⟩:=ih h'
   exact ⟨q,by simp only [List.lookup_cons,hx];exact e,r'⟩
theorem qV {env:Env}:∀ {names:List (Str × NameKind)} {x:Str},names.lookup x=some .free →
  ((names.map fun (n,k)=>if (k == NameKind.free && env.scope.kind == .function && env.kindOf n == some .cell) then (n,NameKind.cell) else (n,k)).lookup x=some .cell ∨
   (names.map fun (n,k)=>if (k == NameKind.free && env.scope.kind == .function && env.kindOf n == some .cell) then (n,NameKind.cell) else (n,k)).lookup x=some .free)
 | [],_,h=>by simp at h
 | (n,k') :: r,x,h=>by
  have ih:=@qV env r x
  rw [List.map_cons]
  cases hx:x == n with
  | true =>
   simp only [List.lookup_cons,hx] at h
   cases h
   by_cases hc:(NameKind.free == NameKind.free && env.scope.kind == .function && env.kindOf n == some .cell)=true
   ·left;simp only [if_pos hc,List.lookup_cons,hx]
   ·right;simp only [if_neg hc,List.lookup_cons,hx]
  | false =>
   simp only [List.lookup_cons,hx] at h
   by_cases hc:(k' == NameKind.free && env.scope.kind == .function && env.kindOf n == some .cell)=true
   ·simp only [if_pos hc,List.lookup_cons,hx];exact ih h
   ·simp only [if_neg hc,List.lookup_cons,hx];exact ih h
theorem XO {env:Env}:∀ (l:List (Str × NameKind)) (cs:List (Str × Addr)),(∀ y∈l,y.2=.free→∃ c,env.cells.lookup y.1=some c) →
  (∀ y c,cs.lookup y=some c→env.cells.lookup y=some c)→∀ y c,(l.foldl (fun cs y=>if y.2 == .free then (y.1,(env.cells.lookup y.1).getD 0) :: cs else cs) cs).lookup y=some c→env.cells.lookup y=some c
 | [],_,_,h,y,c,e=>h y c e
 | z :: r,cs,hl,h,y,c,e=>by
  rw [List.foldl_cons] at e
  refine XO r _ (fun y hy=>hl y (List.mem_cons_of_mem _ hy)) (fun y' c' e'=>?_) y c e
  by_cases hz:z.2=.free
  ·obtain ⟨c0,h0⟩:=hl z List.mem_cons_self hz
   have hb:(z.2 == NameKind.free)=true:=by simpa using hz
   rw [if_pos hb,h0,List.lookup_cons] at e'
   cases hq:y' == z.1 with
   | true =>
    rw [hq] at e'
    have e2:y'=z.1:=by simpa using hq
    cases e'
    rw [e2];exact h0
   | false=>rw [hq] at e';exact h _ _ e'
  ·have hb:(z.2 == NameKind.free)=false:=by simpa using hz
   rw [hb] at e'
   exact h _ _ e'
theorem Vg {env:Env}:∀ (l:List (Str × NameKind)) (cs:List (Str × Addr)) (y:Str),((∃ c,cs.lookup y=some c)∨(y,NameKind.free)∈l) →
  ∃ c,(l.foldl (fun cs y=>if y.2 == .free then (y.1,(env.cells.lookup y.1).getD 0) :: cs else cs) cs).lookup y=some c
 | [],_,_,h=>h.elim id fun z=>nomatch z
 | z :: r,cs,y,h=>by
  rw [List.foldl_cons]
  refine Vg r _ y ?_
  rcases h with ⟨c,h⟩ | h
  ·left
   by_cases hz:(z.2 == NameKind.free)=true
   ·rw [if_pos hz,List.lookup_cons]
    cases y == z.1 with
    | true=>exact ⟨_,rfl⟩
    | false=>exact ⟨c,h⟩
   ·rw [if_neg hz];exact ⟨c,h⟩
  ·rcases List.mem_cons.mp h with h | h
   ·left
    subst h
    rw [if_pos (by rfl),List.lookup_cons]
    simp
   ·exact .inr h
theorem Wm {env:Env}:∀ (l:List (Str × NameKind)) (cs:List (Str × Addr)),(∀ y∈l,y.2=.free→∃ c,env.cells.lookup y.1=some c) →
  forIn (m:=Sem) l cs (fun x r=>match x with | (name,kind)=>if (kind == NameKind.free)=true then do let c ← cellOf env name;pure (ForInStep.yield ((name,c) :: r)) else pure (ForInStep.yield r)) =
   pure (l.foldl (fun cs y=>if y.2 == .free then (y.1,(env.cells.lookup y.1).getD 0) :: cs else cs) cs)
 | [],_,_=>rfl
 | (n,k) :: r,cs,h=>by
  rw [List.forIn_cons,List.foldl_cons]
  by_cases hz:(k == NameKind.free)=true
  ·obtain ⟨c,hc⟩:=h (n,k) List.mem_cons_self (by simpa using hz)
   have e:cellOf env n=pure c:=by unfold cellOf;rw [hc]
   simp only [hz,if_true,e,pure_bind]
   rw [Wm r _ fun y hy=>h y (List.mem_cons_of_mem _ hy)]
   simp only [hc,Option.getD_some]
  ·simp only [hz,if_false,pure_bind]
   exact Wm r _ fun y hy=>h y (List.mem_cons_of_mem _ hy)
theorem qW {X:Cx} {osc scope:Scope} {N:List Str} {ix:List Nat} (ok:X.Ok) (h:JY osc N scope ix=true) (hs:X.env.scope=osc) (hN:X.N=N):kQ X scope (kh scope X.env) ix:=by
 subst hs hN
 unfold JY at h
 rw [Bool.and_eq_true,Bool.and_eq_true,List.all_eq_true,List.all_eq_true] at h
 obtain ⟨⟨h1,h2⟩,h3⟩:=h
 have p:∀ y∈scope.names,y.2≠.cell∧(y.2=.local→scope.names.lookup y.1=some .local)∧(y.2=.free→X.env.kindOf y.1=some .cell∨X.env.kindOf y.1=some .free):=fun y hy=>by
  have q:=h2 y hy
  rw [Bool.and_eq_true,Bool.and_eq_true] at q
  obtain ⟨⟨q1,q2⟩,q3⟩:=q
  refine ⟨by simpa using q1,fun e=>?_,fun e=>?_⟩
  ·rw [e] at q2;simpa using q2
  ·rw [e] at q3
   have q3':X.env.scope.names.lookup y.1=some .cell∨X.env.scope.names.lookup y.1=some .free:=by simpa using q3
   exact q3'
 have f:∀ y∈scope.names,y.2=.free→∃ c,X.env.cells.lookup y.1=some c:=fun y hy e=>ok.has y.1 ((p y hy).2.2 e)
 refine ⟨?_,fun y hy=>(p y hy).1,by simpa using h1,fun y hy=>(p y hy).2.1,fun y c e=>XO scope.names [] f (fun _ _ z=>by simp at z) y c e,fun y hy=>?_,fun i hi=>?_⟩
 ·have e:=Wm scope.names [] f
  unfold closureFor kh
  refine Eq.trans (congrArg (fun m=>m >>= fun s=>(pure s:Sem (List (Str × Addr)))) e) ?_
  rw [pure_bind]
 ·refine Vg scope.names [] y (.inr ?_)
  rcases hy with hy | hy
  ·obtain ⟨k',e,z | z⟩:=jA hy
   ·subst z;exact wS e
   ·subst z;exact absurd rfl (p _ (wS e)).1
  ·obtain ⟨k',e,z | z⟩:=jA hy
   ·subst z;exact wS e
   ·subst z;exact wS e
 ·have q:=h3 i hi
  cases hy:X.N[i]? with
  | none=>rw [hy] at q;cases q
  | some y =>
   rw [hy] at q
   have q':scope.names.lookup y=some .free:=by simpa using q
   exact ⟨y,rfl,(p _ (wS q')).2.2 rfl,qV q'⟩
def ve (ix:List Nat) (σ:St):St:=ix.map fun i=>(σ[i]?).getD none
def jh (ix:List Nat) (N:List Str):List Str:=ix.map fun i=>(N[i]?).getD ""
section
variable {X:Cx} {pins:List (Addr × Obj)} {σ:St} {H:Hp} {s:Shared} {scope:Scope} {cl:List (Str × Addr)} {ix:List Nat} {fp:List Addr} {C:Addr} {xs:List Str}
theorem Inv.compOk (I:Inv X pins σ H s) (S:kQ X scope cl ix) (hC:C=s.heap.objs.size) (hf:∀ b∈fp,ke X pins H b) (hl:∀ b∈fp,b < s.heap.objs.size) (N':List Str) :
  (X.comp scope cl C N' fp s H).Ok where
 mod:=I.ok.mod
 kind:=S.kind
 glob:=I.ok.glob
 blt:=I.ok.blt
 above:=Nat.le_of_eq hC.symm
 inj:=fun x y c h1 h2=>I.ok.inj x y c (S.sub x c h1) (S.sub y c h2)
 has:=fun x hx=>S.has x hx
 cab:=fun x c h1 _=>nomatch h1
 hd:=I.ok.hd
 frames:=I.ok.frames
 stk:=.inl rfl
 exf:=fun b hb=>⟨fun z=>absurd (hl b hb) (by rw [z];show ¬ C < _;rw [hC];exact Nat.lt_irrefl _),fun x c h=>(hf b hb).2.2.2.2.1 x c (S.sub x c h)⟩
 bs:=I.bs
 bsz:=Nat.le_trans I.ok.bsz I.sz
 noex:=fun b o e hb=>by
  rcases (hf b hb).2.2.2.1 with z | z
  ·exact I.ok.noex b o e z
  ·exact absurd (Nat.lt_of_lt_of_le (Heap.lt_size e) (Nat.le_trans I.ok.bsz z)) (Nat.lt_irrefl _)
 exfs:=fun b hb z=>by
  rcases List.mem_cons.mp (I.stkSub b z) with e | e
  ·exact (hf b hb).2.1 e
  ·exact (hf b hb).2.2.1 e
 funs:=I.stack
 frf:=I.stkFree
theorem Inv.comp {h₁:Heap} {m₁:Str→Option Value} {t':Nat} (I:Inv X pins σ H s) (S:kQ X scope cl ix) (hC:C=s.heap.objs.size) (hf:∀ b∈fp,ke X pins H b) (hl:∀ b∈fp,b < s.heap.objs.size)
  (hn:h₁.Ns C m₁) (hk:∀ b o,s.heap.get? b=some o→h₁.get? b=some o) :
  Inv (X.comp scope cl C (xs ++ jh ix X.N) fp s H) [] (List.replicate xs.length none ++ ve ix σ) H { s with heap:=h₁,toks:=t' } where
 ok:=I.compOk S hC hf hl _
 os:=rfl
 bare:=I.bare
 base:=Un.kept hk
 loc:=by
  refine ⟨m₁,hn,fun i y v e1 e2 e3=>?_⟩
  by_cases hi:i < xs.length
  ·rw [List.getElem?_append_left (by simpa using hi),List.getElem?_replicate,if_pos hi] at e2
   cases e2
  ·have e1':(xs ++ jh ix X.N)[i]?=some y:=e1
   rw [List.getElem?_append_right (by lia)] at e1'
   rw [List.getElem?_append_right (by rw [List.length_replicate];lia),List.length_replicate] at e2
   generalize i - xs.length=j at e1' e2
   unfold jh at e1'
   unfold ve at e2
   rw [List.getElem?_map] at e1' e2
   cases hj:ix[j]? with
   | none=>rw [hj] at e1';cases e1'
   | some k =>
    rw [hj] at e1' e2
    obtain ⟨y',c1,c2,c3⟩:=S.cap k (List.mem_of_getElem? hj)
    have ey:y'=y:=by
     have q:(X.N[k]?).getD ""=y:=Option.some.inj e1'
     rw [c1] at q
     exact q
    subst ey
    have ev:σ[k]?=some (some v):=by
     have q:(σ[k]?).getD none=some v:=Option.some.inj e2
     cases hs:σ[k]? with
     | none=>rw [hs] at q;cases q
     | some o=>rw [hs] at q;exact congrArg some q
    obtain ⟨m,hm,hv⟩:=I.loc
    obtain ⟨u,r,l⟩:=hv k y' v c1 ev (c2.elim (fun z=>.inr (.inl z)) fun z=>.inr (.inr z))
    refine ⟨u,r,.inr ⟨c3,?_⟩⟩
    rcases l with ⟨l1,_⟩ | ⟨_,c,lc,⟨o,ho,hd⟩⟩
    ·rcases c2 with z | z <;> (rw [l1] at z;cases z)
    ·obtain ⟨c',hc'⟩:=S.has y' c3
     have e:=S.sub _ _ hc'
     rw [lc] at e
     cases e
     exact ⟨c,hc',o,hk _ _ ho,hd⟩
 cell:=fun x c e=>by
  obtain ⟨v,o,ho,hd⟩:=I.cell x c (S.sub x c e)
  exact ⟨v,o,hk _ _ ho,hd⟩
 free:=I.hok.fresh (Nat.le_of_eq hC.symm)
 freeC:=fun x c e=>I.freeC x c (S.sub x c e)
 pin:=fun p hp=>absurd (show p∈([]:List (Addr × Obj)) from hp) (by simp)
 hok:=I.hok.kept hk
 len:=by
  show (List.replicate xs.length none ++ ve ix σ).length=(xs ++ jh ix X.N).length
  rw [List.length_append,List.length_append,List.length_replicate,ve,jh,List.length_map,List.length_map]
theorem Inv.uncomp {s':Shared} {σ':St} {H':Hp} {N':List Str} {h':Heap} (I:Inv X pins σ H s) (hC:C=s.heap.objs.size) (hf:∀ b∈fp,ke X pins H b)
  (J:Inv (X.comp scope cl C N' fp s H) [] σ' H' s') (hb:Heap.SameBut C s'.heap h'):Inv X pins σ H' { s' with heap:=h' }:=by
 have lt:∀ b o,s.heap.get? b=some o→b≠C:=fun b o e=>by
  rw [hC];exact Nat.ne_of_lt (Heap.lt_size e)
 have B:Un (frs X.stack) fp H H' s.heap s'.heap:=J.base
 refine I.call' (s':={ s' with heap:=h' }) (ch:=fp) J.os ?_ ?_ J.bare ?_
 ·exact ⟨fun b o e n h1 h2=>(hb.2 b (lt b o e)).trans (B.keep b o e n h1 h2),fun b o e n h1 h2=>by
   obtain ⟨sl,q⟩:=B.slot b o e n h1 h2
   exact ⟨sl,(hb.2 b (lt b o e)).trans q⟩,B.free,fun b o e h1=>by
   obtain ⟨o',q⟩:=B.there b o e h1
   exact ⟨o',(hb.2 b (lt b o e)).trans q⟩,B.tups,B.frzs,B.tbls⟩
 ·intro b o e
  refine (J.hok b o e).stay (fun c u hc q=>(hb.2 c ?_).trans q) (fun _ q=>q) fun _ _ q=>q
  have hC0:H' C=none:=J.free
  rintro rfl
  rcases hc with rfl | hc
  ·rw [hC0] at e;cases e
  ·rw [hC0] at hc;cases hc
 ·intro b hb'
  obtain ⟨f0,f1,f2,f3,f4,f5⟩:=hf b hb'
  exact ⟨f3,f1,f4,f5⟩
end
def PTs (X:Cx) (ifs:List Expr) (t:TT):Prop :=
 ∀ (pins:List (Addr × Obj)) (s:Shared) (σ:St) (H:Hp) (Q:Bool→Hp→Prop),Inv X pins σ H s→t σ H Q →
  wpAny (model X.prog X.w) X.A (forIn ifs true fun c r=>if r=true then do let ok ← isTrue c X.env (eval c X.env);pure (ForInStep.yield ok) else pure (ForInStep.yield r)) (TP X pins σ Q) X.xe s
def Yr:TT:=fun _ H Q=>Q true H
theorem JZ {X:Cx}:PTs X [] Yr:=fun _ _ _ H _ I h=>wpAny_tests_nil ⟨H,I,h⟩
theorem J1 {X:Cx} {c:Expr} {t:TT} (h:PT X c t):PTs X [c] t:=fun pins s σ H Q I q=>wpAny_tests_one (h pins s σ H Q I q)
section
variable {prog:Program} {w:World} {A:Around} {R:Result→Shared→Prop} {s:Shared}
theorem Wn {elt target iter:Expr} {ifs:List Expr} {scope:Scope} {pos:Pos} {it acc:Value} {env:Env} (W:Nat→Shared→Prop) {EE:Value→Shared→Prop}
  (hE:∀ e s',EE e s'→notedBy (model prog w) A env (fun e s'=>R (.error e) s') e s')
  (turn:∀ n s,W n s→wpAny (model prog w) A (pyNext it) (fun r s₁=>match r with
   | none=>R (.ok .next) s₁
   | some v=>wpAny (model prog w) A (letOwnedTupleGo target it v) (fun _ t₁=>wpAny (model prog w) A (assign target env v) (fun _ s₂ =>
     wpAny (model prog w) A (forIn ifs true fun c r=>if r=true then do let ok ← isTrue c env (eval c env);pure (ForInStep.yield ok) else pure (ForInStep.yield r)) (fun ok s₃ =>
      if ok=true then wpAny (model prog w) A (eval elt env) (fun x s₄=>wpAny (model prog w) A (call (.builtin "list.append") [acc,x]) (fun _ s₅=>∃ m,m < n∧W m s₅) EE s₄) EE s₃
      else ∃ m,m < n∧W m s₃) EE s₂) EE t₁) EE s₁) EE s)
  (n:Nat) (h:W n s):codeAny (model prog w) A (.compLoop (.ListComp elt [⟨target,iter,ifs,0⟩] scope pos) 0 it acc env) R s:=by
 refine codeAny_loop rfl W (fun n s hW=>?_) n h
 show wpAny _ A ((compTurn (.ListComp elt [⟨target,iter,ifs,0⟩] scope pos) 0 it acc env).onRaise (fun x=>do noteFrame x env;theTreesLotGoes x)) _ _ s
 refine wpAny_noted (wpAny_mono ?_ (fun _ _ q=>q) hE)
 rw [compTurn_list]
 refine wpAny_bind (wpAny_standAt (wpAny_bind (thn (turn n s hW) fun r s₁ h₁=>?_)))
 cases r with
 | none=>exact wpAny_pure h₁
 | some v =>
  refine wpAny_bind (thn h₁ fun _ t₁ k₁=>?_)
  refine wpAny_bind (thn k₁ fun _ s₂ h₂=>wpAny_bind (thn h₂ fun ok s₃ h₃=>?_))
  cases ok with
  | false=>exact wpAny_pure ⟨rfl,h₃⟩
  | true=>exact wpAny_bind (wpAny_bind (thn h₃ fun x s₄ h₄=>wpAny_bind (thn h₄ fun _ s₅ h₅=>wpAny_pure (wpAny_pure ⟨rfl,h₅⟩))))
end
def y7 (wi:TI) (g:TG) (tt:TT) (te:TE) (k:Nat) (ix:List Nat):TE:=fun σ H Q=>wi σ H fun J H1=>∀ D,H1 D=none →
 ∃ W:Nat→Nat→List V→St→Hp→Prop,(∃ m,W 0 m [] (List.replicate k none ++ ve ix σ) (upd H1 D (.lst [])))∧∀ i m ys τ H,W i m ys τ H→H D=some (.lst ys) ∧
  ((J.stop i H∧Q (.ref D) H)∨(J.go i H∧ys.length < sizeLine∧∃ N:V→St→Hp→Prop,
   (∀ v τ' H',N v τ' H'→H' D=some (.lst ys)∧∃ m',m' < m∧W (i + 1) m' (ys ++ [v]) τ' (upd H' D (.lst (ys ++ [v]))))∧∃ Nf:St→Hp→Prop,(∀ τ' H',Nf τ' H'→∃ m',m' < m∧W (i + 1) m' ys τ' H') ∧
   ∀ x H',J.yld i H x H'→g x τ H' fun τ2 H2=>tt τ2 H2 fun b H3=>if b=true then te τ2 H3 fun v H4=>N v τ2 H4 else Nf τ2 H3))
section
variable {X:Cx} {elt iter tg:Expr} {ifs:List Expr} {scope:Scope} {pos:Pos} {cl:List (Str × Addr)} {ix:List Nat} {xs:List Str} {wi:TI} {g:TG} {tt:TT} {te:TE}
theorem Ys (S:kQ X scope cl ix) (hc:X.calm=true) (hi:PI X tg iter wi)
  (hg:∀ C fp s H,PG (X.comp scope cl C (xs ++ jh ix X.N) fp s H) tg g) (ht:∀ C fp s H,PTs (X.comp scope cl C (xs ++ jh ix X.N) fp s H) ifs tt)
  (he:∀ C fp s H,PE (X.comp scope cl C (xs ++ jh ix X.N) fp s H) elt te)
  {pins:List (Addr × Obj)} {s:Shared} {σ:St} {H:Hp} {Q:VK} (I:Inv X pins σ H s) (h:y7 wi g tt te xs.length ix σ H Q) {RR:Value→Addr→Result→Shared→Prop}
  (hR:∀ v u s' C,RelV v u→(∃ H',Q v H'∧(∃ m,s'.heap.Ns C m)∧(∀ h',Heap.SameBut C s'.heap h'→Inv X pins σ H' { s' with heap:=h' })∧ke X pins H' C)→RR u C (.ok .next) s') :
  wpAny (model X.prog X.w) X.A (eval iter X.env) (fun x s₁=>wpAny (model X.prog X.w) X.A (pyIter x) (fun it s₂=>wpAny (model X.prog X.w) X.A (newList []) (fun acc s₃ =>
   wpAny (model X.prog X.w) X.A (newFunctionEnv scope X.env.globals cl [] X.env.qual none .none (some X.env)) (fun cenv s₄ =>
    codeAny (model X.prog X.w) X.A (.compStart (.ListComp elt [⟨tg,iter,ifs,0⟩] scope pos) 0 it acc { cenv with scope:=relabel scope X.env }) (RR acc cenv.locals) s₄) X.xe s₃) X.xe s₂) X.xe s₁) X.xe s:=by
 refine thn (hi pins s σ H _ I h) fun v s1 h1=>thn h1 fun itv s2 h2=>?_
 obtain ⟨it,fp,tn,J,H2,e,I2,T,st2,f2,hW⟩:=h2
 subst e
 refine wpAny_newObj_type (wpAny_newFunctionEnv S.nocell (fun y hy=>nomatch hy) (fun h₁ hns₁ hsb₁=>?_) S.kind)
 dsimp only at hns₁ hsb₁ ⊢
 obtain ⟨W,⟨m0,w0⟩,turn⟩:=hW s2.heap.objs.size I2.fresh
 have I3:=I2.lnew (t':=s2.toks) (ys:=[]) (its:=[]) .nil (Nat.zero_le _)
 have hl3:∀ b∈fp,b < s2.heap.objs.size:=fun b hb=>by
  obtain ⟨o,e,_⟩:=T.obj _ _ st2 b hb
  exact Heap.lt_size e
 generalize hs3:({ s2 with heap:=s2.heap.push { cls:=.type "list",data:=.seq ([]:List Value).toArray },toks:=s2.toks }:Shared)=s3 at I3
 have hs3h:s3.heap=s2.heap.push { cls:=.type "list",data:=.seq ([]:List Value).toArray }:=by rw [← hs3]
 have hsz:s3.heap.objs.size=s2.heap.objs.size + 1:=by rw [hs3h,Heap.size_push]
 have f3:∀ b∈fp,ke X pins (upd H2 s2.heap.objs.size (.lst [])) b:=fun b hb=>by
  obtain ⟨q0,q⟩:=f2 b hb
  exact ⟨by rw [zk (Nat.ne_of_lt (hl3 b hb))];exact q0,q⟩
 have hl3':∀ b∈fp,b < s3.heap.objs.size:=fun b hb=>by rw [hsz];exact Nat.lt_succ_of_lt (hl3 b hb)
 rw [← hs3h] at hns₁ hsb₁ ⊢
 have hk:∀ b o,s3.heap.get? b=some o→h₁.get? b=some o:=fun b o e=>(hsb₁.2 b (Nat.ne_of_lt (Heap.lt_size e))).trans (Heap.get?_push_of_some _ e)
 have hk2:∀ b o,s2.heap.get? b=some o→s3.heap.get? b=some o:=fun b o e=>by rw [hs3h];exact Heap.get?_push_of_some _ e
 have J0:=I3.comp (xs:=xs) (t':=s2.toks) (C:=s3.heap.objs.size) S rfl f3 hl3' hns₁ hk
 have st3:tn 0 h₁:=T.keep _ _ _ st2 fun b _ o e=>hk b o (hk2 b o e)
 have loop:∀ tk,codeAny (model X.prog X.w) X.A (.compLoop (.ListComp elt [⟨tg,iter,ifs,0⟩] scope pos) 0 (.ref it) (.ref s2.heap.objs.size) (compEnvC scope cl s3.heap.objs.size X.env))
   (RR (.ref s2.heap.objs.size) s3.heap.objs.size) { s3 with heap:=h₁,toks:=tk }:=by
  intro tk
  refine Wn (EE:=fun _ _=>False) (fun n s'=>∃ i ys τ H',Inv (X.comp scope cl s3.heap.objs.size (xs ++ jh ix X.N) fp s3 (upd H2 s2.heap.objs.size (.lst []))) [] τ H' s'∧tn i s'.heap∧(∀ b∈fp,H' b=none)∧W i n ys τ H')
   (fun _ _ z=>z.elim) ?_ m0 ⟨0,[],_,_,J0.tok tk,st3,fun b hb=>(f3 b hb).1,w0⟩
  rintro n s' ⟨i,ys,τ,H',I',st',fr',w'⟩
  have stat:∀ {H':Hp},(∀ b∈fp,H' b=none)→∀ b∈fp,ke (X.comp scope cl s3.heap.objs.size (xs ++ jh ix X.N) fp s3 (upd H2 s2.heap.objs.size (.lst []))) [] H' b:=fun hn b hb =>
   ⟨hn b hb,(I'.ok.exf b hb).1,I'.ok.exfs b hb,.inl hb,(I'.ok.exf b hb).2,fun p hp=>absurd (show p∈([]:List (Addr × Obj)) from hp) (by simp)⟩
  obtain ⟨hD,⟨stop,q⟩ | ⟨go,hz,N,hN,Nf,hNf,step⟩⟩:=turn i n ys τ H' w'
  ·refine thn (T.done (X.comp scope cl s3.heap.objs.size (xs ++ jh ix X.N) fp s3 (upd H2 s2.heap.objs.size (.lst []))) rfl rfl rfl hc i [] s' τ H' _ I' (stat fr') st' stop) fun r s4 ⟨hr,I4⟩=>?_
   subst hr
   refine hR (.ref s2.heap.objs.size) _ s4 _ rfl ⟨H',q,?_,fun h' hb=>I3.uncomp rfl f3 I4 hb,I3.fpOk (Nat.le_refl _) I4.free⟩
   obtain ⟨m,hn,_⟩:=I4.loc
   exact ⟨m,hn⟩
  ·refine thn (T.item (X.comp scope cl s3.heap.objs.size (xs ++ jh ix X.N) fp s3 (upd H2 s2.heap.objs.size (.lst []))) rfl rfl rfl hc i [] s' τ H' _ I' (stat fr') st' go) fun r s4 ⟨u,hr,h4⟩=>?_
   subst hr
   refine thn h4 fun _ s5 ⟨x,H5,I5,r5,y5,st5,fr5⟩=>?_
   have I5':=I5.pinned (stat fr5) (T.obj _ _ st5)
   refine thn (hg _ _ _ _ _ s5 τ H5 x u _ I5' r5 (step x H5 y5)) fun _ s6 ⟨τ6,H6,I6,q6⟩=>?_
   refine thn (ht _ _ _ _ _ s6 τ6 H6 _ I6 q6) fun ok s7 ⟨H7,I7,q7⟩=>?_
   have back:∀ {s8:Shared} {H8:Hp} {m:Nat} {zs:List V},Inv (X.comp scope cl s3.heap.objs.size (xs ++ jh ix X.N) fp s3 (upd H2 s2.heap.objs.size (.lst []))) ([] ++ Yh fp s5.heap) τ6 H8 s8→W (i + 1) m zs τ6 H8 →
     ∃ i ys τ H',Inv (X.comp scope cl s3.heap.objs.size (xs ++ jh ix X.N) fp s3 (upd H2 s2.heap.objs.size (.lst []))) [] τ H' s8∧tn i s8.heap∧(∀ b∈fp,H' b=none)∧W i m ys τ H':=fun {s8 H8 m zs} I8 w8=>by
    refine ⟨i + 1,zs,τ6,H8,I8.unpinned,T.keep _ _ _ st5 fun b hb o e=>(I8.pin (b,o) (List.mem_append_right _ (List.mem_append_right _ (jt hb e)))).1,fun b hb=>?_,w8⟩
    obtain ⟨o,e,d⟩:=T.obj _ _ st5 b hb
    exact (I8.pin (b,o) (List.mem_append_right _ (List.mem_append_right _ (jt hb e)))).2.1
   cases ok with
   | false =>
    rw [if_neg Bool.false_ne_true] at q7 ⊢
    obtain ⟨m',hm,w7⟩:=hNf _ _ q7
    exact ⟨m',hm,back I7 w7⟩
   | true =>
    rw [if_pos rfl] at q7 ⊢
    refine thn (he _ _ _ _ _ s7 τ6 H7 _ I7 q7) fun y s8 ⟨v8,H8,I8,r8,n8⟩=>?_
    obtain ⟨hD8,m',hm,w8⟩:=hN _ _ _ n8
    refine thn (yr _ s8 τ6 H8 (.ref s2.heap.objs.size) [v8] (.ref s2.heap.objs.size) [y] (fun _ Hn=>∃ m,m < n∧W (i + 1) m (ys ++ [v8]) τ6 Hn) I8 rfl (.cons r8 .nil) ⟨_,ys,v8,rfl,rfl,hD8,hz,m',hm,w8⟩) fun _ s9 ⟨_,H9,I9,_,m9,hm9,w9⟩=>?_
    exact ⟨m9,hm9,back I9 w9⟩
 have e3:∀ tk,({ s3 with heap:=h₁,toks:=tk }:Shared)={ s2 with heap:=h₁,toks:=tk }:=fun tk=>by rw [← hs3]
 have loop':∀ tk,codeAny (model X.prog X.w) X.A (.compLoop (.ListComp elt [⟨tg,iter,ifs,0⟩] scope pos) 0 (.ref it) (.ref s2.heap.objs.size) (compEnvC scope cl s3.heap.objs.size X.env))
   (RR (.ref s2.heap.objs.size) s3.heap.objs.size) { s2 with heap:=h₁,toks:=tk }:=fun tk=>by rw [← e3];exact loop tk
 exact codeAny_compStart_list (loop' _) (T.self _ 0 _ _ _ st3 (loop' _))
theorem Wo {osc:Scope} {N:List Str} (hc:X.calm=true) (hD:JY osc N scope ix=true) (hi:PI X tg iter wi)
  (hg:∀ C fp s H,PG (X.comp scope (kh scope X.env) C (xs ++ jh ix X.N) fp s H) tg g) (ht:∀ C fp s H,PTs (X.comp scope (kh scope X.env) C (xs ++ jh ix X.N) fp s H) ifs tt)
  (he:∀ C fp s H,PE (X.comp scope (kh scope X.env) C (xs ++ jh ix X.N) fp s H) elt te) (hsc:X.env.scope=osc:=by rfl) (hN:X.N=N:=by rfl) (hs:∀ x,foldedSetIterable iter X.env x=pure x:=by intro _;rfl) :
  PE X (.ListComp elt [⟨tg,iter,ifs,0⟩] scope pos) (y7 wi g tt te xs.length ix):=by
 intro pins s σ H Q I h
 have S:=qW I.ok hD hsc hN
 rw [eval_ListComp]
 refine wpAny_comprehension_free (use:=none) rfl hs S.clos S.kind S.names (Ys S hc hi hg ht he I h (RR:=fun acc C=>compPost (model X.prog X.w) X.A X.xe none (EP X pins σ Q) acc C) ?_)
 rintro v u s' C r ⟨H',q,⟨m,hn⟩,hI,_⟩
 exact ⟨m,hn,fun h' hb=>⟨v,H',hI h' hb,r,q⟩⟩
theorem Jq {osc:Scope} {N:List Str} {y:Str} {py:Pos} {j:Nat} {spos:Pos} (hNd:X.N.Nodup) (hj:X.N[j]?=some y) (hc:X.calm=true) (hy:Loc X.env.scope y) (hD:JY osc N scope ix=true) (hi:PI X tg iter wi)
  (hg:∀ C fp s H,PG (X.comp scope (kh scope X.env) C (xs ++ jh ix X.N) fp s H) tg g) (ht:∀ C fp s H,PTs (X.comp scope (kh scope X.env) C (xs ++ jh ix X.N) fp s H) ifs tt)
  (he:∀ C fp s H,PE (X.comp scope (kh scope X.env) C (xs ++ jh ix X.N) fp s H) elt te) (hsc:X.env.scope=osc:=by rfl) (hN:X.N=N:=by rfl)
  (hsw:swapsWith (.ListComp elt [⟨tg,iter,ifs,0⟩] scope pos) (some (.Name y py)) spos.line X.env=pure true:=by rfl)
  (hs:∀ x,foldedSetIterable iter X.env x=pure x:=by intro _;rfl) (hf:X.fn y=true∨X.env.scope.names.lookup y=some .local:=by first | exact .inl rfl | exact .inr rfl | assumption) :
  PS X (.Assign [.Name y py] (.ListComp elt [⟨tg,iter,ifs,0⟩] scope pos) spos) (zG (y7 wi g tt te xs.length ix) (zl j)):=by
 intro pins s σ H D I h
 have S:=qW I.ok hD hsc hN
 rw [exec_Assign_Name_used _ _ _ _ hsw]
 refine wpAny_bind (wpAny_standAt (wpAny_bind ?_))
 show wpAny _ X.A (do let _ ← comprehension (.ListComp elt [⟨tg,iter,ifs,0⟩] scope pos) scope X.env _ (newList []) false (eval iter X.env) (some (assign (.Name y py) X.env))) _ _ s
 refine wpAny_bind (thn (wpAny_comprehension_free (use:=some (assign (.Name y py) X.env)) (Q:=fun _ s'=>SP X pins D .next s') rfl hs S.clos S.kind S.names
  (Ys S hc hi hg ht he I h (RR:=fun acc C=>compPost (model X.prog X.w) X.A X.xe (some (assign (.Name y py) X.env)) (fun _ s'=>SP X pins D .next s') acc C) ?_)) fun _ s' hq=>wpAny_pure (wpAny_pure hq))
 rintro v u s' C r ⟨H',q,⟨m,hn⟩,hI,f0,f1,f2,f3,f4,f5⟩
 have I':Inv X pins σ H' s':=hI s'.heap (.refl ..)
 show wpAny _ X.A (assign (.Name y py) X.env u) _ _ _
 refine wpAny_assign_Name (Xy I' hNd hj hy r (fun s2 I2 hx=>?_) hf)
 obtain ⟨a,hb,ha⟩:=hx
 have hCa:C≠a:=by
  rcases ha with rfl | ha
  ·exact f1
  ·exact Ne.symm (f4 _ _ ha)
 refine ⟨m,hn.sameBut hb hCa,fun h' hb'=>⟨_,H',?_,q⟩⟩
 exact I2.turned (t':=s2.toks) (fun b o hne e=>(hb'.2 b hne).trans e) f0 f1 f3 f4 f5
end
end L2
namespace L2
open PySem PySem.Spec PyProof.Rows
abbrev jT:R2:=fun x y H Q=>∃ i j,x=.str i∧y=.str j∧i.length + j.length≤sizeLine∧Q (.str (i ++ j)) H
abbrev zdT:R2:=fun x y H Q=>∃ i j,x=.str i∧y=.str j∧Q (.bl (!(Builtin.Str.occurrences j i 0 j.length 1).isEmpty)) H
abbrev zcZ:R2:=fun x y H Q=>∃ i j,x=.str i∧y=.str j∧Q (.bl (!(!(Builtin.Str.occurrences j i 0 j.length 1).isEmpty))) H
abbrev zdU:R2:=fun x y H Q=>∃ a b,x=.bl a∧y=.bl b∧Q (.bl (a == b)) H
abbrev zc0:R2:=fun x y H Q=>∃ a b,x=.bl a∧y=.bl b∧Q (.bl (a != b)) H
abbrev ZM:R2:=fun x y H Q=>y=.non∧Q (.bl (decide (x=.non))) H
abbrev zdt:R2:=fun x y H Q=>y=.non∧Q (.bl (!decide (x=.non))) H
abbrev RC:=List V→Hp→VK→Prop
abbrev wp (K:W.Frag):RC:=fun xs H Q=>∃ x n,xs=[x]∧vL K x H n∧Q (.int n) H
abbrev ki (K:W.Frag):RC:=fun xs H Q=>∃ x c t b,xs=[x,c]∧qR K H x t∧(∃ T,c=.ty T∧W.kitOne K t (.type T)=some b)∧Q (.bl b) H
abbrev zdV (K:W.Frag):RC:=fun xs H Q=>∃ (a:Addr) (bs:List Bool),xs=[.ref a]∧SqL K H a (bs.map V.bl)∧Q (.bl (bs.all id)) H
abbrev zdW:RC:=fun xs H Q=>∃ i,xs=[.int i]∧Q (.int (if i < 0 then -i else i)) H
abbrev zdX:RC:=fun xs H Q=>∃ i,xs=[.int i]∧i.natAbs.log2 < 1920∧Q (.str (toString i)) H
abbrev RM:=V→List V→Hp→VK→Prop
abbrev Ql:RM:=fun x xs H Q=>∃ a b,x=.str a∧xs=[.str b]∧Q (.bl (0 + b.length≤a.length && Builtin.Str.subAt a b 0)) H
def spP (pre:List V→Hp→Prop) (post:List V→Hp→V→Hp→Prop):Sp:=fun vs H Q _=>pre vs H∧∀ r H',post vs H r H'→Same H H'→Q r H'
abbrev zdY:RC:=fun xs H Q=>∃ (x:Str) (n:Int),xs=[.str x]∧PySem.intText? x=some n∧x.length≤640∧Q (.int n) H
abbrev zb8:RM:=fun x xs H Q=>∃ a:Str,x=.str a∧xs=[]∧(∀ c∈a.cps.toList,c < 128)∧a.length≤sizeLine∧∀ y:Str,y.length=a.length→Q (.str y) H
theorem zaY {H:Hp} {p:Addr} {o:HO} (h:H p=none):∃ H',H'=upd H p o∧Same H H'∧H' p=some o :=
 ⟨_,rfl,fun b u e=>by rw [zk (zE e h)];exact e,zf⟩
theorem isV (p:Addr) {H:Hp} {o:HO} (h:H p=none):Same H (upd H p o):=fun b u e=>by rw [zk (zE e h)];exact e
theorem jB:bootBuiltins "len"=some (.builtin "len"):=by decide +kernel
theorem yx:bootBuiltins "isinstance"=some (.builtin "isinstance"):=by decide +kernel
theorem Zq:bootBuiltins "sorted"=some (.builtin "sorted"):=by decide +kernel
theorem Jr:bootBuiltins "str"=some (.type "str"):=by decide +kernel
theorem qt:bootBuiltins "int"=some (.type "int"):=by decide +kernel
theorem J2:bootBuiltins "bool"=some (.type "bool"):=by decide +kernel
theorem ZY:bootBuiltins "list"=some (.type "list"):=by decide +kernel
theorem Yt:bootBuiltins "tuple"=some (.type "tuple"):=by decide +kernel
theorem Wp:bootBuiltins "dict"=some (.type "dict"):=by decide +kernel
section
variable {X:Cx}
def big:Int:=10 ^ 200
def QH (_ j:Int):Prop:=0 < j∧j < big
def CMulB (i j:Int):Prop:=(-big < i∧i < big)∧(-big < j∧j < big)
theorem Yu {j:Int} (h:j.natAbs < 10 ^ 200):j.natAbs.log2 < 700:=by
 by_cases h0:j.natAbs=0
 ·rw [h0];decide
 ·exact (Nat.log2_lt h0).mpr (Nat.lt_of_lt_of_le h (by decide +kernel))
theorem Wq {j:Int} (h:-big < j∧j < big):j.natAbs < 10 ^ 200:=by
 have e:big=((10 ^ 200:Nat):Int):=by decide +kernel
 rw [e] at h
 lia
theorem CMulB.ok {i j:Int} (h:CMulB i j):IntMulOk i j:=by
 have b:∀ k:Int,(-big < k∧k < big)→Builtin.Int.intBits k≤2 ^ 20:=fun k hk=>by
  have q:=Yu (Wq hk)
  unfold Builtin.Int.intBits
  split <;> lia
 exact .of_bits (b i h.1) (b j h.2)
theorem xJ:OpR X (binaryOp .Mult) (rI CMulB fun i j=>.int (i * j)):=opI fun _ _ _ _ _ _ _ hc q=>mul_int q hc.ok
theorem QI:OpR X (binaryOp .FloorDiv) (rI QH fun i j=>.int (i / j)):=opI fun i j _ _ _ _ _ hc q=>by
 have h1:(0:Int) < j:=hc.1
 refine floordiv_int (by lia) ?_ (.inl (PyProof.noPylong_of_log2 (Nat.lt_trans (Yu (Wq ⟨by have:=hc.2;lia,hc.2⟩)) (by decide))))
 rw [Int.fdiv_eq_ediv_of_nonneg i (by lia)]
 exact q
theorem ji:je X (.builtin "isinstance") (ki X.K):=by
 intro pins s σ H xs us Q I r h
 obtain ⟨x,c,t,b,rfl,ty,⟨T,rfl,e⟩,q⟩:=h
 obtain ⟨u,w',rfl,r1,r2⟩:=zbG r
 cases r2
 exact KM I r1 ty e fun tk=>⟨.bl b,H,I.tok tk,rfl,q⟩
def Its (x:Str):It:=⟨fun i _=>i < x.cps.size,fun i H v H'=>H'=H∧∃ c,x.cps[i]?=some c∧v=.str ⟨#[c]⟩,fun i _=>x.cps.size≤i⟩
def zdZ (tl:TE):TI:=fun σ H R=>tl σ H fun x H1=>∃ z,x=.str z∧R (Its z) H1
def qX:V→Option Int→Option Int→Hp→VK→Prop:=fun x lo hi H Q=>∃ z,x=.str z∧z.length≤sizeLine∧Q (.str (Txt.slice z lo hi)) H
theorem Yv:SlR X qX:=by
 intro pins s σ H x v vl vu lo hi sl Q I rx hs pl pu h
 obtain ⟨z,rfl,hz,q⟩:=h
 obtain ⟨t,rfl⟩:=rx
 obtain ⟨o,ho,hc,hd⟩:=hs
 refine ⟨"str",_,F.slot_str_getitem.lookup,typeIs_str _ _ _,?_⟩
 obtain ⟨l,e1,e2⟩:∃ l:Option (Int × Tok),vl=partValue l∧lo=l.map (·.1):=by
  cases pl with
  | none=>exact ⟨none,rfl,rfl⟩
  | int i t=>exact ⟨some (i,t),rfl,rfl⟩
 obtain ⟨u,e3,e4⟩:∃ l:Option (Int × Tok),vu=partValue l∧hi=l.map (·.1):=by
  cases pu with
  | none=>exact ⟨none,rfl,rfl⟩
  | int i t=>exact ⟨some (i,t),rfl,rfl⟩
 subst e1 e2 e3 e4
 exact wpAny_getItem_str_slice (l:=l) (u:=u) (st:=none) ⟨o,ho,hc,hd⟩ rfl
  (post_val_or_str ⟨Nat.le_trans (Txt.slice_le z _ _) hz,fun t' k=>⟨.str (Txt.slice z (l.map (·.1)) (u.map (·.1))),H,I.tok k,⟨t',rfl⟩,q⟩⟩)
end
end L2
namespace L2
open PySem PySem.Spec PyProof.Rows
theorem ObjOk.there {P:Program} {w:World} {H:Hp} {h:Heap} {a:Addr} {o:HO} (x:ObjOk P w H h a o):∃ u,h.get? a=some u:=by
 cases o with
 | lst xs=>obtain ⟨_,_,_,_,e⟩:=x;exact ⟨_,e⟩
 | tup xs=>obtain ⟨_,_,_,o,e,_⟩:=x;exact ⟨_,e⟩
 | dK kvs=>obtain ⟨_,_,_,_,o,_,_,e,_⟩:=x;exact ⟨_,e⟩
 | dT kvs=>obtain ⟨_,_,_,_,o,_,_,e,_⟩:=x;exact ⟨_,e⟩
 | set S n=>obtain ⟨o,_,_,_,e,_⟩:=x;exact ⟨_,e⟩
 | ins C dx fs=>obtain ⟨_,_,_,e,_⟩:=x;exact ⟨_,e⟩
 | own y=>exact x
 | xd fs=>obtain ⟨_,⟨o,_,_,e,_⟩,_⟩:=x;exact ⟨_,e⟩
 | rng lo hi=>obtain ⟨_,_,_,e⟩:=x;exact ⟨_,e⟩
 | frz ob u=>obtain ⟨e,_⟩:=x;exact ⟨_,e⟩
 | tbl ps=>exact ⟨_,(show h.get? a=some _ from x)⟩
 | met f y=>exact ⟨_,(show h.get? a=some _ from x)⟩
 | ext φ=>obtain ⟨_,e,_⟩:=x;exact e
def XF (g h:Heap) (H:Hp) (e:Addr) (cls:Value):Prop :=
 ∃ oe vs a0 T oT ts,h.get? e=some oe∧(oe.cls=cls∧vs[0]?=some a0)∧oe.data=.fields vs∧vs[1]?=some (.ref T)∧T≠e∧h.get? T=some oT∧oT.data=.fields ts∧ts[3]?=some .none ∧
  g.get? e=none∧g.get? T=none∧H e=none∧H T=none
def CX1 (P:Program) (w:World):CXT:=fun outer H s E ev s'=>∃ e cls H',ev=.ref e∧s'.os=s.os∧AllBare s'.gens∧Un (frs outer) [] H H' s.heap s'.heap∧HOk P w H' s'.heap∧XF s.heap s'.heap H' e cls∧E cls none H'
theorem kR {g h:Heap} (k:∀ b o,g.get? b=some o→∃ o',h.get? b=some o') {b:Addr} (e:h.get? b=none):g.get? b=none:=by
 cases q:g.get? b with
 | none=>rfl
 | some o =>
  obtain ⟨o',z⟩:=k b o q
  rw [e] at z;cases z
theorem XF.older {g g' h:Heap} {H:Hp} {e:Addr} {cls:Value} (x:XF g h H e cls) (k:∀ b o,g'.get? b=some o→∃ o',g.get? b=some o'):XF g' h H e cls:=by
 obtain ⟨oe,vs,a0,T,oT,ts,h1,h2,h3,h4,h5,h6,h7,h8,h9,h10,h11,h12⟩:=x
 exact ⟨oe,vs,a0,T,oT,ts,h1,h2,h3,h4,h5,h6,h7,h8,kR k h9,kR k h10,h11,h12⟩
section
variable {X:Cx} {pins:List (Addr × Obj)} {σ:St} {H:Hp} {s:Shared}
theorem Inv.stackFields (J:Inv X pins σ H s) {b:Addr} (hb:b∈frs X.stack):∃ o,s.heap.get? b=some o∧∀ vs,o.data≠.fields vs:=(J.stack.mem hb).2
theorem Inv.there0 (hex:X.ex=[]) (J:Inv X pins σ H s):∀ b o,X.s₀.heap.get? b=some o→∃ o',s.heap.get? b=some o':=fun b o e=>J.base.there b o e (by rw [hex];simp)
theorem Inv.behind {h2:Heap} {cs:List Addr} (hex:X.ex=[]) (J:Inv X pins σ H s) (hcs:∀ b∈cs,H b=none∧X.s₀.heap.get? b=none)
  (hB:∀ b o,s.heap.get? b=some o→b ∉ frs X.stack→b ∉ cs→h2.get? b=some o) (hF:∀ b o,s.heap.get? b=some o→b∈frs X.stack→∃ sl,h2.get? b=some { o with slots:=sl }) :
  Un X.fs [] X.H₀ H X.s₀.heap h2∧HOk X.prog X.w H h2:=by
 have B:Un X.fs [] X.H₀ H X.s₀.heap s.heap:=by have:=J.base;rw [hex] at this;exact this
 have nL:∀ b o,X.s₀.heap.get? b=some o→b≠X.env.locals:=fun b o e=>Nat.ne_of_lt (Nat.lt_of_lt_of_le (Heap.lt_size e) J.ok.above)
 have nC:∀ b o,X.s₀.heap.get? b=some o→b ∉ cs:=fun b o e z=>by rw [(hcs b z).2] at e;cases e
 have any:∀ b o,s.heap.get? b=some o→b ∉ cs→∃ sl,h2.get? b=some { o with slots:=sl }:=fun b o e n=>by
  by_cases hb:b∈frs X.stack
  ·exact hF b o e hb
  ·exact ⟨o.slots,hB b o e hb n⟩
 refine ⟨⟨fun b o e n h1 _=>?_,fun b o e n h1 _=>?_,B.free,fun b o e h1=>?_,B.tups,B.frzs,B.tbls⟩,fun b u e=>?_⟩
 ·refine hB b o (B.keep b o e n h1 (by simp)) (fun z=>?_) (nC b o e)
  rcases List.mem_cons.mp (J.stkSub b z) with q | q
  ·exact nL b o e q
  ·exact h1 q
 ·obtain ⟨sl,q⟩:=B.slot b o e n h1 (by simp)
  obtain ⟨sl',q'⟩:=any b _ q (nC b o e)
  exact ⟨sl',q'⟩
 ·obtain ⟨o',q⟩:=B.there b o e (by simp)
  obtain ⟨sl,q'⟩:=any b o' q (nC b o e)
  exact ⟨_,q'⟩
 ·refine (J.hok b u e).stay (fun c v hc q=>?_) (fun _ q=>q) fun _ _ q=>q
  have hn:H c≠none:=by
   rcases hc with rfl | hc
   ·rw [e];simp
   ·rw [hc];simp
  exact hB c v q (fun z=>hn (J.stkFree c z)) fun z=>hn (hcs c z).1
theorem Inv.flown {B h2:Heap} {cs:List Addr} {e:Addr} {cls a0:Value} (hex:X.ex=[]) (J:Inv X pins σ H s) (hcs:∀ b∈cs,H b=none∧X.s₀.heap.get? b=none)
  (hB:∀ b o,s.heap.get? b=some o→b ∉ frs X.stack→b ∉ cs→B.get? b=some o) (hF:∀ b o,s.heap.get? b=some o→b∈frs X.stack→∃ sl,h2.get? b=some { o with slots:=sl })
  (he:H e=none) (he0:X.s₀.heap.get? e=none) (kb:B.StaysIn h2) (tr:h2.TracedW B e cls a0) :
  Un X.fs [] X.H₀ H X.s₀.heap h2∧HOk X.prog X.w H h2∧XF X.s₀.heap h2 H e cls:=by
 have hk:=J.behind (h2:=h2) hex hcs (fun b o q n1 n2=>kb b o (hB b o q n1 n2)) hF
 refine ⟨hk.1,hk.2,?_⟩
 obtain ⟨oe,vs,T,oT,ts,h1,h2',h3,h4,h5,h6,h7,h8,h9⟩:=tr
 have noT:∀ o,s.heap.get? T=some o→T∈cs:=fun o q=>by
  by_cases hb:T∈frs X.stack
  ·obtain ⟨o',q',nf⟩:=J.stackFields hb
   obtain ⟨sl,z⟩:=hF T o' q' hb
   rw [h7] at z
   have z':oT={ o' with slots:=sl }:=Option.some.inj z
   exact absurd (by rw [← h8,z']) (nf ts)
  ·by_cases hc:T∈cs
   ·exact hc
   ·rw [hB T o q hb hc] at h5;cases h5
 refine ⟨oe,vs,a0,T,oT,ts,h1,h2',h3,h4,h6,h7,h8,h9,he0,?_,he,?_⟩
 ·cases q:X.s₀.heap.get? T with
  | none=>rfl
  | some o =>
   obtain ⟨o',q'⟩:=J.there0 hex T o q
   rw [(hcs T (noT o' q')).2] at q;cases q
 ·cases q:H T with
  | none=>rfl
  | some u =>
   obtain ⟨o,z⟩:=(J.hok T u q).there
   rw [(hcs T (noT o z)).1] at q;cases q
theorem KR {h':Heap} {e:Addr} {cls:Value} {vs:List Value} {E:XK} {EE:Value→Shared→Prop} (hst:X.stack=X.env :: X.outer∧X.env.frame=some X.env.locals) (hex:X.ex=[]) (J:Inv X pins σ H s) (hx:Heap.MadeExcOf s.heap h' e cls vs) (hE:E cls none H) :
  wpAny (model X.prog X.w) X.A (leaving X.env (.ref e)) (fun _ s2=>CX1 X.prog X.w X.outer X.H₀ X.s₀ E (.ref e) s2) EE { s with heap:=h' }:=by
 have fr:s.heap.FunFrames (W.hideAll s.heap (frs X.stack)) (X.env :: X.outer):=by
  have q:=W.funFrames_hide (as:=frs X.stack) J.stack fun env he a ha=>List.mem_filterMap.mpr ⟨env,he,ha⟩
  rw [hst.1] at q ⊢
  exact q
 refine wpAny_leaves_madeW (s:={ s with heap:=h' }) (base:=W.hideAll s.heap (frs X.stack)) (h:=s.heap) (by rw [J.ok.frames,hst.1]) hst.2 (fun b o q=>W.of_hideAll _ q) fr hx fun h2 t hfl _ _ hup=>?_
 obtain ⟨f1,f2,f3,f4⟩:=hfl
 have hF:∀ b o,s.heap.get? b=some o→b∈frs X.stack→∃ sl,h2.get? b=some { o with slots:=sl }:=fun b o q hb=>by
  obtain ⟨o',q',nf⟩:=J.stackFields hb
  rw [q] at q';cases q'
  exact hup b o (hx.keeps b o q) nf
 obtain ⟨r1,r2,r3⟩:=J.flown (cs:=[]) hex (fun b z=>nomatch z) (fun b o q n _=>W.hideAll_get _ q n) hF
  (by
   cases q:H e with
   | none=>rfl
   | some u =>
    obtain ⟨o,z⟩:=(J.hok e u q).there
    rw [hx.new] at z;cases z)
  (kR (J.there0 hex) hx.new) f1 f4
 exact ⟨e,cls,H,rfl,J.os,J.bare,r1,r2,r3,hE⟩
theorem QJ {e:Addr} {cls:Value} {E:XK} {EE:Value→Shared→Prop} (hst:X.stack=X.env :: X.outer∧X.env.frame=some X.env.locals) (hex:X.ex=[]) (J:Inv X pins σ H s) (xf:XF X.s₀.heap s.heap H e cls) (hE:E cls none H) :
  wpAny (model X.prog X.w) X.A (leaving X.env (.ref e)) (fun _ s2=>CX1 X.prog X.w X.outer X.H₀ X.s₀ E (.ref e) s2) EE s:=by
 obtain ⟨oe,vs,a0,T,oT,ts,h1,h2,h3,h4,h5,h6,h7,h8,h9,h10,h11,h12⟩:=id xf
 have fr:s.heap.FunFrames (W.hideAll s.heap (frs X.stack ++ [e,T])) (X.env :: X.outer):=by
  have q:=W.funFrames_hide (as:=frs X.stack ++ [e,T]) J.stack fun env he a ha=>List.mem_append_left _ (List.mem_filterMap.mpr ⟨env,he,ha⟩)
  rw [hst.1] at q ⊢
  exact q
 refine wpAny_leaves_onW (base:=W.hideAll s.heap (frs X.stack ++ [e,T])) (a0:=a0) (by rw [J.ok.frames,hst.1]) hst.2
  ⟨fun b o q=>W.of_hideAll _ q,W.hideAll_none _ (List.mem_append_right _ (by simp)),fr,oe,vs,T,oT,ts,h1,h2,h3,h4,W.hideAll_none _ (List.mem_append_right _ (by simp)),h5,h6,h7,h8⟩ fun h2' hfl hup=>?_
 obtain ⟨f1,f2,f3,f4⟩:=hfl
 have hF:∀ b o,s.heap.get? b=some o→b∈frs X.stack→∃ sl,h2'.get? b=some { o with slots:=sl }:=fun b o q hb=>by
  obtain ⟨o',q',nf⟩:=J.stackFields hb
  rw [q] at q';cases q'
  exact hup b o q nf
 obtain ⟨r1,r2,r3⟩:=J.flown (cs:=[e,T]) hex (fun b z=>by
   have z':b=e∨b=T:=by simpa using z
   rcases z' with rfl | rfl
   ·exact ⟨h11,h9⟩
   ·exact ⟨h12,h10⟩) (fun b o q n n2=>W.hideAll_get _ q fun z=>(List.mem_append.mp z).elim n n2) hF h11 h9 f1 f4
 exact ⟨e,cls,H,rfl,J.os,J.bare,r1,r2,r3,hE⟩
end
def QK (X:Cx) (E:XK):Prop:=∀ (pins:List (Addr × Obj)) (σ:St) (H:Hp) (s:Shared) (h':Heap) (e:Addr) (cls:Value) (vs:List Value),Inv X pins σ H s→Heap.MadeExcOf s.heap h' e cls vs→E cls none H→X.xe (.ref e) { s with heap:=h' }
section
variable {P:Program} {w:World} {K:W.Frag} {mg:Str→Option Value} {base:Heap} {N:List Str} {qual:Str} {scope:Scope} {f:Addr} {cd:Value} {A:Around} {outer:List Env} {s₀:Shared} {H₀:Hp} {E:XK}
theorem vR:qq (CX1 P w) (qb (CX1 P w) P w K mg base N qual scope f cd A outer s₀ H₀ E) E:=by
 intro pins σ H s ev s' I hcx
 obtain ⟨e,cls,H',rfl,os,bare,un,hok,xf,hE⟩:=hcx
 have J:=I.call' (ch:=[]) os un hok bare (fun b z=>nomatch z)
 exact QJ (X:=qb (CX1 P w) P w K mg base N qual scope f cd A outer s₀ H₀ E) ⟨rfl,rfl⟩ rfl J (xf.older (I.there0 rfl)) hE
theorem J3:QK (qb (CX1 P w) P w K mg base N qual scope f cd A outer s₀ H₀ E) E:=by
 intro pins σ H s h' e cls vs I hx hE
 exact KR (X:=qb (CX1 P w) P w K mg base N qual scope f cd A outer s₀ H₀ E) ⟨rfl,rfl⟩ rfl I hx hE
theorem zcJ:PassesOwn (model P w) (qb (CX1 P w) P w K mg base N qual scope f cd A outer s₀ H₀ E).A (qb (CX1 P w) P w K mg base N qual scope f cd A outer s₀ H₀ E).env (qb (CX1 P w) P w K mg base N qual scope f cd A outer s₀ H₀ E).xe:=PassesOwn.leaving
end
abbrev Vh:List Value:=[.type "ValueError",.type "Exception",.type "BaseException",.type "object"]
abbrev Zr:String:="ValueError.__new__"
def Yw (C:Addr) (ta:TA) (E:XK):TS:=fun _ σ H=>ta σ H fun vs H1=>vs.length≤sizeLine∧E (.ref C) none H1
theorem zaZ {K:W.Frag} {h:Heap} {C:Addr} {bmB:List Value} {newId:String} (X:K.In h) (q:W.excIn K C bmB newId=true) :
  ∃ bm N nm qn bs hdct sn sub ab col dd k0 k1 k2 k3 k5 mN,h.get? C=some (excClassObj nm qn C N bs bm hdct sn sub ab col dd k0 k1 k2 k3 k5 newId)∧h.Ns N mN∧mN "__init__"=none∧OwnTail h bmB bm:=by
 unfold W.excIn at q
 split at q
 case h_2=>cases q
 rename_i dd cd sl ho
 split at q
 case h_2=>cases q
 rename_i C' bm k0 k1 k2 k3 n k5 hm hs
 rw [Bool.and_eq_true,Bool.and_eq_true,Bool.and_eq_true,Bool.and_eq_true,Bool.and_eq_true] at q
 obtain ⟨⟨⟨⟨⟨q1,q2⟩,q3⟩,q4⟩,q5⟩,q6⟩:=q
 obtain rfl:C'=C:=by simpa using q1
 obtain rfl:n=newId:=by simpa using q2
 obtain ⟨nm,bs,mro,ns,qn,hd,sn,sub,ab,col,del⟩:=cd
 have hdel:del=false:=by simpa using q3
 have hm':mro=.ref C' :: bm:=hm
 subst hdel hm'
 have hsl:sl=#[k0,k1,k2,k3,some (.builtin n),k5]:=by
  apply Array.ext'
  exact hs
 subst hsl
 exact ⟨bm,ns,nm,qn,bs,hd,sn,sub,ab,col,dd,k0,k1,k2,k3,k5,_,X _ _ ho,.of_isNs (W.isNs_of_in X q5),W.nsMap_none_of_in X q5 (by simpa using q6),W.tail_of_in X q4⟩
section
variable {X:Cx} {x:Str} {C:Addr} {np cpos pos:Pos} {e₀:Expr} {rest:List Expr} {ta:TA} {E:XK}
theorem Vi (hc:X.calm=true) (q:W.excIn X.K C Vh Zr=true) (hr:QK X E) (hg:Gl X x) (hm:X.mg x=some (.ref C)) (ha:PA X (e₀ :: rest) ta)
  (he:starEach (e₀ :: rest) X.env=(false,eval e₀ X.env) :: starEach rest X.env:=by rfl) (hp:(backTo cpos (starEach rest X.env)).any (·.1)=false:=by rfl) (hd:(x == ("__debug__":Str))=false:=by decide) :
  PS X (.Raise (some (.Call (.Name x np) (e₀ :: rest) [] cpos)) none pos) (Yw C ta E):=by
 intro pins s σ H D I h
 obtain ⟨tl,N,nm,qn,bs,hdct,sn,sub,ab,col,dd,k0,k1,k2,k3,k5,mN,hC,hN,hni,T⟩:=zaZ I.ok.mod.kin q
 refine wpAny_Raise_call_subT (C:=C) (nm:=nm) (q:=qn) (N:=N) (bs:=bs) (bm:=tl) (hdct:=hdct) (sn:=sn) (sub:=sub) (ab:=ab) (col:=col) (dd:=dd) (k0:=k0) (k1:=k1) (k2:=k2) (k3:=k3) (k5:=k5) (newId:=Zr)
  F.excBase_ValueError (mN:=mN) (T.hasType F.excBase_ValueError.hasBase) (I.ok.hd hc) (by rw [he];exact hp) hni (js I hg hm ⟨rfl,?_⟩ hd)
 have hA:=ha cpos pins s σ H _ I h
 rw [he] at hA ⊢
 refine Calls.evalArgs_plain (thn hA fun us s2 ⟨vs,H2,I2,r2,z2,q2⟩=>?_)
 exact ⟨rfl,by rw [← r2.length];exact z2,I2.bk _ _ hC,hN.keeps I2.bk,T.keeps I2.bk,fun h' e hm=>hr pins σ H2 s2 h' e _ _ I2 hm q2⟩
end
def Asc (x:Str):Prop:=∀ c∈x.cps.toList,c < 128
section
variable {X:Cx} {e:Expr} {te:TE} {a:Str} {j:Nat} {p1 p2 p3:Pos}
def zdu (te:TE):TE:=fun σ H Q=>te σ H fun v H1=>∃ x:Str,v=.str x∧x.length≤100000∧Asc x∧∀ y:Str,Q (.str y) H1
def Vj (te:TE):TE:=fun σ H Q=>te σ H fun v H1=>∃ x:Str,v=.str x∧x.length≤100000∧∀ y:Str,Q (.str y) H1
theorem J4 (he:PE X e te) (hl:a.length≤1000:=by decide +kernel):PE X (.JoinedStr [.FormattedValue e (-1) none p2,.Constant (.str a) j p1] p3) (Vj te):=by
 intro pins s σ H Q I h
 refine wpAny_JoinedStr ?_
 show wpAny _ _ (eval (.FormattedValue e (-1) none p2) X.env) _ _ s
 refine wpAny_FormattedValue_plain (thn (he pins _ σ H _ I h) fun v s1 ⟨x,H1,I1,r1,z,ex,hz,q⟩=>?_)
 subst ex
 obtain ⟨t,rfl⟩:=r1
 have hs:sizeLine=16777216:=sizeLine_eq
 have e0:(Str.empty ++ z).length=z.length:=by rw [Str.length_append];simp [Str.empty,Str.length]
 have fin:∀ (t':Tok) (tk:Nat),∃ y u,Value.str z t'=Value.str y u∧(Str.empty ++ y).length≤sizeLine∧Joins (model X.prog X.w) X.A X.xe (evalEach [.Constant (.str a) j p1] X.env) (Str.empty ++ y) (fun out s₁=>out.length≤sizeLine∧EP X pins σ Q (.str out s₁.toks) { s₁ with toks:=s₁.toks + 1 }) { s1 with toks:=tk }:=fun t' tk=>by
  refine ⟨_,_,rfl,by rw [e0];lia,?_⟩
  show wpAny _ _ (eval (.Constant (.str a) j p1) X.env) _ _ _
  have hz2:(Str.empty ++ z ++ a).length≤sizeLine:=by rw [Str.length_append,e0];lia
  refine Calls.Constant_str ⟨a,_,rfl,hz2,hz2,.str _,H1,I1.tok _,⟨_,rfl⟩,q _⟩
 exact wpAny_formatField_str (fin _ _) (fin _ _) (by lia)
end
end L2
namespace L2
open PySem PySem.Spec PyProof.Rows
structure ExC (K:W.Frag) (C:Addr):Prop where
 ga:W.findIn K (.ref C) "__getattribute__"=some (some (.builtin "BaseException.__getattribute__"))
 gx:W.findIn K (.ref C) "__getattr__"=some none
 cl:W.findIn K (.ref C) "__class__"=some (some (.builtin "object.__class__"))
 ob:W.mroIn K C (.type "object")=some true
 be:W.mroIn K C (.type "BaseException")=some true
 ge:W.specialIn K (.builtin "object.__class__") "__get__"=some (some (.builtin "getset_descriptor.__get__"))
 tk:W.takesIn K (.builtin "object.__class__")=some true
section
variable {prog:Program} {w:World} {A:Around} {E:Value→Shared→Prop} {K:W.Frag} {e C:Addr} {s:Shared}
open PySem.Builtin PySem.Builtin.Getset_descriptor in
end
end L2
namespace L2
open PySem PySem.Spec PyProof.Rows
section
variable {X:Cx} {pins:List (Addr × Obj)} {σ:St} {H:Hp} {s:Shared}
theorem Inv.land {h2:Heap} {cs:List Addr} (hex:X.ex=[]) (I:Inv X pins σ H s) (hcs:∀ b∈cs,H b=none∧X.s₀.heap.get? b=none) (hcp:∀ b∈cs,∀ p∈X.pn ++ pins,p.1≠b)
  (hB:∀ b o,s.heap.get? b=some o→b ∉ frs X.stack→b ∉ cs→h2.get? b=some o) (sm:s.heap.UpToSlots h2):Inv X pins σ H { s with heap:=h2 }:=by
 have hF:∀ b o,s.heap.get? b=some o→b∈frs X.stack→∃ sl,h2.get? b=some { o with slots:=sl }:=fun b o q hb=>by
  obtain ⟨o',q',nf⟩:=I.stackFields hb
  rw [q] at q';cases q'
  exact sm b o q nf
 obtain ⟨r1,r2⟩:=I.behind hex hcs hB hF
 have ce:∀ c v,s.heap.IsCell c v→h2.IsCell c v:=fun c v ⟨o,ho,hd⟩=>by
  obtain ⟨sl,q⟩:=sm c o ho fun vs z=>by rw [hd] at z;cases z
  exact ⟨_,q,hd⟩
 refine ⟨I.ok,I.os,I.bare,by rw [hex];exact r1,?_,fun x c e=>?_,I.free,I.freeC,fun p hp=>?_,r2,I.len⟩
 ·obtain ⟨m,hn,hl⟩:=I.loc
  refine ⟨m,sm.ns hn,fun i x v e1 e2 e3=>?_⟩
  obtain ⟨u,r,l⟩:=hl i x v e1 e2 e3
  refine ⟨u,r,?_⟩
  rcases l with l | ⟨k,c,e,z⟩
  ·exact .inl l
  ·exact .inr ⟨k,c,e,ce c _ z⟩
 ·obtain ⟨v,z⟩:=I.cell x c e
  exact ⟨v,ce c v z⟩
 ·obtain ⟨e,n,ne,nf,d⟩:=I.pin p hp
  exact ⟨hB _ _ e (fun z=>(List.mem_cons.mp (I.stkSub _ z)).elim ne nf) fun z=>hcp _ z p hp rfl,n,ne,nf,d⟩
end
def exO (e C:Addr):HO:=.ext fun h=>∃ o,h.get? e=some o∧o.cls=.ref C
abbrev Cx.sub (X:Cx) (e:Addr):Cx:={ X with A:=X.A.mark (some (.ref e)),calm:=false,xe:=fun _ _=>False }
section
variable {X:Cx} {pins:List (Addr × Obj)} {σ:St} {H:Hp} {s:Shared} {e:Addr}
theorem Inv.toSub (I:Inv X pins σ H s):Inv (X.sub e) pins σ H s :=
 ⟨⟨I.ok.mod,I.ok.kind,I.ok.glob,I.ok.blt,I.ok.above,I.ok.inj,I.ok.has,I.ok.cab,(fun z=>nomatch z),I.ok.frames,I.ok.stk,I.ok.exf,I.ok.bs,I.ok.bsz,I.ok.noex,I.ok.exfs,I.ok.funs,I.ok.frf⟩,I.os,I.bare,I.base,I.loc,I.cell,I.free,I.freeC,I.pin,I.hok,I.len⟩
theorem Inv.ofSub {J:Inv X pins σ H s} {σ':St} {H':Hp} {s':Shared} (I:Inv (X.sub e) pins σ' H' s'):Inv X pins σ' H' s' :=
 ⟨J.ok,I.os,I.bare,I.base,I.loc,I.cell,I.free,I.freeC,I.pin,I.hok,I.len⟩
end
abbrev EXK:=Value→St→Hp→Prop
def PX (X:Cx) (pins:List (Addr × Obj)) (EX:EXK):Value→Shared→Prop:=fun ev s'=>∃ e cls σ s1 H1 H',ev=.ref e∧Inv X pins σ H1 s1∧Inv X pins σ H' s'∧XF s1.heap s'.heap H' e cls∧EX cls σ H'
def PEX (X:Cx) (ex:Expr) (t:EXK→TE):Prop :=
 ∀ (pins:List (Addr × Obj)) (s:Shared) (σ:St) (H:Hp) (Q:VK) (EX:EXK),Inv X pins σ H s→t EX σ H Q→wpAny (model X.prog X.w) X.A (eval ex X.env) (EP X pins σ Q) (PX X pins EX) s
def PSX (X:Cx) (st:Stmt) (t:EXK→TS):Prop :=
 ∀ (pins:List (Addr × Obj)) (s:Shared) (σ:St) (H:Hp) (D:Xd) (EX:EXK),Inv X pins σ H s→t EX D σ H→wpAny (model X.prog X.w) X.A (exec st X.env) (SP X pins D) (PX X pins EX) s
section
variable {X:Cx} {k:Nat} {f:Addr} {fd:FuncData} {ps:List Str} {sp:Sp} {x:Str} {p pos:Pos} {e:Expr} {es:List Expr} {t:TA}
def zc7 (sp:Sp) (ta:TA) (EX:EXK):TE:=fun σ H Q=>ta σ H fun vs H1=>sp (vs ++ []) H1 Q fun cls _ H2=>EX cls σ H2
end
section
variable {X:Cx} {ex:Expr} {tx:EXK→TE} {pos p1:Pos} {i:Nat} {y:Str}
def zc8 (tx:EXK→TE) (EX:EXK):TS:=fun D σ H=>tx EX σ H fun _ H1=>D.nx σ H1
def zdv (tx:EXK→TE) (EX:EXK):TS:=fun D σ H=>tx EX σ H D.rt
def J5 (tx:EXK→TE) (i:Nat) (EX:EXK):TS:=fun D σ H=>tx EX σ H fun v H1=>D.nx (σ.set i (some v)) H1
theorem za0 {pos':Pos} (hN:X.N.Nodup) (hi:X.N[i]?=some y) (hx:Loc X.env.scope y) (he:PEX X ex tx) (hs:swapsWith ex (some (.Name y pos')) pos.line X.env=pure false:=by rfl) (hf:X.fn y=true∨X.env.scope.names.lookup y=some .local:=by first | exact .inl rfl | exact .inr rfl | assumption) :
  PSX X (.Assign [.Name y pos'] ex pos) (J5 tx i):=by
 intro pins s σ H D EX I h
 refine wpAny_Assign_Name (thn (he pins s σ H _ EX I h) fun v s1 ⟨x,H1,I1,r1,q1⟩=>?_) hs
 exact Ya I1 hN hi hx r1 (fun s2 I2=>⟨_,H1,I2,q1⟩) hf
end
structure ExK (K:W.Frag) (C:Addr):Prop extends ExC K C where
 has:(W.clsIn K C).isSome=true
def zc9 (i:Nat) (D:Xd):Xd:={ nx:=fun σ H=>D.nx (σ.set i none) H,rt:=D.rt,bk:=fun σ H=>D.bk (σ.set i none) H,ct:=fun σ H=>D.ct (σ.set i none) H }
def zd0 (K:W.Frag) (tb:EXK→TS) (C0:Addr) (i:Nat) (th:TS):TS:=fun D σ H=>tb (fun cls σ1 H1=>∃ C,cls=.ref C∧ExK K C∧W.exmOne K (.ref C) (.ref C0)=some true ∧
 ∀ e,H1 e=none→th (zc9 i D) (σ1.set i (some (.ref e))) (upd H1 e (exO e C))) D σ H
section
variable {X:Cx} {st b₀:Stmt} {suite:List Stmt} {tb:EXK→TS} {th:TS} {c n:Str} {C0:Addr} {i:Nat} {np hpos pos:Pos}
end
end L2
namespace L2
open PySem PySem.Spec PyProof.Rows
def zda:V→Option Value
 | .ty T=>some (.type T)
 | .ref D=>some (.ref D)
 | _=>none
abbrev zd1 (K:W.Frag):RC:=fun xs H Q=>∃ a C c cv b,xs=[.ref a,c]∧H a=some (exO a C)∧ExK K C∧zda c=some cv∧W.kitOne K (.ref C) cv=some b∧Q (.bl b) H
abbrev zdw (K:W.Frag):RC:=fun xs H Q=>∃ a C p,∃ cs:List Addr,∃ b,xs=[.ref a,.ref p]∧H a=some (exO a C)∧ExK K C∧H p=some (.tup (cs.map V.ref))∧W.kitAny K (.ref C) (cs.map Value.ref)=some b∧Q (.bl b) H
section
variable {X:Cx}
end
theorem zB {P:Program} {w:World} {X:Cx}:qq (CX1 P w) X E0:=fun _ _ _ _ _ _ _ h=>by
 obtain ⟨_,_,_,_,_,_,_,_,_,z⟩:=h
 exact z.elim
section
variable {P:Program} {w:World} {K:W.Frag} {mg:Str→Option Value} {base:Heap}
theorem Fun.ok1 {x qual:Str} {st:Stmt} {f:Addr} {fd:FuncData} {N ps:List Str} {k:Nat} {sp:Sp} (F:Fun K x qual st f fd) (S:zN N ps (zj st)) (len:∀ vs H Q E,sp vs H Q E→vs.length=ps.length)
  (hbody:∀ (cdv:Value) (A:Around) (outer:List Env) (s:Shared) (H:Hp) (vs:List V) (Q:VK) (E:XK),Room k (A.deeper (envOfC qual (zj st) s.heap.objs.size f cdv))→sp vs H Q E →
   ∃ t,PSs (qb (CX1 P w) P w K mg base N qual (zj st) f cdv A outer s H E) (zM st) t∧t { nx:=fun _ H'=>Q .non H',rt:=Q } (start N vs) H):FnOk P w K mg base (CX1 P w) (k + 1) f fd ps sp:=by
 obtain ⟨oc,od,kV,doc,pm,an,cdv,ct,osl,rfl,lk,hcd⟩:=F.ex
 exact zcF lk hcd S len fun A outer s H vs Q E hr hsp=>hbody cdv A outer s H vs Q E hr hsp
theorem Fun.ok0 {x qual:Str} {st:Stmt} {f:Addr} {fd:FuncData} {N ps:List Str} {k:Nat} {sp:Sp} (F:Fun K x qual st f fd) (S:zN N ps (zj st)) (len:∀ vs H Q E,sp vs H Q E→vs.length=ps.length)
  (hbody:∀ (cdv:Value) (A:Around) (outer:List Env) (s:Shared) (H:Hp) (vs:List V) (Q:VK) (E:XK),Room k (A.deeper (envOfC qual (zj st) s.heap.objs.size f cdv))→sp vs H Q E →
   ∃ t,PSs (qb (CX1 P w) P w K mg base N qual (zj st) f cdv A outer s H E).nox (zM st) t∧t { nx:=fun _ H'=>Q .non H',rt:=Q } (start N vs) H):FnOk P w K mg base (CX1 P w) (k + 1) f fd ps sp :=
 F.ok1 S len fun cdv A outer s H vs Q E hr h=>let ⟨t,a,b⟩:=hbody cdv A outer s H vs Q E hr h;⟨t,a.nox,b⟩
end
theorem walk_ofX {l:W.OpenLaw} {n k:Nat} {q:Program} {loose:List Str} {XP:(Str→Option Value)→Heap→Prop} {YP:World→Heap→Prop} {d:DefRec} {K:Params→W.Frag} {sp:W.Frag→Sp} {x:Str}
  (hn:l.most=some n) (hn2:n≤sizeLine) (hdf:d.params.defaults=[]) (hr:Room k callerA)
  (hY:∀ (w:World) (h:Heap),YP w h→(K w.params).In h)
  (F:∀ (w:World) (mg:Str→Option Value) (fa:Addr) (h:Heap),(K w.params).In h→h.Ns mainGlobals mg→mg d.name=some (.ref fa) →
   ∃ fd:FuncData,(∀ (s:Shared) (u:Value),BindsTo s fd ⟨[u],[]⟩ [(x,u)]) ∧
    ∀ base:Heap,(K w.params).In base→base.Ns mainGlobals mg→FnOk l.prog w (K w.params) mg base (CX1 l.prog w) k fa fd [x] (sp (K w.params)))
  (hsp:∀ (K:W.Frag) (H:Hp) (a:Addr) (ns:List Int),ns.length≤n→Jp H→SqL K H a (ns.map V.int)→sp K [.ref a] H (fun v _=>v=.bl true) fun _ _ _=>False) :
  W.WalkO q loose XP YP l.row.toRowW d [] (fun f vs=>PySem.call f vs) :=
 JW (K:=K) (CX:=fun w=>CX1 l.prog w) (sp:=fun w=>sp (K w.params)) hn hn2 hdf hr hY F (fun w H a ns h1 h2 h3=>hsp (K w.params) H a ns h1 h2 h3) fun _ _ _ _ _ z=>by
  obtain ⟨_,_,_,_,_,_,_,_,_,y⟩:=z
  exact y
end L2
namespace L2
open PySem
section
variable {σ:St} {H:Hp} {nx:St→Hp→Prop} {B:V→St→Hp→(St→Hp→Prop)→Prop}
theorem qu {lo:Int} {n:Nat} (Pv:Nat→St→Hp→Prop) (h0:Pv 0 σ H) (hs:∀ i σ H,i < n→Pv i σ H→B (.int (lo + i)) σ H (Pv (i + 1))) (hd:∀ σ H,Pv n σ H→nx σ H) :
  ∃ W:Nat→Nat→St→Hp→Prop,(∃ m,W 0 m σ H)∧∀ i m σ H,W i m σ H→((Itr lo n).stop i H∧nx σ H)∨((Itr lo n).go i H∧∃ N:St→Hp→Prop,(∀ σ' H',N σ' H'→∃ m',m' < m∧W (i + 1) m' σ' H')∧∀ x H',(Itr lo n).yld i H x H'→B x σ H' N):=by
 refine ⟨fun i m σ H=>m=n - i∧i≤n∧Pv i σ H,⟨n,by simp,Nat.zero_le _,h0⟩,?_⟩
 rintro i m σ H ⟨rfl,hi,p⟩
 by_cases hlt:i < n
 ·refine .inr ⟨hlt,Pv (i + 1),fun σ' H' p'=>⟨n - (i + 1),by lia,rfl,hlt,p'⟩,?_⟩
  rintro x H' ⟨rfl,rfl⟩
  exact hs i σ _ hlt p
 ·obtain rfl:i=n:=by lia
  exact .inl ⟨Nat.le_refl _,hd σ H p⟩
theorem jj {K:W.Frag} {a:Addr} (xs:List V) (Pv:Nat→St→Hp→Prop) (h0:Pv 0 σ H) (hl:∀ i σ H,Pv i σ H→SqL K H a xs) (hs:∀ i x σ H,xs[i]?=some x→Pv i σ H→B x σ H (Pv (i + 1))) (hd:∀ σ H,Pv xs.length σ H→nx σ H) :
  ∃ W:Nat→Nat→St→Hp→Prop,(∃ m,W 0 m σ H)∧∀ i m σ H,W i m σ H→((Itl K a).stop i H∧nx σ H)∨((Itl K a).go i H∧∃ N:St→Hp→Prop,(∀ σ' H',N σ' H'→∃ m',m' < m∧W (i + 1) m' σ' H')∧∀ x H',(Itl K a).yld i H x H'→B x σ H' N):=by
 refine ⟨fun i m σ H=>m=xs.length - i∧i≤xs.length∧Pv i σ H,⟨xs.length,by simp,Nat.zero_le _,h0⟩,?_⟩
 rintro i m σ H ⟨rfl,hi,p⟩
 have q:=hl i σ H p
 by_cases hlt:i < xs.length
 ·refine .inr ⟨⟨xs,xs[i],q,by simp [hlt]⟩,Pv (i + 1),fun σ' H' p'=>⟨xs.length - (i + 1),by lia,rfl,hlt,p'⟩,?_⟩
  rintro x H' ⟨rfl,y⟩
  exact hs i x σ _ (y xs q) p
 ·obtain rfl:i=xs.length:=by lia
  exact .inl ⟨⟨xs,q,Nat.le_refl _⟩,hd σ H p⟩
theorem Yx {K:W.Frag} {a:Addr} (xs:List V) (Pv:Nat→St→Hp→Prop) (h0:Pv 0 σ H) (hl:∀ i σ H,Pv i σ H→SqT K H a xs) (hs:∀ i x σ H,xs[i]?=some x→Pv i σ H→B x σ H (Pv (i + 1))) (hd:∀ σ H,Pv xs.length σ H→nx σ H) :
  ∃ W:Nat→Nat→St→Hp→Prop,(∃ m,W 0 m σ H)∧∀ i m σ H,W i m σ H→((Itt K a).stop i H∧nx σ H)∨((Itt K a).go i H∧∃ N:St→Hp→Prop,(∀ σ' H',N σ' H'→∃ m',m' < m∧W (i + 1) m' σ' H')∧∀ x H',(Itt K a).yld i H x H'→B x σ H' N):=by
 refine ⟨fun i m σ H=>m=xs.length - i∧i≤xs.length∧Pv i σ H,⟨xs.length,by simp,Nat.zero_le _,h0⟩,?_⟩
 rintro i m σ H ⟨rfl,hi,p⟩
 have q:=hl i σ H p
 by_cases hlt:i < xs.length
 ·refine .inr ⟨⟨xs,xs[i],q,by simp [hlt]⟩,Pv (i + 1),fun σ' H' p'=>⟨xs.length - (i + 1),by lia,rfl,hlt,p'⟩,?_⟩
  rintro x H' ⟨rfl,y⟩
  exact hs i x σ _ (y xs q) p
 ·obtain rfl:i=xs.length:=by lia
  exact .inl ⟨⟨xs,q,Nat.le_refl _⟩,hd σ H p⟩
end
theorem Vk {J:It} {D:Addr} {τ₀:St} {H1:Hp} {Q:Hp→Prop} {B:V→St→Hp→(V→St→Hp→Prop)→(St→Hp→Prop)→Prop} (n:Nat) (hn:n≤1000000) (C:St→Prop) (R:Nat→V→Prop) (hC:C τ₀)
  (go:∀ i H,Same H1 H→i < n→J.go i H) (stop:∀ H,Same H1 H→J.stop n H) (hD:H1 D=none)
  (hs:∀ i x τ H H',C τ→Same H1 H→i < n→J.yld i H x H'→B x τ H' (fun v τ' H4=>C τ'∧R i v∧Same H H4) (fun _ _=>False))
  (hd:∀ ys H,ys.length=n→(∀ i v,ys[i]?=some v→R i v)→Same H1 H→H D=some (.lst ys)→Q H) :
  ∃ W:Nat→Nat→List V→St→Hp→Prop,(∃ m,W 0 m [] τ₀ (upd H1 D (.lst [])))∧∀ i m ys τ H,W i m ys τ H→H D=some (.lst ys) ∧
  ((J.stop i H∧Q H)∨(J.go i H∧ys.length < sizeLine∧∃ N:V→St→Hp→Prop,
   (∀ v τ' H',N v τ' H'→H' D=some (.lst ys)∧∃ m',m' < m∧W (i + 1) m' (ys ++ [v]) τ' (upd H' D (.lst (ys ++ [v]))))∧∃ Nf:St→Hp→Prop,(∀ τ' H',Nf τ' H'→∃ m',m' < m∧W (i + 1) m' ys τ' H') ∧
   ∀ x H',J.yld i H x H'→B x τ H' N Nf)):=by
 have ext:∀ {H:Hp} {o:HO},Same H1 H→Same H1 (upd H D o):=fun {H o} h b u e=>by
  rw [zk (zE e hD)];exact h b u e
 refine ⟨fun i m ys τ H=>m=n - i∧i≤n∧ys.length=i∧(∀ j v,ys[j]?=some v→R j v)∧Same H1 H∧H D=some (.lst ys)∧C τ,⟨n,by simp,Nat.zero_le _,rfl,by simp,ext (Same.refl _),zf,hC⟩,?_⟩
 rintro i m ys τ H ⟨rfl,hi,hl,hR,hS,hy,hc⟩
 refine ⟨hy,?_⟩
 by_cases hlt:i < n
 ·refine .inr ⟨go i H hS hlt,Nat.lt_of_le_of_lt (by lia:ys.length≤1000000) (by decide),(fun v τ' H4=>C τ'∧R i v∧Same H H4),?_,(fun _ _=>False),fun _ _ z=>z.elim,fun x H' y=>hs i x τ H H' hc hS hlt y⟩
  rintro v τ' H4 ⟨c4,r4,s4⟩
  refine ⟨s4 _ _ hy,n - (i + 1),by lia,rfl,hlt,by simp [hl],fun j u hj=>?_,ext (hS.trans s4),zf,c4⟩
  rcases Nat.lt_trichotomy j ys.length with h | h | h
  ·exact hR j u (by rwa [List.getElem?_append_left h] at hj)
  ·subst h
   simp at hj
   subst hj
   rw [hl];exact r4
  ·rw [List.getElem?_eq_none (by simp;lia)] at hj;cases hj
 ·obtain rfl:i=n:=by lia
  exact .inl ⟨stop H hS,hd ys H hl hR hS hy⟩
theorem Wr (n d:Nat) (v:Int):max (0:Int) (min (if v < 0 then v + n else v) n)=((HT.sIx n d (some v):Nat):Int):=by
 show _=(((if v < 0 then (v + (n:Int)).toNat else min v.toNat n):Nat):Int)
 by_cases hv:v < 0
 ·simp only [if_pos hv];lia
 ·simp only [if_neg hv];lia
theorem za1 (a b:Nat):sliceRange (a:Int) (b:Int) 1=(List.range (b - a)).map fun k=>a + k:=by
 simp only [sliceRange,show ((1:Int) > 0)=True from by simp,if_true]
 by_cases hlt:(a:Int) < b
 ·have e3:(((b:Int) - a + 1 - 1) / 1).toNat=b - a:=by rw [Int.ediv_one];lia
  simp only [hlt,if_true,e3]
  refine List.map_congr_left fun k _=>?_
  lia
 ·have:b - a=0:=by lia
  simp [hlt,this]
theorem QL (lo hi:Option Int) (n:Nat):Builtin.Str.strSliceIndices lo hi 1 n=(List.range (HT.sIx n n hi - HT.sIx n 0 lo)).map fun k=>HT.sIx n 0 lo + k:=by
 rw [← za1]
 unfold Builtin.Str.strSliceIndices
 simp only [show ((1:Int) > 0)=True from by simp,if_true]
 cases lo with
 | none =>
  cases hi with
  | none=>rfl
  | some v=>simp only [Wr n n v];rfl
 | some u =>
  cases hi with
  | none=>simp only [Wr n 0 u];rfl
  | some v=>simp only [Wr n n v,Wr n 0 u]
theorem XQ (x:Str) (lo hi:Option Int):(Txt.slice x lo hi).cps.toList=(x.cps.toList.drop (HT.sIx x.length 0 lo)).take (HT.sIx x.length x.length hi - HT.sIx x.length 0 lo):=by
 have hb:=HT.sIx_le x.length x.length (Nat.le_refl _) hi
 have hn:x.cps.toList.length=x.length:=by simp [Str.length]
 unfold Txt.slice
 rw [QL]
 split
 ·rename_i h
  have h':HT.sIx x.length x.length hi - HT.sIx x.length 0 lo=x.length:=by simpa using h
  have e0:HT.sIx x.length 0 lo=0∨x.length=0:=by lia
  rcases e0 with e0 | e0
  ·rw [e0,List.drop_zero,List.take_of_length_le]
   lia
  ·rw [List.eq_nil_of_length_eq_zero (by lia:x.cps.toList.length=0)];simp
 ·by_cases hab:HT.sIx x.length 0 lo≤HT.sIx x.length x.length hi
  ·have h:=StrLaws.picks x.cps.toList (HT.sIx x.length x.length hi - HT.sIx x.length 0 lo) (HT.sIx x.length 0 lo) (by lia)
   simpa using h
  ·have:HT.sIx x.length x.length hi - HT.sIx x.length 0 lo=0:=by lia
   rw [this];simp
theorem Yy (x:Str) (k:Nat):(Txt.slice x (some (k:Int)) none).cps.toList=x.cps.toList.drop k:=by
 rw [XQ,HT.sIx_none,HT.sIx_nat]
 have hn:x.cps.toList.length=x.length:=by simp [Str.length]
 by_cases h:k≤x.length
 ·rw [Nat.min_eq_left h,List.take_of_length_le (by rw [List.length_drop];lia)]
 ·rw [List.drop_eq_nil_of_le (by lia:x.cps.toList.length≤k),Nat.min_eq_right (by lia),List.drop_eq_nil_of_le (by lia)];simp
theorem Vl (x:Str) (k:Nat):(Txt.slice x none (some (k:Int))).cps.toList=x.cps.toList.take k:=by
 rw [XQ,HT.sIx_none,HT.sIx_nat,List.drop_zero,Nat.sub_zero]
 have hn:x.cps.toList.length=x.length:=by simp [Str.length]
 by_cases h:k≤x.length
 ·rw [Nat.min_eq_left h]
 ·rw [Nat.min_eq_right (by lia),List.take_of_length_le (by lia),List.take_of_length_le (by lia)]
theorem za2 {x y:Str} (h:x.cps.toList=y.cps.toList):x=y:=by
 obtain ⟨a⟩:=x
 obtain ⟨b⟩:=y
 have:a=b:=Array.toList_inj.mp h
 rw [this]
theorem za3 (x y:Str):(x ++ y).cps.toList=x.cps.toList ++ y.cps.toList:=by
 show (x.cps ++ y.cps).toList=_
 simp
open PySem.NumText in
section
def zdb (w:Int):Str:=Str.ofString (toString w)
theorem ZZ (x:Str):x.length=x.cps.toList.length:=by simp [Str.length]
def inF (c:Nat):Bool:=!(Builtin.Str.occurrences "0123456789" ⟨#[c]⟩ 0 (Str.length "0123456789") 1).isEmpty
def zcK (x:Str):Bool:=!decide (x="") && x.cps.toList.all inF
def inW (i:Int):Bool:=decide (-1000000000000000000000000000000≤i∧i≤1000000000000000000000000000000)
def zbK (x:Str):Str:=if (x.cps.toList.take 1 == [45])=true then Txt.slice x (some 1) none else x
def QM (x:Str):Int:=(intText? x).getD 0
def zcL (x:Str):Bool:=!(decide (31 < (zbK x).length) || !zcK (zbK x)) && (inW (QM x) && decide (zdb (QM x)=x))
end
end L2
namespace L2
open PySem PySem.Spec PyProof.Rows
def zcM (x y:Str):Int:=match Builtin.Str.occurrences x y 0 x.length 1 with | i :: _=>(i:Int) | []=>-1
abbrev zcB:RM:=fun x xs H Q=>∃ a b,x=.str a∧xs=[.str b]∧Q (.int (zcM a b)) H
def zcN (sep:Str):List Str→Str
 | [p]=>p
 | l=>Builtin.Str.glued sep l
def zdc (sep:Str) (ls:List Str):Nat:=ls.foldl (fun n p=>n + p.length + sep.length) 0
abbrev zcC (K:W.Frag):RM:=fun x xs H Q=>∃ sep a ls,x=.str sep∧xs=[.ref a]∧SqL K H a (ls.map V.str)∧zdc sep ls≤sizeLine∧Q (.str (zcN sep ls)) H
def zdd (x:Str) (n:Int):Str:=if n < 1 then Str.empty else if (n == 1 || x.length == 0)=true then x else ⟨(List.replicate n.toNat x.cps).foldl (· ++ ·) #[]⟩
abbrev zdx:R2:=fun x y H Q=>∃ a n,x=.str a∧y=.int n∧(n < 1000000∧-1000000 < n∧a.length * n.toNat≤1000000)∧Q (.str (zdd a n)) H
section
variable {X:Cx}
end
theorem kS (x y:Str):(x ++ y).length=x.length + y.length:=Str.length_append x y
end L2
namespace L2
open PySem PySem.Spec PyProof.Rows
section
open PySem.NumText
end
end L2
namespace L2
open PySem PySem.Spec PyProof.Rows
def J6 (_ j:Int):Prop:=j≠0∧-big < j∧j < big
section
variable {X:Cx}
theorem Yz:OpR X (binaryOp .FloorDiv) (rI J6 fun i j=>.int (i.fdiv j)):=opI fun i j _ _ _ _ _ hc q =>
 floordiv_int hc.1 q (.inl (PyProof.noPylong_of_log2 (Nat.lt_trans (Yu (Wq hc.2)) (by decide))))
abbrev ZD:RC:=fun xs H Q=>∃ b:Bool,xs=[.bl b]∧Q (.int (if b then 1 else 0)) H
theorem vS:je X (.type "int") ZD:=by
 intro pins s σ H xs us Q I r h
 obtain ⟨b,rfl,q⟩:=h
 obtain ⟨u,rfl,r1⟩:=qP r
 cases r1
 exact call_int_bool ⟨.int _,H,I.tok _,⟨_,rfl⟩,q⟩
end
theorem za4 {k:Nat} {A:Around} (r:Room k A):A.units + 64 < cLine:=by have:=r.un;lia
def zd2:V→PyData
 | .non=>.none
 | .bl b=>.bool b
 | .int i=>.int i
 | .str x=>.str x
 | _=>.none
def Ws:V→Bool
 | .non=>true
 | .bl _=>true
 | .int _=>true
 | .str x=>PyData.strOk x
 | _=>false
theorem Asc.flat {x:Str} (h:Asc x):Ws (.str x)=true:=by
 unfold Ws PyData.strOk
 rw [Array.all_eq_true]
 intro i hi
 have:=h x.cps[i] (by simp)
 exact decide_eq_true (by lia)
def zde:V→V→Bool
 | .bl _,.int _=>false
 | .int _,.bl _=>false
 | _,_=>true
def QN:List V→List V→Bool
 | x :: xs,y :: ys=>zde x y && QN xs ys
 | _,_=>true
abbrev zd3 (K:W.Frag) (neg:Bool):R2:=fun x y H Q=>∃ a b xs ys,x=.ref a∧y=.ref b∧SqL K H a xs∧SqL K H b ys∧(xs.all Ws=true∧ys.all Ws=true∧QN xs ys=true)∧Q (.bl (if neg then !decide (xs=ys) else decide (xs=ys))) H
section
variable {X:Cx}
abbrev zdf (K:W.Frag):R2:=fun x y H Q=>∃ a b xs,x=.ref a∧y=.ref b∧SqL K H a xs∧SqL K H b []∧Q (.bl (decide (xs=[]))) H
end
end L2
namespace L2
open PySem PySem.Spec PyProof.Rows
abbrev zn:RM:=zP
abbrev yz:RM:=Ym
def jw:List V:=[.str "plus",.str "minus",.str "times",.str "over",.str "rest",.str "under",.str "same"]
def isJ (v:V):Bool:=inV v jw
inductive Er where
 | nought | great | stuck
 deriving DecidableEq
def yD (w:Str) (a b:Int):Int :=
 if w="plus" then a + b else if w="minus" then a - b else if w="times" then a * b else if w="under" then (if a < b then 1 else 0) else if w="same" then (if a=b then 1 else 0) else if w="over" then a.fdiv b else a.fmod b
def qh (w:Str):Prop:=¬ w="plus"∧¬ w="minus"∧¬ w="times"∧¬ w="under"∧¬ w="same"
instance (w:Str):Decidable (qh w):=by unfold qh;infer_instance
def yR (w:Str) (a b:Int):Except Er Int:=if qh w∧b=0 then .error .nought else if inW (yD w a b)=true then .ok (yD w a b) else .error .great
def YA (kvs:List (Key × V)):V→Int
 | .int i=>i
 | .str x=>(match yB kvs (.inr x) with | some (.int i)=>i | _=>0)
 | _=>0
def xT (kvs:List (Key × V)) (st:List Int) (v:V):Except Er (List Int) :=
 if isJ v=true then (match v,st.reverse with | .str w,b :: a :: r=>(match yR w a b with | .ok c=>.ok (r.reverse ++ [c]) | .error e=>.error e) | _,_=>.error .stuck) else .ok (st ++ [YA kvs v])
def wz (kvs:List (Key × V)):List V→List Int→Except Er (List Int)
 | [],st=>.ok st
 | v :: r,st=>match xT kvs st v with | .ok st'=>wz kvs r st' | .error e=>.error e
section
variable {kvs:List (Key × V)}
theorem kj:∀ (p q:List V) (st:List Int),wz kvs (p ++ q) st=match wz kvs p st with | .ok st'=>wz kvs q st' | .error e=>.error e
 | [],q,st=>rfl
 | v :: r,q,st=>by
  show (match xT kvs st v with | .ok st'=>wz kvs (r ++ q) st' | .error e=>.error e)=match (match xT kvs st v with | .ok st'=>wz kvs r st' | .error e=>.error e) with | .ok st'=>wz kvs q st' | .error e=>.error e
  cases xT kvs st v with
  | error e=>rfl
  | ok st'=>exact kj r q st'
def Good (kvs:List (Key × V)) (ps:List V) (r:Except Er Int):Prop:=(∀ st,wz kvs ps st=match r with | .ok i=>.ok (st ++ [i]) | .error e=>.error e)∧r≠.error .stuck
theorem KS {v:V} (h:isJ v=false):Good kvs [v] (.ok (YA kvs v)):=by
 refine ⟨fun st=>?_,fun z=>nomatch z⟩
 unfold wz xT
 rw [h,if_neg (by decide)]
 rfl
def zbL (w:Str) (r1 r2:Except Er Int):Except Er Int:=match r1 with | .error e=>.error e | .ok a=>match r2 with | .error e=>.error e | .ok b=>yR w a b
theorem QO (w:Str) (a b:Int):yR w a b≠.error .stuck:=by
 unfold yR
 split
 ·exact fun z=>nomatch z
 ·split <;> exact fun z=>nomatch z
theorem KU {w:Str} {p1 p2:List V} {r1 r2:Except Er Int} (hw:isJ (.str w)=true) (g1:Good kvs p1 r1) (g2:Good kvs p2 r2):Good kvs (p1 ++ p2 ++ [.str w]) (zbL w r1 r2):=by
 refine ⟨fun st=>?_,?_⟩
 ·rw [kj,kj,g1.1]
  cases r1 with
  | error e=>rfl
  | ok a =>
   show (match wz kvs p2 (st ++ [a]) with | .ok st'=>wz kvs [.str w] st' | .error e=>.error e)=_
   rw [g2.1]
   cases r2 with
   | error e=>rfl
   | ok b =>
    show wz kvs [.str w] (st ++ [a] ++ [b])=match yR w a b with | .ok i=>.ok (st ++ [i]) | .error e=>.error e
    unfold wz xT
    rw [hw,if_pos rfl]
    simp only [List.reverse_append,List.reverse_cons,List.reverse_nil,List.nil_append,List.cons_append,List.append_assoc]
    cases yR w a b with
    | error e=>rfl
    | ok c=>simp [wz]
 ·unfold zbL
  cases r1 with
  | error e=>exact g1.2
  | ok a =>
   cases r2 with
   | error e=>exact g2.2
   | ok b=>exact QO w a b
theorem Z0 {ps:List V} {i:Nat} {st:List Int} {e:Er} (h:wz kvs (ps.take i) st=.error e):wz kvs ps st=.error e:=by
 have:=kj (kvs:=kvs) (ps.take i) (ps.drop i) st
 rw [List.take_append_drop,h] at this
 exact this
theorem J7 {ps:List V} {i:Nat} {st st0:List Int} {v:V} (h:wz kvs (ps.take i) st0=.ok st) (hv:ps[i]?=some v):wz kvs (ps.take (i + 1)) st0=xT kvs st v:=by
 rw [List.take_add_one,hv]
 show wz kvs (ps.take i ++ [v]) st0=_
 rw [kj,h]
 show (match xT kvs st v with | .ok st'=>wz kvs [] st' | .error e=>.error e)=_
 cases xT kvs st v <;> rfl
end
def jC (v:V):Prop:=(∃ i,v=.int i∧inW i=true)∨∃ x:Str,v=.str x∧x.length≤1000
def xy (kvs:List (Key × V)):Prop:=∀ k v,yB kvs k=some v→∃ i,v=.int i∧inW i=true
theorem YB {kvs:List (Key × V)} (h:xy kvs) {v:V} (hv:jC v):inW (YA kvs v)=true:=by
 rcases hv with ⟨i,rfl,hi⟩ | ⟨x,rfl,_⟩
 ·exact hi
 ·show inW (match yB kvs (.inr x) with | some (.int i)=>i | _=>0)=true
  cases e:yB kvs (.inr x) with
  | none=>rfl
  | some u =>
   obtain ⟨i,rfl,hi⟩:=h _ _ e
   exact hi
theorem inW_iff {i:Int}:inW i=true↔-1000000000000000000000000000000≤i∧i≤1000000000000000000000000000000:=by unfold inW;rw [decide_eq_true_eq]
theorem Z4 {i:Int} (h:inW i=true):-big < i∧i < big:=by
 have:=inW_iff.mp h
 have hb:(1000000000000000000000000000001:Int) < big:=by decide +kernel
 lia
theorem Vm {a b:Int} (ha:inW a=true) (hb:b≠0):inW (a.fdiv b)=true:=by
 have:=inW_iff.mp ha
 refine inW_iff.mpr ?_
 have h1:(a.fdiv b).natAbs≤a.natAbs:=by
  rcases Int.lt_or_gt_of_ne hb with h | h
  ·rw [← Int.neg_fdiv_neg,Int.fdiv_eq_ediv_of_nonneg _ (by lia)]
   have:=Int.natAbs_ediv_le_natAbs (-a) (-b)
   lia
  ·rw [Int.fdiv_eq_ediv_of_nonneg _ (by lia)]
   exact Int.natAbs_ediv_le_natAbs a b
 lia
theorem QP {a b:Int} (h:inW b=true) (hb:b≠0):inW (a.fmod b)=true:=by
 have:=inW_iff.mp h
 refine inW_iff.mpr ?_
 rcases Int.lt_or_gt_of_ne hb with h | h
 ·have e:=Int.neg_fmod_neg a b
  have h1:=Int.fmod_nonneg_of_pos (-a) (b:=-b) (by lia)
  have h2:=Int.fmod_lt_of_pos (-a) (b:=-b) (by lia)
  lia
 ·have h1:=Int.fmod_nonneg_of_pos a (b:=b) h
  have h2:=Int.fmod_lt_of_pos a (b:=b) h
  lia
end L2
namespace L2
open PySem PySem.Spec PyProof.Rows
def Itv (K:W.Frag) (a:Addr) (xs:List V):It:=⟨fun i H=>i < xs.length∧SqL K H a xs,fun i H x H'=>H'=H∧xs[xs.length - 1 - i]?=some x,fun i _=>xs.length≤i⟩
def zd4 (K:W.Frag) (ta:TA):TI:=fun σ H R=>ta σ H fun vs H1=>∃ a xs,vs=[.ref a]∧SqL K H1 a xs∧R (Itv K a xs) H1
section
variable {X:Cx} {tg:Expr}
end
section
variable {σ:St} {H:Hp} {nx:St→Hp→Prop} {B:V→St→Hp→(St→Hp→Prop)→Prop}
end
end L2
namespace L2
open PySem PySem.Spec PyProof.Rows
abbrev KW (K:W.Frag):RC:=fun xs H Q=>∃ p ys,xs=[.ref p]∧(SqL K H p ys∨SqT K H p ys)∧∀ l,H l=none→Q (.ref l) (upd H l (.lst ys))
abbrev zd5:RC:=fun xs H Q=>∃ i j,xs=[.int i,.int j]∧Q (.int (if j < i then j else i)) H
def inL (c:Nat):Bool:=!(Builtin.Str.occurrences "abcdefghijklmnopqrstuvwxyz" ⟨#[c]⟩ 0 (Str.length "abcdefghijklmnopqrstuvwxyz") 1).isEmpty
def wl:List V:=[.str "take",.str "give",.str "let",.str "say",.str "off",.str "if",.str "else",.str "end",.str "as"]
def yF (x:Str):Bool:=!(decide (x="") || decide (6 < x.length)) && !(inV (.str x) jw || inV (.str x) wl) && x.cps.toList.all inL
theorem za5 (c:Nat):inL c=true→97≤c∧c≤122:=by
 unfold inL
 rw [StrLaws.found_one]
 have e:(Str.ofString "abcdefghijklmnopqrstuvwxyz").cps.toList=[97,98,99,100,101,102,103,104,105,106,107,108,109,110,111,112,113,114,115,116,117,118,119,120,121,122]:=by decide +kernel
 rw [e]
 simp only [decide_eq_true_eq,List.mem_cons,List.not_mem_nil,or_false]
 omega
theorem qY {x:Str} (h:yF x=true):x.cps.toList≠[]∧x.length≤6∧isJ (.str x)=false∧x.cps.toList.all inL=true:=by
 unfold yF at h
 rw [Bool.and_eq_true,Bool.and_eq_true,Bool.not_eq_true',Bool.not_eq_true',Bool.or_eq_false_iff,Bool.or_eq_false_iff,decide_eq_false_iff_not,decide_eq_false_iff_not] at h
 refine ⟨fun z=>h.1.1.1 (za2 (by rw [z];decide +kernel)),by lia,h.1.2.1,h.2⟩
def QQ (w:Str):Option V:=if yF w=true then some (.str w) else if zcL w=true then some (.int (QM w)) else none
inductive Tw where
 | leaf (w:Str) | node (w:Str) (a b:Tw)
def pre:Tw→List Str
 | .leaf w=>[w]
 | .node w a b=>w :: (pre a ++ pre b)
def wfT:Tw→Prop
 | .leaf w=>isJ (.str w)=false
 | .node w a b=>isJ (.str w)=true∧wfT a∧wfT b
def okT:Tw→Bool
 | .leaf w=>(QQ w).isSome
 | .node _ a b=>okT a && okT b
def pvw (w:Str):V:=(QQ w).getD (.str w)
def pst:Tw→List V
 | .leaf w=>[pvw w]
 | .node w a b=>pst a ++ pst b ++ [.str w]
def zcO:List Str→Nat→Option Nat
 | _,0=>some 0
 | [],_ + 1=>none
 | w :: r,d + 1=>(zcO r (if isJ (.str w)=true then d + 2 else d)).map (· + 1)
def J8 (st:List (List V)) (w:Str):Except Bool (List (List V)) :=
 if isJ (.str w)=true then (match st.reverse with | a :: b :: r=>.ok (r.reverse ++ [a ++ b ++ [.str w]]) | _=>.error false) else (match QQ w with | some v=>.ok (st ++ [[v]]) | none=>.error true)
def Js:List Str→List (List V)→Except Bool (List (List V))
 | [],st=>.ok st
 | w :: r,st=>match J8 st w with | .ok st'=>Js r st' | .error e=>.error e
theorem QR:∀ (p q:List Str) (st:List (List V)),Js (p ++ q) st=match Js p st with | .ok st'=>Js q st' | .error e=>.error e
 | [],q,st=>rfl
 | v :: r,q,st=>by
  show (match J8 st v with | .ok st'=>Js (r ++ q) st' | .error e=>.error e)=match (match J8 st v with | .ok st'=>Js r st' | .error e=>.error e) with | .ok st'=>Js q st' | .error e=>.error e
  cases J8 st v with
  | error e=>rfl
  | ok st'=>exact QR r q st'
theorem Jt {c:Const} {j:Nat} {p:Pos} {es:List Expr} {env:Env}:starEach (.Constant c j p :: es) env=(false,eval (.Constant c j p) env) :: starEach es env:=by
 first | rfl | simp only [starEach]
theorem jD {X:Cx} {es:List Expr} {t:TA} {x:Str} {j:Nat} {p:Pos} (hr:PA X es t):PA X (.Constant (.str x) j p :: es) (zb (tC (.str x)) t):=za zw hr Jt
end L2
namespace L2
open PySem PySem.Spec PyProof.Rows
abbrev zd6:RC:=fun xs H Q=>∃ a kvs,xs=[.ref a]∧H a=some (.dK kvs)∧∀ p,H p=none→Q (.ref p) (upd H p (.dK kvs))
abbrev zd7:R2:=fun x y H Q=>∃ a b kvs,x=.ref a∧y=.ref b∧H a=some (.dK kvs)∧H b=some (.dK kvs)∧(∀ p∈kvs,∃ i,p.2=V.int i)∧Q (.bl false) H
section
variable {X:Cx}
end
theorem QS {x:Str} (h:yF x=true):Asc x:=fun c hc=>by
 have:=za5 c (List.all_eq_true.mp (qY h).2.2.2 c hc)
 lia
end L2
namespace L2
open PySem PySem.Spec PyProof.Rows
section
variable {P:Program} {w:World} {A:Around} {E:Value→Shared→Prop} {s:Shared}
end
section
variable {P:Program} {w:World} {A:Around} {E:Value→Shared→Prop} {s:Shared}
end
section
variable {P:Program} {w:World} {A:Around} {E:Value→Shared→Prop} {s:Shared}
end
theorem Inv.turnedL {X:Cx} {pins:List (Addr × Obj)} {σ:St} {H:Hp} {s:Shared} {h':Heap} {t':Nat} {ch:List Addr} (I:Inv X pins σ H s) (k:∀ b o,b ∉ ch→s.heap.get? b=some o→h'.get? b=some o) (hf:∀ b∈ch,ke X pins H b) :
  Inv X pins σ H { s with heap:=h',toks:=t' }:=by
 have nit:∀ b u,H b=some u→b ∉ ch:=fun b u e z=>by rw [(hf b z).1] at e;cases e
 refine I.step (g':=s.gens) (d':=s.drawn) (ch:=ch) (fun b hb=>?_) (fun b o _ _ hc e _=>k b o hc e) (fun b o _ _ hc e _=>⟨o.slots,k b o hc e⟩) (fun _ _ _ _ n=>n) (fun b o hc e=>⟨o,k b o hc e⟩) (fun _ _ e=>e) (fun _ _ _ e=>e) (fun b ps e=>⟨#[],by rw [e];simp⟩) (fun m hm=>?_) (fun b u e=>?_) I.bare
 ·obtain ⟨f0,f1,f2,f3,f4,f5⟩:=hf b hb
  exact ⟨f3,f1,f4,f5⟩
 ·obtain ⟨o,es,ep,ho,r⟩:=hm
  exact ⟨o,es,ep,k _ o (fun z=>(hf _ z).2.1 rfl) ho,r⟩
 ·refine (I.hok b u e).stay (fun c v hc q=>k c v ?_ q) (fun _ q=>q) fun _ _ q=>q
  rcases hc with z | z
  ·rw [z];exact nit b u e
  ·exact nit c _ z
def Itz (K:W.Frag) (p q:Addr) (xs ys:List V):It:=⟨fun i H=>i < xs.length∧SqT K H p xs∧SqT K H q ys,fun i H x H'=>∃ T u v,x=.ref T∧H T=none∧H'=upd H T (.tup [u,v])∧xs[i]?=some u∧ys[i]?=some v,fun i H=>xs.length≤i∧SqT K H p xs∧SqT K H q ys⟩
def zd8 (K:W.Frag) (ta:TA):TI:=fun σ H R=>ta σ H fun vs H1=>∃ p q xs ys,vs=[.ref p,.ref q]∧SqT K H1 p xs∧SqT K H1 q ys∧xs.length=ys.length∧R (Itz K p q xs ys) H1
section
variable {X:Cx}
end
section
variable {σ:St} {H:Hp} {nx:St→Hp→Prop} {B:V→St→Hp→(St→Hp→Prop)→Prop}
end
abbrev qv (K:W.Frag):RC:=fun xs H Q=>∃ p ys,xs=[.ref p]∧((SqL K H p ys∧∀ l,H l=none→Q (.ref l) (upd H l (.tup ys)))∨(SqT K H p ys∧Q (.ref p) H))
def J9 (st:List (List V)) (v:V):Option (List (List V)):=if isJ v=true then (match st.reverse with | b :: a :: r=>some (r.reverse ++ [v :: (a ++ b)]) | _=>none) else some (st ++ [[v]])
def Ju:List V→List (List V)→Option (List (List V))
 | [],st=>some st
 | v :: r,st=>(J9 st v).bind (Ju r)
theorem QT:∀ (p q:List V) (st:List (List V)),Ju (p ++ q) st=(Ju p st).bind (Ju q)
 | [],q,st=>rfl
 | v :: r,q,st=>by
  show (J9 st v).bind (Ju (r ++ q))=((J9 st v).bind (Ju r)).bind (Ju q)
  cases J9 st v with
  | none=>rfl
  | some st'=>exact QT r q st'
end L2
namespace L2
open PySem PySem.W PyProof.Rows
section
variable {α β:Type} {lt:Nat→Nat→Bool} {n:Nat}
def kOk (lt:Nat→Nat→Bool) (n:Nat):KasT α→(α→Prop)→Prop
 | .ret a,R=>R a
 | .ask i j k,R=>i < n∧j < n∧i≠j∧kOk lt n (k (lt i j)) R
theorem QU:∀ {t:KasT α} {f:α→KasT β} {R:β→Prop},kOk lt n t (fun a=>kOk lt n (f a) R)→kOk lt n (t.bind f) R
 | .ret _,_,_,h=>h
 | .ask _ _ _,_,_,h=>⟨h.1,h.2.1,h.2.2.1,QU h.2.2.2⟩
theorem QV:∀ {t:KasT α} {R R':α→Prop},kOk lt n t R→(∀ a,R a→R' a)→kOk lt n t R'
 | .ret _,_,_,h,m=>m _ h
 | .ask _ _ _,_,_,h,m=>⟨h.1,h.2.1,h.2.2.1,QV h.2.2.2 m⟩
structure SO (lt:Nat→Nat→Bool) (n:Nat):Prop where
 irr:∀ i,i < n→lt i i=false
 trans:∀ i j k,i < n→j < n→k < n→lt i j=true→lt j k=true→lt i k=true
 tot:∀ i j,i < n→j < n→i≠j→lt i j=false→lt j i=true
def PP (n:Nat) (p:Array Nat):Prop:=p.Perm (List.range n).toArray
def gt (p:Array Nat) (k:Nat):Nat:=p.getD k 0
theorem wT {p:Array Nat} {k:Nat} (h:k < p.size):p[k]?=some (gt p k):=by
 unfold gt
 rw [Array.getD_eq_getD_getElem?,Array.getElem?_eq_getElem h]
 rfl
theorem PP.size {p:Array Nat} (h:PP n p):p.size=n:=by
 have:=h.size_eq
 simpa using this
theorem PP.blt {p:Array Nat} (h:PP n p) {k:Nat} (hk:k < n):gt p k < n:=by
 have hs:=h.size
 have m:gt p k∈p:=Array.mem_of_getElem? (wT (by lia))
 have m2:gt p k∈(List.range n).toArray:=(Array.Perm.mem_iff h).mp m
 simpa using m2
theorem PP.inj {p:Array Nat} (h:PP n p) {i j:Nat} (hi:i < n) (hj:j < n) (e:gt p i=gt p j):i=j:=by
 have hs:=h.size
 have nd:p.toList.Nodup:=by
  have:p.toList.Perm (List.range n):=by
   have:=Array.perm_iff_toList_perm.mp h
   simpa using this
  exact this.nodup_iff.mpr List.nodup_range
 have e1:=wT (p:=p) (k:=i) (by lia)
 have e2:=wT (p:=p) (k:=j) (by lia)
 rw [← e] at e2
 have e1':p.toList[i]?=some (gt p i):=by simpa using e1
 have e2':p.toList[j]?=some (gt p i):=by simpa using e2
 obtain ⟨a1,b1⟩:=List.getElem?_eq_some_iff.mp e1'
 obtain ⟨a2,b2⟩:=List.getElem?_eq_some_iff.mp e2'
 exact (List.getElem_inj nd).mp (b1.trans b2.symm)
def YC (lt:Nat→Nat→Bool) (p:Array Nat) (m:Nat):Prop:=∀ i j,i < j→j < m→lt (gt p i) (gt p j)=true
theorem Vn (S:SO lt n) {p:Array Nat} (hp:PP n p) {k:Nat} (hk:k < n) (hr:YC lt p k):∀ (f l r:Nat),l≤r→r≤k→r - l≤f→(∀ i,i < l→lt (gt p i) (gt p k)=true)→(∀ i,r≤i→i < k→lt (gt p k) (gt p i)=true) →
  kOk lt n (kas_place p k f l r) fun m=>m≤k∧(∀ i,i < m→lt (gt p i) (gt p k)=true)∧∀ i,m≤i→i < k→lt (gt p k) (gt p i)=true
 | 0,l,r,h1,h2,h3,h4,h5=>⟨by lia,h4,fun i hi hik=>h5 i (by lia) hik⟩
 | f + 1,l,r,h1,h2,h3,h4,h5=>by
  unfold kas_place
  by_cases c:l ≥ r
  ·rw [if_pos c]
   exact ⟨by lia,h4,fun i hi hik=>h5 i (by lia) hik⟩
  ·rw [if_neg c]
   refine ⟨hp.blt (by lia),hp.blt (by lia),(fun z=>by have:=hp.inj (by lia) (by lia) z;lia),?_⟩
   show kOk lt n (if lt (gt p k) (gt p ((l + r) / 2))=true then _ else _) _
   by_cases d:lt (gt p k) (gt p ((l + r) / 2))=true
   ·rw [if_pos d]
    refine Vn S hp hk hr f l ((l + r) / 2) (by lia) (by lia) (by lia) h4 fun i hi hik=>?_
    by_cases e:i=(l + r) / 2
    ·rw [e];exact d
    ·exact S.trans _ _ _ (hp.blt (by lia)) (hp.blt (by lia)) (hp.blt (by lia)) d (hr _ i (by lia) hik)
   ·rw [if_neg d]
    have up:lt (gt p ((l + r) / 2)) (gt p k)=true:=S.tot _ _ (hp.blt (by lia)) (hp.blt (by lia)) (fun z=>by have:=hp.inj (by lia) (by lia) z;lia) (Bool.eq_false_iff.mpr d)
    refine Vn S hp hk hr f ((l + r) / 2 + 1) r (by lia) (by lia) (by lia) (fun i hi=>?_) h5
    by_cases e:i=(l + r) / 2
    ·rw [e];exact up
    ·exact S.trans _ _ _ (hp.blt (by lia)) (hp.blt (by lia)) (hp.blt (by lia)) (hr i _ (by lia) (by lia)) up
theorem zb9 {p:Array Nat} {k d j:Nat} (hk:k < p.size) (hd:d≤k) (hj:j < p.size):gt (bubble p k d) j=if j=k - d then gt p k else if k - d < j∧j≤k then gt p (j - 1) else gt p j:=by
 have e:=getElem?_bubble hk d hd j
 rw [wT (p:=bubble p k d) (k:=j) (by rw [bubble_size];exact hj)] at e
 by_cases h1:j=k - d
 ·rw [if_pos h1,wT hk] at e
  rw [if_pos h1];exact Option.some.inj e
 ·rw [if_neg h1] at e ⊢
  by_cases h2:k - d < j∧j≤k
  ·rw [if_pos h2,wT (by lia)] at e
   rw [if_pos h2];exact Option.some.inj e
  ·rw [if_neg h2,wT hj] at e
   rw [if_neg h2];exact Option.some.inj e
end
end L2
namespace L2
open PySem PySem.W PyProof.Rows
abbrev SMZ:=StateT SortSt Sem
def jk:Bool→Keyed→Array Keyed→Nat→Nat→Nat→SMZ (Option Nat):=sortPriv% PySem.Builtin.gallop
def KY:Array Keyed→Array Keyed→SMZ (Array Keyed):=sortPriv% PySem.Builtin.mergeLo
def KZ:Array Keyed→Array Keyed→SMZ (Array Keyed):=sortPriv% PySem.Builtin.mergeHi
def Ka (g:Nat):SMZ Unit:=(sortPriv% PySem.Builtin.setMinGallop) g
def Kb (left:Bool) (key:Keyed) (arr:Array Keyed) (base:Nat) (i:Nat):SMZ (Option Bool):=do
 let x ← elem' arr (base + i)
 if left then lt' x key else return (← lt' key x).map (!·)
def gBZ (bf:Nat→SMZ (Option Bool)) (n lo hi:Nat):SMZ (Option (Option Nat) × Nat × Nat) :=
 forIn [:n] (none,lo,hi) fun _ z=>if z.2.1 ≥ z.2.2 then pure (.done (none,z.2.1,z.2.2)) else do
  match ← bf (z.2.1 + (z.2.2 - z.2.1) / 2) with
  | some m=>if m=true then pure (.yield (none,z.2.1 + (z.2.2 - z.2.1) / 2 + 1,z.2.2)) else pure (.yield (none,z.2.1,z.2.1 + (z.2.2 - z.2.1) / 2))
  | _=>pure (.done (some none,z.2.1,z.2.2))
def gEZ (bf:Nat→SMZ (Option Bool)) (n lo hi:Nat):SMZ (Option Nat):=do
 let z ← gBZ bf n lo hi
 match z.1 with
 | some r=>pure r
 | none=>pure (some z.2.2)
def gRZ (bf:Nat→SMZ (Option Bool)) (n hint mx:Nat):SMZ (Option (Option Nat) × Nat × Nat) :=
 forIn [:n] (none,0,1) fun _ z=>if z.2.2 ≥ mx then pure (.done (none,z.2.1,z.2.2)) else do
  match ← bf (hint + z.2.2) with
  | some m=>if (!m)=true then pure (.done (none,z.2.1,z.2.2)) else pure (.yield (none,z.2.2,2 * z.2.2 + 1))
  | _=>pure (.done (some none,z.2.1,z.2.2))
def gLZ (bf:Nat→SMZ (Option Bool)) (n hint mx:Nat):SMZ (Option (Option Nat) × Nat × Nat) :=
 forIn [:n] (none,0,1) fun _ z=>if z.2.2 ≥ mx then pure (.done (none,z.2.1,z.2.2)) else do
  match ← bf (hint - z.2.2) with
  | some m=>if m=true then pure (.done (none,z.2.1,z.2.2)) else pure (.yield (none,z.2.2,2 * z.2.2 + 1))
  | _=>pure (.done (some none,z.2.1,z.2.2))
def Kc (bf:Nat→SMZ (Option Bool)) (n hint:Nat):SMZ (Option Nat):=do
 match ← bf hint with
 | some r=>if r=true then (do
   let z ← gRZ bf n hint (n - hint)
   match z.1 with
   | some r=>pure r
   | none=>gEZ bf n (hint + z.2.1 + 1) (hint + min z.2.2 (n - hint))) else (do
   let z ← gLZ bf n hint (hint + 1)
   match z.1 with
   | some r=>pure r
   | none=>gEZ bf n (hint + 1 - min z.2.2 (hint + 1)) (hint - z.2.1))
 | _=>pure none
theorem Vo (left:Bool) (key:Keyed) (arr:Array Keyed) (base n hint:Nat):jk left key arr base n hint=Kc (Kb left key arr base) n hint:=by
 have tl:∀ (lo hi:Nat) (f:Option (Option Nat) × Nat × Nat→SMZ (Option Nat)),(∀ z,f z=match z.1 with | some r=>pure r | none=>pure (some z.2.2))→(gBZ (Kb left key arr base) n lo hi >>= f)=gEZ (Kb left key arr base) n lo hi:=fun lo hi f h=>by
  unfold gEZ
  congr 1
  exact funext h
 unfold Kc
 show bind _ _=bind _ _
 congr 1
 funext z
 cases z with
 | none=>rfl
 | some r =>
  show ite _ _ _=ite _ _ _
  congr 1
  ·show bind _ _=bind _ _
   congr 1
   funext z
   obtain ⟨z1,z2,z3⟩:=z
   cases z1 with
   | some r=>rfl
   | none =>
    refine tl _ _ _ fun z=>?_
    obtain ⟨z1,z2,z3⟩:=z
    cases z1 <;> rfl
  ·show bind _ _=bind _ _
   congr 1
   funext z
   obtain ⟨z1,z2,z3⟩:=z
   cases z1 with
   | some r=>rfl
   | none =>
    refine tl _ _ _ fun z=>?_
    obtain ⟨z1,z2,z3⟩:=z
    cases z1 <;> rfl
section
variable {prog:Program} {w:World} {A:Around} {E:Value→Shared→Prop} {s:Shared}
def zbM (M:Model) (A:Around) (E:Value→Shared→Prop) (s:Shared) (st:SortSt) (bf:Nat→SMZ (Option Bool)) (b:Nat→Bool) (n:Nat):Prop:=∀ i,i < n→∀ Q:Option Bool→SortSt→Prop,Q (some (b i)) st→wpS M A E s (bf i) Q st
structure zca (b:Nat→Bool) (n k:Nat):Prop where
 le:k≤n
 lo:∀ i,i < k→b i=true
 hi:∀ i,k≤i→i < n→b i=false
variable {M:Model} {st:SortSt} {bf:Nat→SMZ (Option Bool)} {b:Nat→Bool} {n:Nat}
theorem Kd {lo hi:Nat} {Q:Option Nat→SortSt→Prop} (ha:zbM M A E s st bf b n) (mono:∀ i j,i≤j→j < n→b j=true→b i=true) (h1:lo≤hi) (h2:hi≤n) (hl:∀ i,i < lo→b i=true) (hh:∀ i,hi≤i→i < n→b i=false) (q:∀ k,zca b n k→Q (some k) st) :
  wpS M A E s (gEZ bf n lo hi) Q st:=by
 unfold gEZ
 refine wpS_bind (wpS_mono (show wpS M A E s (gBZ bf n lo hi) (fun z st'=>st=st'∧z.1=none∧zca b n z.2.2) st from ?_) ?_)
 ·unfold gBZ
  refine wpS_forRange (fun x z st'=>st=st'∧z.1=none∧z.2.1≤z.2.2∧z.2.2≤n∧(∀ i,i < z.2.1→b i=true)∧(∀ i,z.2.2≤i→i < n→b i=false)∧z.2.2 - z.2.1≤n - x) ?_ ?_ ⟨rfl,rfl,h1,h2,hl,hh,by dsimp only;lia⟩
  ·rintro x ⟨r,l,h⟩ st' _ hx ⟨rfl,rfl,a1,a2,a3,a4,a5⟩
   dsimp only at *
   by_cases c:l ≥ h
   ·rw [if_pos c]
    exact wpS_pure ⟨rfl,rfl,a2,fun i hi=>a3 i (by dsimp only at hi;lia),a4⟩
   ·rw [if_neg c]
    refine wpS_bind (ha _ (by lia) _ ?_)
    dsimp only
    cases e:b (l + (h - l) / 2) with
    | true =>
     rw [if_pos rfl]
     refine wpS_pure ⟨rfl,rfl,by dsimp only;lia,a2,fun i hi=>?_,a4,by dsimp only;lia⟩
     dsimp only at hi
     exact mono i _ (by lia) (by lia) e
    | false =>
     rw [if_neg (by decide)]
     refine wpS_pure ⟨rfl,rfl,by dsimp only;lia,by dsimp only;lia,a3,fun i h1 h2=>?_,by dsimp only;lia⟩
     dsimp only at h1
     cases e2:b i with
     | false=>rfl
     | true=>rw [mono _ i h1 h2 e2] at e;cases e
  ·rintro ⟨r,l,h⟩ st' ⟨rfl,rfl,a1,a2,a3,a4,a5⟩
   dsimp only at *
   have:max 0 n=n:=by lia
   exact ⟨rfl,rfl,a2,fun i hi=>a3 i (by lia),a4⟩
 ·rintro ⟨r,l,h⟩ st' ⟨rfl,rfl,c⟩
  exact wpS_pure (q _ c)
theorem K0 {hint:Nat} {Q:Option Nat→SortSt→Prop} (ha:zbM M A E s st bf b n) (mono:∀ i j,i≤j→j < n→b j=true→b i=true) (hn:hint < n) (q:∀ k,zca b n k→Q (some k) st) :
  wpS M A E s (Kc bf n hint) Q st:=by
 unfold Kc
 refine wpS_bind (ha _ hn _ ?_)
 dsimp only
 cases e:b hint with
 | true =>
  rw [if_pos rfl]
  refine wpS_bind (wpS_mono (show wpS M A E s (gRZ bf n hint (n - hint)) (fun z st'=>st=st'∧z.1=none∧hint + z.2.1 < n∧b (hint + z.2.1)=true∧z.2.1 < z.2.2∧(z.2.2 < n - hint→b (hint + z.2.2)=false)) st from ?_) ?_)
  ·unfold gRZ
   refine wpS_forRange (fun x z st'=>st=st'∧z.1=none∧hint + z.2.1 < n∧b (hint + z.2.1)=true∧z.2.1 < z.2.2∧x < z.2.2) ?_ ?_ ⟨rfl,rfl,hn,by simpa using e,by dsimp only;lia,by dsimp only;lia⟩
   ·rintro x ⟨r,l,o⟩ st' _ hx ⟨rfl,rfl,a1,a2,a3,a4⟩
    dsimp only at *
    by_cases c:o ≥ n - hint
    ·rw [if_pos c]
     exact wpS_pure ⟨rfl,rfl,a1,a2,a3,fun z=>by dsimp only at z;lia⟩
    ·rw [if_neg c]
     refine wpS_bind (ha _ (by lia) _ ?_)
     dsimp only
     cases e2:b (hint + o) with
     | true =>
      rw [if_neg (by decide)]
      exact wpS_pure ⟨rfl,rfl,by dsimp only;lia,e2,by dsimp only;lia,by dsimp only;lia⟩
     | false =>
      rw [if_pos (by decide)]
      exact wpS_pure ⟨rfl,rfl,a1,a2,a3,fun _=>e2⟩
   ·rintro ⟨r,l,o⟩ st' ⟨rfl,rfl,a1,a2,a3,a4⟩
    dsimp only at *
    exact ⟨rfl,rfl,a1,a2,a3,fun z=>by lia⟩
  ·rintro ⟨r,l,o⟩ st' ⟨rfl,rfl,a1,a2,a3,a4⟩
   dsimp only at *
   refine Kd ha mono (by lia) (by lia) (fun i hi=>mono i _ (by lia) a1 a2) (fun i h1 h2=>?_) q
   have f:=a4 (by lia)
   cases e2:b i with
   | false=>rfl
   | true=>rw [mono (hint + o) i (by lia) h2 e2] at f;cases f
 | false =>
  rw [if_neg (by decide)]
  refine wpS_bind (wpS_mono (show wpS M A E s (gLZ bf n hint (hint + 1)) (fun z st'=>st=st'∧z.1=none∧z.2.1≤hint∧b (hint - z.2.1)=false∧z.2.1 < z.2.2∧(z.2.2 < hint + 1→b (hint - z.2.2)=true)) st from ?_) ?_)
  ·unfold gLZ
   refine wpS_forRange (fun x z st'=>st=st'∧z.1=none∧z.2.1≤hint∧b (hint - z.2.1)=false∧z.2.1 < z.2.2∧x < z.2.2) ?_ ?_ ⟨rfl,rfl,by dsimp only;lia,by simpa using e,by dsimp only;lia,by dsimp only;lia⟩
   ·rintro x ⟨r,l,o⟩ st' _ hx ⟨rfl,rfl,a1,a2,a3,a4⟩
    dsimp only at *
    by_cases c:o ≥ hint + 1
    ·rw [if_pos c]
     exact wpS_pure ⟨rfl,rfl,a1,a2,a3,fun z=>by dsimp only at z;lia⟩
    ·rw [if_neg c]
     refine wpS_bind (ha _ (by lia) _ ?_)
     dsimp only
     cases e2:b (hint - o) with
     | false =>
      rw [if_neg (by decide)]
      exact wpS_pure ⟨rfl,rfl,by dsimp only;lia,e2,by dsimp only;lia,by dsimp only;lia⟩
     | true =>
      rw [if_pos rfl]
      exact wpS_pure ⟨rfl,rfl,a1,a2,a3,fun _=>e2⟩
   ·rintro ⟨r,l,o⟩ st' ⟨rfl,rfl,a1,a2,a3,a4⟩
    dsimp only at *
    exact ⟨rfl,rfl,a1,a2,a3,fun z=>by lia⟩
  ·rintro ⟨r,l,o⟩ st' ⟨rfl,rfl,a1,a2,a3,a4⟩
   dsimp only at *
   refine Kd ha mono (by lia) (by lia) (fun i hi=>?_) (fun i h1 h2=>?_) q
   ·by_cases c:o < hint + 1
    ·exact mono i _ (by lia) (by lia) (a4 c)
    ·lia
   ·cases e2:b i with
    | false=>rfl
    | true=>rw [mono (hint - l) i (by lia) h2 e2] at a2;cases a2
end
def imZ (it:Nat→Keyed) (p:List Nat):Array Keyed:=(p.map it).toArray
section
variable {it:Nat→Keyed}
theorem wq (p:List Nat):(imZ it p).size=p.length:=by simp [imZ]
theorem yq {p:List Nat} {i x:Nat} (h:p[i]?=some x):(imZ it p)[i]?=some (it x):=by simp [imZ,h]
theorem km (p:List Nat) (x:Nat):(imZ it p).push (it x)=imZ it (p ++ [x]):=by simp [imZ]
theorem zU (p q:List Nat):imZ it p ++ imZ it q=imZ it (p ++ q):=by simp [imZ]
theorem vT (p:List Nat) (i j:Nat):(imZ it p).extract i j=imZ it ((p.drop i).take (j - i)):=by simp [imZ,List.map_take,List.map_drop]
theorem jl (p:List Nat) (i:Nat):(imZ it p).extract i (imZ it p).size=imZ it (p.drop i):=by
 rw [vT,wq,List.take_of_length_le (by rw [List.length_drop];lia)]
end
theorem XR {it:Nat→Keyed} (p:List Nat) (i:Nat):(imZ it p).extract i p.length=imZ it (p.drop i):=by
 rw [vT,List.take_of_length_le (by rw [List.length_drop];lia)]
structure MIZ (lt:Nat→Nat→Bool) (a b o P Q:List Nat):Prop where
 so:o.Pairwise fun x y=>lt x y=true
 pe:(o ++ P ++ Q).Perm (a ++ b)
 be:∀ x∈o,∀ y∈P ++ Q,lt x y=true
 sp:P.Pairwise fun x y=>lt x y=true
 sq:Q.Pairwise fun x y=>lt x y=true
structure Zs (lt:Nat→Nat→Bool) (a b m:List Nat):Prop where
 pe:m.Perm (a ++ b)
 so:m.Pairwise fun x y=>lt x y=true
section
variable {lt:Nat→Nat→Bool} {a b o P Q c:List Nat}
theorem MIZ.left (h:MIZ lt a b o (c ++ P) Q) (k:∀ x∈c,∀ y∈Q,lt x y=true):MIZ lt a b (o ++ c) P Q:=by
 have sp:=List.pairwise_append.mp h.sp
 refine ⟨List.pairwise_append.mpr ⟨h.so,sp.1,fun x hx y hy=>h.be x hx y (by simp [hy])⟩,?_,fun x hx y hy=>?_,sp.2.1,h.sq⟩
 ·have:=h.pe
  simpa [List.append_assoc] using this
 ·rcases List.mem_append.mp hx with hx | hx
  ·exact h.be x hx y (by rcases List.mem_append.mp hy with hy | hy <;> simp [hy])
  ·rcases List.mem_append.mp hy with hy | hy
   ·exact sp.2.2 x hx y hy
   ·exact k x hx y hy
theorem MIZ.right (h:MIZ lt a b o P (c ++ Q)) (k:∀ x∈c,∀ y∈P,lt x y=true):MIZ lt a b (o ++ c) P Q:=by
 have sq:=List.pairwise_append.mp h.sq
 refine ⟨List.pairwise_append.mpr ⟨h.so,sq.1,fun x hx y hy=>h.be x hx y (by simp [hy])⟩,?_,fun x hx y hy=>?_,h.sp,sq.2.1⟩
 ·refine List.Perm.trans ?_ h.pe
  rw [List.append_assoc,List.append_assoc,List.append_assoc]
  refine List.Perm.append_left _ ?_
  rw [← List.append_assoc,← List.append_assoc]
  exact List.Perm.append_right _ List.perm_append_comm
 ·rcases List.mem_append.mp hx with hx | hx
  ·exact h.be x hx y (by rcases List.mem_append.mp hy with hy | hy <;> simp [hy])
  ·rcases List.mem_append.mp hy with hy | hy
   ·exact k x hx y hy
   ·exact sq.2.2 x hx y hy
theorem MIZ.len (h:MIZ lt a b o P Q):o.length + P.length + Q.length=a.length + b.length:=by
 have:=h.pe.length_eq
 simp only [List.length_append] at this
 lia
theorem MIZ.end (h:MIZ lt a b o P Q) (k:∀ x∈P,∀ y∈Q,lt x y=true):Zs lt a b (o ++ P ++ Q) :=
 ⟨h.pe,List.pairwise_append.mpr ⟨List.pairwise_append.mpr ⟨h.so,h.sp,fun x hx y hy=>h.be x hx y (by simp [hy])⟩,h.sq,fun x hx y hy=>by
  rcases List.mem_append.mp hx with hx | hx
  ·exact h.be x hx y (by simp [hy])
  ·exact k x hx y hy⟩⟩
theorem MIZ.end' (h:MIZ lt a b o P Q) (k:∀ x∈Q,∀ y∈P,lt x y=true):Zs lt a b (o ++ Q ++ P):=by
 refine ⟨?_,List.pairwise_append.mpr ⟨List.pairwise_append.mpr ⟨h.so,h.sq,fun x hx y hy=>h.be x hx y (by simp [hy])⟩,h.sp,fun x hx y hy=>?_⟩⟩
 ·refine List.Perm.trans ?_ h.pe
  rw [List.append_assoc,List.append_assoc]
  exact List.Perm.append_left _ List.perm_append_comm
 ·rcases List.mem_append.mp hx with hx | hx
  ·exact h.be x hx y (by simp [hy])
  ·exact k x hx y hy
theorem MIZ.start (ha:a.Pairwise fun x y=>lt x y=true) (hb:b.Pairwise fun x y=>lt x y=true):MIZ lt a b [] a b:=⟨.nil,by simp,(fun x h=>nomatch h),ha,hb⟩
end
section
variable {prog:Program} {w:World} {A:Around} {E:Value→Shared→Prop} {s:Shared} {κ:SortKind} {it:Nat→Keyed} {lt:Nat→Nat→Bool} {N:Nat}
def wr (prog:Program) (w:World) (A:Around) (s:Shared) (κ:SortKind) (it:Nat→Keyed) (lt:Nat→Nat→Bool) (N:Nat):Prop:=∀ i j (C:Bool→Shared→Prop),i < N→j < N→i≠j→C (lt i j) s→wpAny (model prog w) A (keyLt' κ (it i).1 (it j).1) C (fun _ _=>False) s
structure xM (κ:SortKind) (st0 st:SortSt):Prop where
 k:kindOf st=κ
 f:failedOf st=none
 a:arrOf st=arrOf st0
 p:pendingOf st=pendingOf st0
theorem kn {st:SortSt} {i j:Nat} {Q:Option Bool→SortSt→Prop} (hc:wr prog w A s κ it lt N) (hk:kindOf st=κ) (hi:i < N) (hj:j < N) (hij:i≠j) (q:Q (some (lt i j)) st):wpS (model prog w) A E s (lt' (it i) (it j)) Q st:=by
 rw [lt'_eq]
 refine wpS_bind (wpS_get ?_)
 rw [hk]
 refine wpS_bind (wpS_lift (wpAny_attempt (wpAny_mono (hc i j (fun b s'=>s'=s∧b=lt i j) hi hj hij ⟨rfl,rfl⟩) (fun b s' h=>?_) fun _ _ h=>h.elim)))
 obtain ⟨rfl,rfl⟩:=h
 exact ⟨rfl,wpS_pure q⟩
theorem zX {M:Model} {st:SortSt} {arr:Array Keyed} {i:Nat} {x:Keyed} {Q:Keyed→SortSt→Prop} (h:arr[i]?=some x) (q:Q x st):wpS M A E s (elem' arr i) Q st:=by
 rw [elem'_eq,h]
 exact wpS_pure q
theorem QW (S:SO lt N) {i j:Nat} (hi:i < N) (hj:j < N) (hij:i≠j):(!lt i j)=lt j i:=by
 cases e:lt i j with
 | false=>rw [S.tot i j hi hj hij e];rfl
 | true =>
  cases e2:lt j i with
  | false=>rfl
  | true =>
   have:=S.trans i j i hi hj hi e e2
   rw [S.irr i hi] at this;cases this
theorem xU {st:SortSt} {left:Bool} {kx base n hint:Nat} {a:List Nat} {Q:Option Nat→SortSt→Prop} (S:SO lt N) (hc:wr prog w A s κ it lt N) (hk:kindOf st=κ) (kN:kx < N) (h1:∀ x∈(a.drop base).take n,x < N∧x≠kx) (srt:((a.drop base).take n).Pairwise fun x y=>lt x y=true) (len:base + n≤a.length) (hh:hint < n)
  (q:∀ k,k≤n→(∀ x∈(a.drop base).take k,lt x kx=true)→(∀ x∈((a.drop base).take n).drop k,lt kx x=true)→Q (some k) st) :
  wpS (model prog w) A E s (jk left (it kx) (imZ it a) base n hint) Q st:=by
 rw [Vo]
 have g:∀ i,i < n→∃ x,a[base + i]?=some x∧x < N∧x≠kx∧((a.drop base).take n)[i]?=some x:=fun i hi=>by
  have e:a[base + i]?=some a[base + i]:=List.getElem?_eq_getElem (by lia)
  have e2:((a.drop base).take n)[i]?=some a[base + i]:=by rw [List.getElem?_take_of_lt hi,List.getElem?_drop,e]
  exact ⟨_,e,(h1 _ (List.mem_of_getElem? e2)).1,(h1 _ (List.mem_of_getElem? e2)).2,e2⟩
 refine K0 (b:=fun i=>lt (a.getD (base + i) 0) kx) (fun i hi Q' q'=>?_) (fun i j hij hj hb=>?_) hh fun k c=>?_
 ·obtain ⟨x,e,xN,xk,_⟩:=g i hi
  have ed:a.getD (base + i) 0=x:=by rw [List.getD_eq_getElem?_getD,e];rfl
  dsimp only at q'
  rw [ed] at q'
  unfold Kb
  refine wpS_bind (zX (yq e) ?_)
  cases left with
  | true =>
   rw [if_pos rfl]
   exact kn hc hk xN kN xk q'
  | false =>
   rw [if_neg (by decide)]
   refine wpS_bind (kn hc hk kN xN (Ne.symm xk) (wpS_pure ?_))
   show Q' (some (!lt kx x)) st
   rw [QW S kN xN (Ne.symm xk)]
   exact q'
 ·obtain ⟨x,e,xN,xk,ex⟩:=g i (by lia)
  obtain ⟨y,e',yN,yk,ey⟩:=g j hj
  have ed:a.getD (base + i) 0=x:=by rw [List.getD_eq_getElem?_getD,e];rfl
  have ed':a.getD (base + j) 0=y:=by rw [List.getD_eq_getElem?_getD,e'];rfl
  rw [ed'] at hb
  rw [ed]
  by_cases c:i=j
  ·subst c;rw [e] at e';cases e';exact hb
  ·have l:=(List.getElem?_eq_some_iff.mp ex)
   have l':=(List.getElem?_eq_some_iff.mp ey)
   have:=List.pairwise_iff_getElem.mp srt i j l.1 l'.1 (by lia)
   rw [l.2,l'.2] at this
   exact S.trans _ _ _ xN yN kN this hb
 ·refine q k c.le (fun x hx=>?_) fun x hx=>?_
  ·obtain ⟨i,hi⟩:=List.getElem?_of_mem hx
   have il:=(List.getElem?_eq_some_iff.mp hi).1
   rw [List.length_take] at il
   rw [List.getElem?_take_of_lt (by lia),List.getElem?_drop] at hi
   have:=c.lo i (by lia)
   rw [List.getD_eq_getElem?_getD,hi] at this
   exact this
  ·obtain ⟨i,hi⟩:=List.getElem?_of_mem hx
   rw [List.getElem?_drop] at hi
   have il:=(List.getElem?_eq_some_iff.mp hi).1
   have kl:=c.le
   rw [List.length_take,List.length_drop] at il
   obtain ⟨y,e,yN,yk,ey⟩:=g (k + i) (by lia)
   rw [ey] at hi
   cases hi
   have:=c.hi (k + i) (by lia) (by lia)
   rw [List.getD_eq_getElem?_getD,e] at this
   exact S.tot x kx yN kN yk this
end
end L2
namespace L2
open PySem PySem.W PyProof.Rows
section
variable {prog:Program} {w:World} {A:Around} {E:Value→Shared→Prop} {s:Shared} {κ:SortKind} {it:Nat→Keyed} {lt:Nat→Nat→Bool} {N:Nat}
structure MPreZ (lt:Nat→Nat→Bool) (N:Nat) (a b:List Nat):Prop where
 sa:a.Pairwise fun x y=>lt x y=true
 sb:b.Pairwise fun x y=>lt x y=true
 nA:∀ x∈a,x < N
 nB:∀ x∈b,x < N
 dj:∀ x∈a,∀ y∈b,x≠y
 la:0 < a.length
 lb:0 < b.length
 hd:∀ y∈a,lt (b.getD 0 0) y=true
 tl:∀ x∈b,lt x (a.getD (a.length - 1) 0)=true
variable {a b:List Nat}
theorem y8 {l:List Nat} {i x:Nat} (h:l[i]?=some x):l.drop i=[x] ++ l.drop (i + 1):=by
 obtain ⟨hl,rfl⟩:=List.getElem?_eq_some_iff.mp h
 rw [List.drop_eq_getElem_cons hl];rfl
theorem YD {l:List Nat} (i k:Nat):l.drop i=(l.drop i).take k ++ l.drop (i + k):=by
 rw [← List.drop_drop,List.take_append_drop]
theorem xV {l:List Nat} {i x:Nat} (h:x∈l.drop i):x∈l:=List.mem_of_mem_drop h
theorem MPreZ.last (P:MPreZ lt N a b) {ia ib:Nat} (h:ia + 1=a.length):∀ x∈b.drop ib,∀ y∈a.drop ia,lt x y=true:=by
 intro x hx y hy
 have e:a.drop ia=[a.getD (a.length - 1) 0]:=by
  have g:a[ia]?=some a[ia]:=List.getElem?_eq_getElem (by lia)
  rw [y8 g,List.drop_eq_nil_of_le (by lia)]
  have:a.getD (a.length - 1) 0=a[ia]:=by rw [List.getD_eq_getElem?_getD,show a.length - 1=ia by lia,g];rfl
  rw [this];rfl
 rw [e,List.mem_singleton] at hy
 rw [hy]
 exact P.tl x (xV hx)
theorem xW (S:SO lt N) {l:List Nat} {i x y:Nat} (sl:l.Pairwise fun x y=>lt x y=true) (nl:∀ x∈l,x < N) (hx:l[i]?=some x) (yN:y < N) (h:lt y x=true):∀ z∈l.drop i,lt y z=true:=by
 intro z hz
 rw [y8 hx] at hz
 rcases List.mem_append.mp hz with hz | hz
 ·rw [List.mem_singleton.mp hz];exact h
 ·have xl:=List.mem_of_getElem? hx
  refine S.trans y x z yN (nl x xl) (nl z (xV hz)) h ?_
  obtain ⟨k,hk⟩:=List.getElem?_of_mem hz
  rw [List.getElem?_drop] at hk
  obtain ⟨l1,e1⟩:=List.getElem?_eq_some_iff.mp hx
  obtain ⟨l2,e2⟩:=List.getElem?_eq_some_iff.mp hk
  have:=List.pairwise_iff_getElem.mp sl i (i + 1 + k) l1 l2 (by lia)
  rw [e1,e2] at this
  exact this
structure WayZ (lt:Nat→Nat→Bool) (a b o:List Nat) (ia ib:Nat):Prop where
 m:MIZ lt a b o (a.drop ia) (b.drop ib)
 ha:ia + 1 < a.length
 hb:ib < b.length
theorem WayZ.len {o:List Nat} {ia ib:Nat} (W:WayZ lt a b o ia ib):o.length < a.length + b.length:=by
 have:=W.m.len
 have h1:=W.ha
 have h2:=W.hb
 rw [List.length_drop,List.length_drop] at this
 lia
def Xf (κ:SortKind) (it:Nat→Keyed) (lt:Nat→Nat→Bool) (a b:List Nat) (st0:SortSt) (r:Option (Array Keyed)) (st:SortSt):Prop:=∃ m,r=some (imZ it m)∧Zs lt a b m∧xM κ st0 st
abbrev za6:=Option (Array Keyed) × Array Keyed × Nat × Nat × Nat × Nat × Nat
def Ke (a b:Array Keyed) (mg ac bc:Nat) (out:Array Keyed) (ia ib:Nat):SMZ (ForInStep za6):=do
 let x ← elem' a ia
 if (ia + 1 + 1 == a.size)=true then pure (.done (some (out.push x ++ b.extract ib b.size ++ a.extract (ia + 1) a.size),out.push x,ia + 1,ib,mg,ac,bc))
 else if (decide (ac < 7) && decide (bc < 7))=true then pure (.done (none,out.push x,ia + 1,ib,mg,ac,bc))
 else pure (.yield (none,out.push x,ia + 1,ib,mg,ac,bc))
def Kf (a b:Array Keyed) (mg ac bc:Nat) (out:Array Keyed) (ia ib:Nat):SMZ (ForInStep za6):=do
 let x ← elem' b ib
 if (ib + 1 == b.size)=true then pure (.done (some (out.push x ++ a.extract ia a.size ++ b.extract (ib + 1) b.size),out.push x,ia,ib + 1,mg,ac,bc))
 else do
  let y ← elem' a ia
  match ← jk true y b (ib + 1) (b.size - (ib + 1)) 0 with
  | some k=>if k > 0 then (if (ib + 1 + k == b.size)=true then pure (.done (some (out.push x ++ b.extract (ib + 1) (ib + 1 + k) ++ a.extract ia a.size ++ b.extract (ib + 1 + k) b.size),out.push x ++ b.extract (ib + 1) (ib + 1 + k),ia,ib + 1 + k,mg,ac,k)) else Ke a b mg ac k (out.push x ++ b.extract (ib + 1) (ib + 1 + k)) ia (ib + 1 + k)) else Ke a b mg ac k (out.push x) ia (ib + 1)
  | _=>pure (.done (some (out.push x ++ a.extract ia a.size ++ b.extract (ib + 1) b.size),out.push x,ia,ib + 1,mg,ac,bc))
def QX (κ:SortKind) (it:Nat→Keyed) (lt:Nat→Nat→Bool) (a b:List Nat) (st0:SortSt) (n:Nat) (r:ForInStep za6) (st:SortSt):Prop:=match r with
 | .done c=>Xf κ it lt a b st0 c.1 st∨∃ o ia ib mg ac bc,c=(none,imZ it o,ia,ib,mg,ac,bc)∧WayZ lt a b o ia ib∧n < o.length∧xM κ st0 st
 | .yield c=>∃ o ia ib mg ac bc,c=(none,imZ it o,ia,ib,mg,ac,bc)∧WayZ lt a b o ia ib∧n < o.length∧xM κ st0 st
theorem XS {st0 st:SortSt} {mg ac bc ia ib n xa xb:Nat} {o:List Nat} (S:SO lt N) (P:MPreZ lt N a b) (k:xM κ st0 st) (m:MIZ lt a b o (a.drop ia) (b.drop ib)) (ha:ia + 1 < a.length) (ga:a[ia]?=some xa) (gb:b[ib]?=some xb) (e:lt xa xb=true) (hn:n≤o.length) :
  wpS (model prog w) A E s (Ke (imZ it a) (imZ it b) mg ac bc (imZ it o) ia ib) (QX κ it lt a b st0 n) st:=by
 have mb:=List.mem_of_getElem? gb
 have ma:=List.mem_of_getElem? ga
 have lb:=(List.getElem?_eq_some_iff.mp gb).1
 unfold Ke
 refine wpS_bind (zX (yq ga) ?_)
 rw [km,jl,jl]
 have M2:MIZ lt a b (o ++ [xa]) (a.drop (ia + 1)) (b.drop ib):=by
  rw [y8 ga] at m
  exact m.left fun x hx z hz=>by rw [List.mem_singleton.mp hx];exact xW S P.sb P.nB gb (P.nA _ ma) e z hz
 by_cases d1:(ia + 1 + 1 == (imZ it a).size)=true
 ·rw [if_pos d1]
  rw [wq] at d1
  refine wpS_pure (.inl ⟨_,?_,M2.end' (P.last (by simpa using d1)),k⟩)
  rw [zU,zU]
 ·rw [if_neg d1]
  rw [wq] at d1
  have d1':ia + 1 + 1≠a.length:=by simpa using d1
  have W2:WayZ lt a b (o ++ [xa]) (ia + 1) ib:=⟨M2,by lia,lb⟩
  by_cases d2:(decide (ac < 7) && decide (bc < 7))=true
  ·rw [if_pos d2]
   exact wpS_pure (.inr ⟨_,_,_,_,_,_,rfl,W2,by simp;lia,k⟩)
  ·rw [if_neg d2]
   exact wpS_pure ⟨_,_,_,_,_,_,rfl,W2,by simp;lia,k⟩
theorem XT {st0 st:SortSt} {mg ac bc ia ib n xa xb:Nat} {o:List Nat} (S:SO lt N) (hc:wr prog w A s κ it lt N) (P:MPreZ lt N a b) (k:xM κ st0 st) (m:MIZ lt a b o (a.drop ia) (b.drop ib)) (ha:ia + 1 < a.length) (ga:a[ia]?=some xa) (gb:b[ib]?=some xb) (e:lt xb xa=true) (hn:n≤o.length) :
  wpS (model prog w) A E s (Kf (imZ it a) (imZ it b) mg ac bc (imZ it o) ia ib) (QX κ it lt a b st0 n) st:=by
 have mb:=List.mem_of_getElem? gb
 have ma:=List.mem_of_getElem? ga
 have lb:=(List.getElem?_eq_some_iff.mp gb).1
 unfold Kf
 refine wpS_bind (zX (yq gb) ?_)
 rw [km,jl,jl,wq]
 have M2:MIZ lt a b (o ++ [xb]) (a.drop ia) (b.drop (ib + 1)):=by
  rw [y8 gb] at m
  exact m.right fun x hx z hz=>by rw [List.mem_singleton.mp hx];exact xW S P.sa P.nA ga (P.nB _ mb) e z hz
 by_cases d1:(ib + 1 == b.length)=true
 ·rw [if_pos d1]
  have d1':ib + 1=b.length:=by simpa using d1
  refine wpS_pure (.inl ⟨_,?_,M2.end (fun x _ y hy=>by rw [d1',List.drop_length] at hy;cases hy),k⟩)
  rw [zU,zU]
 ·rw [if_neg d1]
  have d1':ib + 1≠b.length:=by simpa using d1
  refine wpS_bind (zX (yq ga) ?_)
  have tk:(b.drop (ib + 1)).take (b.length - (ib + 1))=b.drop (ib + 1):=List.take_of_length_le (by rw [List.length_drop];lia)
  refine wpS_bind (xU S hc k.k (P.nA _ ma) (fun x hx=>?_) ?_ (by lia) (by lia) fun j hj lo hi=>?_)
  ·rw [tk] at hx;exact ⟨P.nB _ (xV hx),Ne.symm (P.dj _ ma _ (xV hx))⟩
  ·rw [tk];exact M2.sq
  ·rw [tk] at hi
   dsimp only
   -- what is taken of b
   have M3:MIZ lt a b (o ++ [xb] ++ (b.drop (ib + 1)).take j) (a.drop ia) (b.drop (ib + 1 + j)):=by
    rw [YD (ib + 1) j] at M2
    exact M2.right fun x hx z hz=>xW S P.sa P.nA ga (P.nB _ (xV (List.mem_of_mem_take hx))) (lo x hx) z hz
   have nx:ib + 1 + j < b.length→∃ y,b[ib + 1 + j]?=some y∧lt xa y=true:=fun h=>by
    refine ⟨b[ib + 1 + j],List.getElem?_eq_getElem h,hi _ ?_⟩
    rw [List.drop_drop]
    have g:b[ib + 1 + j]?=some b[ib + 1 + j]:=List.getElem?_eq_getElem h
    rw [y8 g];exact List.mem_append_left _ (List.mem_singleton_self _)
   by_cases z:j > 0
   ·rw [if_pos z,vT,show ib + 1 + j - (ib + 1)=j by lia,zU]
    by_cases d2:(ib + 1 + j == b.length)=true
    ·rw [if_pos d2]
     have d2':ib + 1 + j=b.length:=by simpa using d2
     refine wpS_pure (.inl ⟨_,?_,M3.end (fun x _ y hy=>by rw [d2',List.drop_length] at hy;cases hy),k⟩)
     rw [XR,zU,zU]
    ·rw [if_neg d2]
     have d2':ib + 1 + j≠b.length:=by simpa using d2
     obtain ⟨y,gy,ly⟩:=nx (by lia)
     exact XS S P k M3 ha ga gy ly (by simp;lia)
   ·rw [if_neg z]
    obtain rfl:j=0:=by lia
    obtain ⟨y,gy,ly⟩:=nx (by lia)
    exact XS S P k M2 ha ga gy ly (by simp;lia)
theorem Wt {st:SortSt} {Q:Array Keyed→SortSt→Prop} (S:SO lt N) (hc:wr prog w A s κ it lt N) (hk:xM κ st st) (P:MPreZ lt N a b) (q:∀ m st',Zs lt a b m→xM κ st st'→Q (imZ it m) st') :
  wpS (model prog w) A E s (KY (imZ it a) (imZ it b)) Q st:=by
 refine wpS_bind (wpS_lift (wpAny_rule ⟨rfl,?_⟩))
 have b0:b[0]?=some (b.getD 0 0):=by rw [List.getD_eq_getElem?_getD,List.getElem?_eq_getElem P.lb];rfl
 refine wpS_bind (zX (yq b0) ?_)
 have M0:MIZ lt a b [b.getD 0 0] a (b.drop 1):=by
  have:=MIZ.start P.sa P.sb
  have e:=y8 b0
  rw [List.drop_zero] at e
  have h2:MIZ lt a b [] a ([b.getD 0 0] ++ b.drop 1):=by rw [← e];exact this
  exact h2.right fun x hx y hy=>by rw [List.mem_singleton.mp hx];exact P.hd y hy
 have o0:(#[it (b.getD 0 0)]:Array Keyed)=imZ it [b.getD 0 0]:=rfl
 rw [o0]
 have eA:∀ i,(imZ it a).extract i (imZ it a).size=imZ it (a.drop i):=jl a
 have eB:∀ i,(imZ it b).extract i (imZ it b).size=imZ it (b.drop i):=jl b
 have sA:=wq (it:=it) a
 have sB:=wq (it:=it) b
 -- the ways in which it may end
 have endB:∀ {o:List Nat} {ia ib:Nat},MIZ lt a b o (a.drop ia) (b.drop ib)→ib=b.length→Zs lt a b (o ++ a.drop ia ++ b.drop ib):=fun m e=>m.end fun x hx y hy=>by rw [e,List.drop_length] at hy;cases hy
 have endA:∀ {o:List Nat} {ia ib:Nat},MIZ lt a b o (a.drop ia) (b.drop ib)→ia=a.length→Zs lt a b (o ++ a.drop ia ++ b.drop ib):=fun m e=>m.end fun x hx y hy=>by rw [e,List.drop_length] at hx;cases hx
 have endL:∀ {o:List Nat} {ia ib:Nat},MIZ lt a b o (a.drop ia) (b.drop ib)→ia + 1=a.length→Zs lt a b (o ++ b.drop ib ++ a.drop ia):=fun m e=>m.end' (P.last e)
 have big:∀ {o:List Nat} {ia ib:Nat},imZ it o ++ imZ it (a.drop ia) ++ imZ it (b.drop ib)=imZ it (o ++ a.drop ia ++ b.drop ib):=by intros;rw [zU,zU]
 have big':∀ {o:List Nat} {ia ib:Nat},imZ it o ++ imZ it (b.drop ib) ++ imZ it (a.drop ia)=imZ it (o ++ b.drop ib ++ a.drop ia):=by intros;rw [zU,zU]
 have M0':MIZ lt a b [b.getD 0 0] (a.drop 0) (b.drop 1):=by rw [List.drop_zero];exact M0
 by_cases c1:(1 == (imZ it b).size)=true
 ·rw [if_pos c1]
  refine wpS_pure ?_
  dsimp only
  rw [eA,eB,big]
  exact q _ _ (endB M0' (by rw [← sB];simpa using c1)) hk
 ·rw [if_neg c1]
  by_cases c2:(0 + 1 == (imZ it a).size)=true
  ·rw [if_pos c2]
   refine wpS_pure ?_
   dsimp only
   rw [eA,eB,big']
   exact q _ _ (endL M0' (by rw [← sA];simpa using c2)) hk
  ·rw [if_neg c2]
   have n1:1≠b.length:=by rw [← sB];simpa using c1
   have n2:1≠a.length:=by rw [← sA];simpa using c2
   have W0:WayZ lt a b [b.getD 0 0] 0 1:=⟨M0',by have:=P.la;lia,by have:=P.lb;lia⟩
   refine wpS_bind (wpS_get ?_)
   refine wpS_bind (wpS_mono (wpS_forRange (fun x c st'=>∃ o ia ib mg,c=(none,imZ it o,ia,ib,mg)∧WayZ lt a b o ia ib∧x < o.length∧xM κ st st') (Q:=fun c st'=>Xf κ it lt a b st c.1 st') ?step ?fin ⟨[b.getD 0 0],0,1,_,rfl,W0,by simp,hk⟩) ?post)
   case post =>
    rintro c st' ⟨m,e,r,k⟩
    obtain ⟨r1,c⟩:=c
    dsimp only at e
    subst e
    exact wpS_pure (q m st' r k)
   case fin =>
    rintro c st' ⟨o,ia,ib,mg,rfl,W,hx,k⟩
    have:=W.len
    rw [sA,sB] at hx
    lia
   case step =>
    rintro x c st' _ hx ⟨o,ia,ib,mg,rfl,W,hxo,k⟩
    dsimp only
    refine wpS_bind (wpS_mono (wpS_forRange (fun y c st2=>∃ o' ia' ib' ac bc,c=(none,imZ it o',ia',ib',ac,bc)∧WayZ lt a b o' ia' ib'∧o.length + y≤o'.length∧xM κ st st2) (Q:=fun c st2=>Xf κ it lt a b st c.1 st2∨∃ o' ia' ib' ac bc,c=(none,imZ it o',ia',ib',ac,bc)∧WayZ lt a b o' ia' ib'∧o.length + 1≤o'.length∧xM κ st st2) ?step1 ?fin1 ⟨o,ia,ib,0,0,rfl,W,Nat.le_refl _,k⟩) ?post1)
    case fin1 =>
     rintro c st2 ⟨o',ia',ib',ac,bc,rfl,W',hl,k'⟩
     have:=W'.len
     rw [sA,sB] at hl
     lia
    case step1 =>
     rintro y c st2 _ hy ⟨o',ia',ib',ac,bc,rfl,W',hl,k'⟩
     dsimp only
     obtain ⟨xb,gb⟩:∃ xb,b[ib']?=some xb:=⟨_,List.getElem?_eq_getElem W'.hb⟩
     obtain ⟨xa,ga⟩:∃ xa,a[ia']?=some xa:=⟨_,List.getElem?_eq_getElem (by have:=W'.ha;lia)⟩
     have mb:=List.mem_of_getElem? gb
     have ma:=List.mem_of_getElem? ga
     refine wpS_bind (zX (yq gb) (wpS_bind (zX (yq ga) (wpS_bind (kn hc k'.k (P.nB _ mb) (P.nA _ ma) (Ne.symm (P.dj _ ma _ mb)) ?_)))))
     have M1:=W'.m
     cases e:lt xb xa with
     | true =>
      dsimp only
      rw [if_pos rfl]
      refine wpS_bind (zX (yq gb) ?_)
      rw [km]
      have M2:MIZ lt a b (o' ++ [xb]) (a.drop ia') (b.drop (ib' + 1)):=by
       rw [y8 gb] at M1
       exact M1.right fun x hx z hz=>by rw [List.mem_singleton.mp hx];exact xW S P.sa P.nA ga (P.nB _ mb) e z hz
      by_cases d1:(ib' + 1 == (imZ it b).size)=true
      ·rw [if_pos d1]
       refine wpS_pure (.inl ⟨_,?_,endB M2 (by rw [← sB];simpa using d1),k'⟩)
       rw [eA,eB,big]
      ·rw [if_neg d1]
       have d1':ib' + 1≠b.length:=by rw [← sB];simpa using d1
       have hb':=W'.hb
       have W2:WayZ lt a b (o' ++ [xb]) ia' (ib' + 1):=⟨M2,W'.ha,by lia⟩
       by_cases d2:bc + 1 ≥ mg
       ·rw [if_pos d2]
        exact wpS_pure (.inr ⟨_,_,_,_,_,rfl,W2,by simp;lia,k'⟩)
       ·rw [if_neg d2]
        exact wpS_pure ⟨_,_,_,_,_,rfl,W2,by simp;lia,k'⟩
     | false =>
      dsimp only
      rw [if_neg (by decide)]
      refine wpS_bind (zX (yq ga) ?_)
      rw [km]
      have e':=S.tot _ _ (P.nB _ mb) (P.nA _ ma) (Ne.symm (P.dj _ ma _ mb)) e
      have M2:MIZ lt a b (o' ++ [xa]) (a.drop (ia' + 1)) (b.drop ib'):=by
       rw [y8 ga] at M1
       exact M1.left fun x hx z hz=>by rw [List.mem_singleton.mp hx];exact xW S P.sb P.nB gb (P.nA _ ma) e' z hz
      by_cases d1:(ia' + 1 + 1 == (imZ it a).size)=true
      ·rw [if_pos d1]
       refine wpS_pure (.inl ⟨_,?_,endL M2 (by rw [← sA];simpa using d1),k'⟩)
       rw [eA,eB,big']
      ·rw [if_neg d1]
       have d1':ia' + 1 + 1≠a.length:=by rw [← sA];simpa using d1
       have ha':=W'.ha
       have W2:WayZ lt a b (o' ++ [xa]) (ia' + 1) ib':=⟨M2,by lia,W'.hb⟩
       by_cases d2:ac + 1 ≥ mg
       ·rw [if_pos d2]
        exact wpS_pure (.inr ⟨_,_,_,_,_,rfl,W2,by simp;lia,k'⟩)
       ·rw [if_neg d2]
        exact wpS_pure ⟨_,_,_,_,_,rfl,W2,by simp;lia,k'⟩
    case post1 =>
     rintro c st2 (⟨m,e,r,k'⟩ | ⟨o',ia',ib',ac,bc,rfl,W',hl,k'⟩)
     ·obtain ⟨r1,c⟩:=c
      dsimp only at e
      subst e
      exact wpS_pure ⟨m,rfl,r,k'⟩
     ·dsimp only
      refine wpS_bind (wpS_lift (wpAny_rule ⟨rfl,?_⟩))
      refine wpS_bind (wpS_mono (wpS_forRange (fun y c st3=>∃ o2 ia2 ib2 mg2 ac2 bc2,c=(none,imZ it o2,ia2,ib2,mg2,ac2,bc2)∧WayZ lt a b o2 ia2 ib2∧o.length + 1 + y≤o2.length∧xM κ st st3) (Q:=fun c st3=>Xf κ it lt a b st c.1 st3∨∃ o2 ia2 ib2 mg2 ac2 bc2,c=(none,imZ it o2,ia2,ib2,mg2,ac2,bc2)∧WayZ lt a b o2 ia2 ib2∧o.length < o2.length∧xM κ st st3) ?step2 ?fin2 ⟨o',ia',ib',_,ac,bc,rfl,W',hl,k'⟩) ?post2)
      case fin2 =>
       rintro c st3 ⟨o2,ia2,ib2,mg2,ac2,bc2,rfl,W2,hl2,k2⟩
       have:=W2.len
       rw [sA,sB] at hl2
       lia
      case step2 =>
       rintro y c st3 _ hy ⟨o2,ia2,ib2,mg2,ac2,bc2,rfl,W2,hl2,k2⟩
       dsimp only
       obtain ⟨xb,gb⟩:∃ xb,b[ib2]?=some xb:=⟨_,List.getElem?_eq_getElem W2.hb⟩
       have mb:=List.mem_of_getElem? gb
       have ha2:=W2.ha
       have go:∀ g:Nat,wpS (model prog w) A E s (do
         Ka g
         let u ← elem' (imZ it b) ib2
         match ← jk false u (imZ it a) ia2 ((imZ it a).size - ia2) 0 with
         | some k=>if k > 0 then (if (ia2 + k + 1 == (imZ it a).size)=true then pure (.done (some (imZ it o2 ++ (imZ it a).extract ia2 (ia2 + k) ++ (imZ it b).extract ib2 (imZ it b).size ++ (imZ it a).extract (ia2 + k) (imZ it a).size),imZ it o2 ++ (imZ it a).extract ia2 (ia2 + k),ia2 + k,ib2,g,k,bc2)) else if (ia2 + k == (imZ it a).size)=true then pure (.done (some (imZ it o2 ++ (imZ it a).extract ia2 (ia2 + k) ++ (imZ it a).extract (ia2 + k) (imZ it a).size ++ (imZ it b).extract ib2 (imZ it b).size),imZ it o2 ++ (imZ it a).extract ia2 (ia2 + k),ia2 + k,ib2,g,k,bc2)) else Kf (imZ it a) (imZ it b) g k bc2 (imZ it o2 ++ (imZ it a).extract ia2 (ia2 + k)) (ia2 + k) ib2) else Kf (imZ it a) (imZ it b) g k bc2 (imZ it o2) ia2 ib2
         | _=>pure (.done (some (imZ it o2 ++ (imZ it a).extract ia2 (imZ it a).size ++ (imZ it b).extract ib2 (imZ it b).size),imZ it o2,ia2,ib2,g,ac2,bc2)):SMZ (ForInStep za6)) (QX κ it lt a b st (o.length + 1 + y)) st3:=by
        intro g
        refine wpS_bind (wpS_modify ?_)
        have k3:xM κ st (SortSt.mk' (kindOf st3) (arrOf st3) (pendingOf st3) g (failedOf st3)):=⟨k2.k,k2.f,k2.a,k2.p⟩
        refine wpS_bind (zX (yq gb) ?_)
        rw [wq]
        have tk:(a.drop ia2).take (a.length - ia2)=a.drop ia2:=List.take_of_length_le (by rw [List.length_drop];lia)
        refine wpS_bind (xU S hc k3.k (P.nB _ mb) (fun x hx=>?_) ?_ (by lia) (by lia) fun j hj lo hi=>?_)
        ·rw [tk] at hx;exact ⟨P.nA _ (xV hx),P.dj _ (xV hx) _ mb⟩
        ·rw [tk];exact W2.m.sp
        ·rw [tk] at hi
         dsimp only
         have M3:MIZ lt a b (o2 ++ (a.drop ia2).take j) (a.drop (ia2 + j)) (b.drop ib2):=by
          have m:=W2.m
          rw [YD ia2 j] at m
          exact m.left fun x hx z hz=>xW S P.sb P.nB gb (P.nA _ (xV (List.mem_of_mem_take hx))) (lo x hx) z hz
         have nx:ia2 + j < a.length→∃ z,a[ia2 + j]?=some z∧lt xb z=true:=fun h=>by
          refine ⟨a[ia2 + j],List.getElem?_eq_getElem h,hi _ ?_⟩
          rw [List.drop_drop]
          have g:a[ia2 + j]?=some a[ia2 + j]:=List.getElem?_eq_getElem h
          rw [y8 g];exact List.mem_append_left _ (List.mem_singleton_self _)
         by_cases z:j > 0
         ·rw [if_pos z,vT,show ia2 + j - ia2=j by lia,zU,XR,eB]
          by_cases d1:(ia2 + j + 1 == a.length)=true
          ·rw [if_pos d1]
           refine wpS_pure (.inl ⟨_,?_,endL M3 (by simpa using d1),k3⟩)
           rw [zU,zU]
          ·rw [if_neg d1]
           have d1':ia2 + j + 1≠a.length:=by simpa using d1
           by_cases d2:(ia2 + j == a.length)=true
           ·rw [if_pos d2]
            refine wpS_pure (.inl ⟨_,?_,endA M3 (by simpa using d2),k3⟩)
            rw [zU,zU]
           ·rw [if_neg d2]
            have d2':ia2 + j≠a.length:=by simpa using d2
            obtain ⟨z,gz,lz⟩:=nx (by lia)
            exact XT S hc P k3 M3 (by lia) gz gb lz (by simp;lia)
         ·rw [if_neg z]
          obtain rfl:j=0:=by lia
          obtain ⟨z,gz,lz⟩:=nx (by lia)
          exact XT S hc P k3 W2.m ha2 gz gb lz (by lia)
       have fitD:∀ c' st4,QX κ it lt a b st (o.length + 1 + y) (.done c') st4→Xf κ it lt a b st c'.1 st4∨∃ o2 ia2 ib2 mg2 ac2 bc2,c'=(none,imZ it o2,ia2,ib2,mg2,ac2,bc2)∧WayZ lt a b o2 ia2 ib2∧o.length < o2.length∧xM κ st st4:=by
        intro c st4 h
        rcases h with h | ⟨o3,ia3,ib3,mg3,ac3,bc3,e,W3,l3,k4⟩
        ·exact .inl h
        ·exact .inr ⟨o3,ia3,ib3,mg3,ac3,bc3,e,W3,by lia,k4⟩
       have fitY:∀ c' st4,QX κ it lt a b st (o.length + 1 + y) (.yield c') st4→∃ o2 ia2 ib2 mg2 ac2 bc2,c'=(none,imZ it o2,ia2,ib2,mg2,ac2,bc2)∧WayZ lt a b o2 ia2 ib2∧o.length + 1 + (y + 1)≤o2.length∧xM κ st st4:=by
        intro c st4 h
        obtain ⟨o3,ia3,ib3,mg3,ac3,bc3,e,W3,l3,k4⟩:=h
        exact ⟨o3,ia3,ib3,mg3,ac3,bc3,e,W3,by lia,k4⟩
       by_cases d:mg2 > 1
       ·rw [if_pos d]
        exact wpS_mono (go (mg2 - 1)) fun r st4 h=>by cases r with | done c=>exact fitD _ _ h | yield c=>exact fitY _ _ h
       ·rw [if_neg d]
        exact wpS_mono (go mg2) fun r st4 h=>by cases r with | done c=>exact fitD _ _ h | yield c=>exact fitY _ _ h
      case post2 =>
       rintro c st3 (⟨m,e,r,k2⟩ | ⟨o2,ia2,ib2,mg2,ac2,bc2,rfl,W2,hl2,k2⟩)
       ·obtain ⟨r1,c⟩:=c
        dsimp only at e
        subst e
        exact wpS_pure ⟨m,rfl,r,k2⟩
       ·dsimp only
        refine wpS_bind (wpS_modify (wpS_pure ⟨o2,ia2,ib2,_,rfl,W2,by lia,?_⟩))
        exact ⟨k2.k,k2.f,k2.a,k2.p⟩
end
end L2
namespace L2
open PySem PySem.W PyProof.Rows
structure MJZ (lt:Nat→Nat→Bool) (a b o P Q:List Nat):Prop where
 so:o.Pairwise fun x y=>lt x y=true
 pe:(P ++ Q ++ o).Perm (a ++ b)
 be:∀ x∈P ++ Q,∀ y∈o,lt x y=true
 sp:P.Pairwise fun x y=>lt x y=true
 sq:Q.Pairwise fun x y=>lt x y=true
section
variable {lt:Nat→Nat→Bool} {a b o P Q c:List Nat}
theorem MJZ.left (h:MJZ lt a b o (P ++ c) Q) (k:∀ x∈c,∀ y∈Q,lt y x=true):MJZ lt a b (c ++ o) P Q:=by
 have sp:=List.pairwise_append.mp h.sp
 refine ⟨List.pairwise_append.mpr ⟨sp.2.1,h.so,fun x hx y hy=>h.be x (by simp [hx]) y hy⟩,?_,fun x hx y hy=>?_,sp.1,h.sq⟩
 ·refine List.Perm.trans ?_ h.pe
  rw [← List.append_assoc,List.append_assoc P Q c,List.append_assoc P c Q]
  exact List.Perm.append_right _ (List.Perm.append_left _ List.perm_append_comm)
 ·rcases List.mem_append.mp hy with hy | hy
  ·rcases List.mem_append.mp hx with hx | hx
   ·exact sp.2.2 x hx y hy
   ·exact k y hy x hx
  ·exact h.be x (by rcases List.mem_append.mp hx with hx | hx <;> simp [hx]) y hy
theorem MJZ.right (h:MJZ lt a b o P (Q ++ c)) (k:∀ x∈c,∀ y∈P,lt y x=true):MJZ lt a b (c ++ o) P Q:=by
 have sq:=List.pairwise_append.mp h.sq
 refine ⟨List.pairwise_append.mpr ⟨sq.2.1,h.so,fun x hx y hy=>h.be x (by simp [hx]) y hy⟩,?_,fun x hx y hy=>?_,h.sp,sq.1⟩
 ·have:=h.pe
  simpa [List.append_assoc] using this
 ·rcases List.mem_append.mp hy with hy | hy
  ·rcases List.mem_append.mp hx with hx | hx
   ·exact k y hy x hx
   ·exact sq.2.2 x hx y hy
  ·exact h.be x (by rcases List.mem_append.mp hx with hx | hx <;> simp [hx]) y hy
theorem MJZ.len (h:MJZ lt a b o P Q):o.length + P.length + Q.length=a.length + b.length:=by
 have:=h.pe.length_eq
 simp only [List.length_append] at this
 lia
theorem MJZ.end (h:MJZ lt a b o P Q) (k:∀ x∈P,∀ y∈Q,lt x y=true):Zs lt a b (P ++ Q ++ o) :=
 ⟨h.pe,List.pairwise_append.mpr ⟨List.pairwise_append.mpr ⟨h.sp,h.sq,k⟩,h.so,h.be⟩⟩
theorem MJZ.end' (h:MJZ lt a b o P Q) (k:∀ x∈Q,∀ y∈P,lt x y=true):Zs lt a b (Q ++ P ++ o) :=
 ⟨List.Perm.trans (List.Perm.append_right _ List.perm_append_comm) h.pe,List.pairwise_append.mpr ⟨List.pairwise_append.mpr ⟨h.sq,h.sp,k⟩,h.so,fun x hx y hy=>h.be x (by rcases List.mem_append.mp hx with hx | hx <;> simp [hx]) y hy⟩⟩
theorem MJZ.start (ha:a.Pairwise fun x y=>lt x y=true) (hb:b.Pairwise fun x y=>lt x y=true):MJZ lt a b [] a b:=⟨.nil,by simp,(fun x _ y h=>nomatch h),ha,hb⟩
theorem y9 {l:List Nat} {i x:Nat} (h:l[i]?=some x):l.take (i + 1)=l.take i ++ [x]:=by rw [List.take_add_one,h];rfl
theorem YE {l:List Nat} {i j:Nat} (h:i≤j):l.take j=l.take i ++ (l.take j).drop i:=by
 have:=(List.take_append_drop i (l.take j)).symm
 rwa [List.take_take,Nat.min_eq_left h] at this
theorem xX {l:List Nat} {i x:Nat} (h:x∈l.take i):x∈l:=List.mem_of_mem_take h
end
section
variable {it:Nat→Keyed}
theorem qw (p:List Nat) (i:Nat):(imZ it p).extract 0 i=imZ it (p.take i):=by rw [vT];simp
theorem Kg (p:List Nat):(imZ it p).reverse=imZ it p.reverse:=by simp [imZ]
theorem Z5 (p:List Nat) (x:Nat):(imZ it p.reverse).push (it x)=imZ it ([x] ++ p).reverse:=by rw [km];simp
theorem Kh {p:List Nat} {i j:Nat} (h:i≤j):(imZ it p).extract i j=imZ it ((p.take j).drop i):=by
 rw [vT]
 congr 1
 rw [List.drop_take]
theorem Vp (p c:List Nat):imZ it p.reverse ++ (imZ it c).reverse=imZ it (c ++ p).reverse:=by rw [Kg,zU];simp
end
section
variable {prog:Program} {w:World} {A:Around} {E:Value→Shared→Prop} {s:Shared} {κ:SortKind} {it:Nat→Keyed} {lt:Nat→Nat→Bool} {N:Nat} {a b:List Nat}
theorem xY (S:SO lt N) {l:List Nat} {i x y:Nat} (sl:l.Pairwise fun x y=>lt x y=true) (nl:∀ x∈l,x < N) (hx:l[i]?=some x) (yN:y < N) (h:lt x y=true):∀ z∈l.take (i + 1),lt z y=true:=by
 intro z hz
 rw [y9 hx] at hz
 rcases List.mem_append.mp hz with hz | hz
 ·have xl:=List.mem_of_getElem? hx
  refine S.trans z x y (nl z (xX hz)) (nl x xl) yN ?_ h
  obtain ⟨k,hk⟩:=List.getElem?_of_mem hz
  have kl:=(List.getElem?_eq_some_iff.mp hk).1
  rw [List.length_take] at kl
  rw [List.getElem?_take_of_lt (by lia)] at hk
  obtain ⟨l1,e1⟩:=List.getElem?_eq_some_iff.mp hx
  obtain ⟨l2,e2⟩:=List.getElem?_eq_some_iff.mp hk
  have:=List.pairwise_iff_getElem.mp sl k i l2 l1 (by lia)
  rw [e1,e2] at this
  exact this
 ·rw [List.mem_singleton.mp hz];exact h
theorem MPreZ.first (P:MPreZ lt N a b) {na:Nat}:∀ x∈b.take 1,∀ y∈a.take na,lt x y=true:=by
 intro x hx y hy
 have e:b.take 1=[b.getD 0 0]:=by
  have plb:=P.lb
  have g:b[0]?=some b[0]:=List.getElem?_eq_getElem plb
  have t:=y9 g
  rw [t,List.getD_eq_getElem?_getD,g];rfl
 rw [e,List.mem_singleton] at hx
 rw [hx]
 exact P.hd y (xX hy)
structure WayHZ (lt:Nat→Nat→Bool) (a b o:List Nat) (na nb:Nat):Prop where
 m:MJZ lt a b o (a.take na) (b.take nb)
 ha:0 < na
 la:na≤a.length
 hb:1 < nb
 lb:nb≤b.length
theorem WayHZ.len {o:List Nat} {na nb:Nat} (W:WayHZ lt a b o na nb):o.length < a.length + b.length:=by
 have:=W.m.len
 have h1:=W.ha
 have h2:=W.hb
 have h3:=W.la
 have h4:=W.lb
 rw [List.length_take,List.length_take] at this
 lia
abbrev za7:=Option (Array Keyed) × Nat × Nat × Array Keyed × Nat × Nat × Nat
def Ki (a b:Array Keyed) (mg ac bc:Nat) (na nb:Nat) (out:Array Keyed):SMZ (ForInStep za7):=do
 let x ← elem' a (na - 1)
 if (na - 1 == 0)=true then pure (.done (some (a.extract 0 (na - 1) ++ b.extract 0 nb ++ (out.push x).reverse),na - 1,nb,out.push x,mg,ac,bc))
 else if (decide (ac < 7) && decide (bc < 7))=true then pure (.done (none,na - 1,nb,out.push x,mg,ac,bc))
 else pure (.yield (none,na - 1,nb,out.push x,mg,ac,bc))
def Kj (a b:Array Keyed) (mg ac bc:Nat) (na nb:Nat) (out:Array Keyed):SMZ (ForInStep za7):=do
 let x ← elem' b (nb - 1)
 if (nb - 1 == 1)=true then pure (.done (some (b.extract 0 (nb - 1) ++ a.extract 0 na ++ (out.push x).reverse),na,nb - 1,out.push x,mg,ac,bc))
 else do
  let y ← elem' a (na - 1)
  match ← jk true y b 0 (nb - 1) (nb - 1 - 1) with
  | some k=>if nb - 1 - k > 0 then (if (k == 1)=true then pure (.done (some (b.extract 0 k ++ a.extract 0 na ++ (out.push x ++ (b.extract k (nb - 1)).reverse).reverse),na,k,out.push x ++ (b.extract k (nb - 1)).reverse,mg,ac,nb - 1 - k)) else if (k == 0)=true then pure (.done (some (a.extract 0 na ++ b.extract 0 k ++ (out.push x ++ (b.extract k (nb - 1)).reverse).reverse),na,k,out.push x ++ (b.extract k (nb - 1)).reverse,mg,ac,nb - 1 - k)) else Ki a b mg ac (nb - 1 - k) na k (out.push x ++ (b.extract k (nb - 1)).reverse)) else Ki a b mg ac (nb - 1 - k) na (nb - 1) (out.push x)
  | _=>pure (.done (some (a.extract 0 na ++ b.extract 0 (nb - 1) ++ (out.push x).reverse),na,nb - 1,out.push x,mg,ac,bc))
def QY (κ:SortKind) (it:Nat→Keyed) (lt:Nat→Nat→Bool) (a b:List Nat) (st0:SortSt) (n:Nat) (r:ForInStep za7) (st:SortSt):Prop:=match r with
 | .done c=>Xf κ it lt a b st0 c.1 st∨∃ o na nb mg ac bc,c=(none,na,nb,imZ it o.reverse,mg,ac,bc)∧WayHZ lt a b o na nb∧n < o.length∧xM κ st0 st
 | .yield c=>∃ o na nb mg ac bc,c=(none,na,nb,imZ it o.reverse,mg,ac,bc)∧WayHZ lt a b o na nb∧n < o.length∧xM κ st0 st
theorem ZE (o:List Nat):(imZ it o.reverse).reverse=imZ it o:=by rw [Kg,List.reverse_reverse]
theorem XU {st0 st:SortSt} {mg ac bc na nb n xa xb:Nat} {o:List Nat} (S:SO lt N) (P:MPreZ lt N a b) (k:xM κ st0 st) (m:MJZ lt a b o (a.take na) (b.take nb)) (ha:0 < na) (la:na≤a.length) (hb:1 < nb) (lb:nb≤b.length) (ga:a[na - 1]?=some xa) (gb:b[nb - 1]?=some xb) (e:lt xb xa=true) (hn:n≤o.length) :
  wpS (model prog w) A E s (Ki (imZ it a) (imZ it b) mg ac bc na nb (imZ it o.reverse)) (QY κ it lt a b st0 n) st:=by
 have mb:=List.mem_of_getElem? gb
 have ma:=List.mem_of_getElem? ga
 unfold Ki
 refine wpS_bind (zX (yq ga) ?_)
 rw [Z5,ZE,qw,qw]
 have M2:MJZ lt a b ([xa] ++ o) (a.take (na - 1)) (b.take nb):=by
  have t:=y9 ga
  rw [show na - 1 + 1=na by lia] at t
  rw [t] at m
  refine m.left fun x hx z hz=>?_
  rw [List.mem_singleton.mp hx]
  have:=xY S P.sb P.nB gb (P.nA _ ma) e
  rw [show nb - 1 + 1=nb by lia] at this
  exact this z hz
 by_cases d1:(na - 1 == 0)=true
 ·rw [if_pos d1]
  have d1':na - 1=0:=by simpa using d1
  refine wpS_pure (.inl ⟨_,?_,M2.end (fun x hx y hy=>by rw [d1',List.take_zero] at hx;cases hx),k⟩)
  rw [zU,zU]
 ·rw [if_neg d1]
  have d1':na - 1≠0:=by simpa using d1
  have W2:WayHZ lt a b ([xa] ++ o) (na - 1) nb:=⟨M2,by lia,by lia,hb,lb⟩
  by_cases d2:(decide (ac < 7) && decide (bc < 7))=true
  ·rw [if_pos d2]
   exact wpS_pure (.inr ⟨_,_,_,_,_,_,rfl,W2,by simp;lia,k⟩)
  ·rw [if_neg d2]
   exact wpS_pure ⟨_,_,_,_,_,_,rfl,W2,by simp;lia,k⟩
theorem XV {st0 st:SortSt} {mg ac bc na nb n xa xb:Nat} {o:List Nat} (S:SO lt N) (hc:wr prog w A s κ it lt N) (P:MPreZ lt N a b) (k:xM κ st0 st) (m:MJZ lt a b o (a.take na) (b.take nb)) (ha:0 < na) (la:na≤a.length) (hb:1 < nb) (lb:nb≤b.length) (ga:a[na - 1]?=some xa) (gb:b[nb - 1]?=some xb) (e:lt xa xb=true) (hn:n≤o.length) :
  wpS (model prog w) A E s (Kj (imZ it a) (imZ it b) mg ac bc na nb (imZ it o.reverse)) (QY κ it lt a b st0 n) st:=by
 have mb:=List.mem_of_getElem? gb
 have ma:=List.mem_of_getElem? ga
 unfold Kj
 refine wpS_bind (zX (yq gb) ?_)
 rw [Z5,ZE,qw,qw]
 have M2:MJZ lt a b ([xb] ++ o) (a.take na) (b.take (nb - 1)):=by
  have t:=y9 gb
  rw [show nb - 1 + 1=nb by lia] at t
  rw [t] at m
  refine m.right fun x hx z hz=>?_
  rw [List.mem_singleton.mp hx]
  have:=xY S P.sa P.nA ga (P.nB _ mb) e
  rw [show na - 1 + 1=na by lia] at this
  exact this z hz
 by_cases d1:(nb - 1 == 1)=true
 ·rw [if_pos d1]
  have d1':nb - 1=1:=by simpa using d1
  refine wpS_pure (.inl ⟨_,?_,M2.end' (by rw [d1'];exact P.first),k⟩)
  rw [zU,zU]
 ·rw [if_neg d1]
  have d1':nb - 1≠1:=by simpa using d1
  refine wpS_bind (zX (yq ga) ?_)
  refine wpS_bind (xU S hc k.k (P.nA _ ma) (fun x hx=>?_) ?_ (by lia) (by lia) fun j hj lo hi=>?_)
  ·rw [List.drop_zero] at hx;exact ⟨P.nB _ (xX hx),Ne.symm (P.dj _ ma _ (xX hx))⟩
  ·rw [List.drop_zero];exact M2.sq
  ·rw [List.drop_zero] at lo hi
   dsimp only
   rw [qw,Kh hj,Vp,ZE]
   have M3:MJZ lt a b ((b.take (nb - 1)).drop j ++ ([xb] ++ o)) (a.take na) (b.take j):=by
    rw [YE hj] at M2
    refine M2.right fun x hx z hz=>?_
    have xb':x∈b:=xX (List.mem_of_mem_drop hx)
    have h:=hi x hx
    have:=xY S P.sa P.nA ga (P.nB _ xb') h
    rw [show na - 1 + 1=na by lia] at this
    exact this z hz
   have nx:0 < j→∃ y,b[j - 1]?=some y∧lt y xa=true:=fun h=>by
    have g:b[j - 1]?=some b[j - 1]:=List.getElem?_eq_getElem (by lia)
    refine ⟨b[j - 1],g,lo _ ?_⟩
    have t:=y9 g
    rw [show j - 1 + 1=j by lia] at t
    rw [t];exact List.mem_append_right _ (List.mem_singleton_self _)
   by_cases z:nb - 1 - j > 0
   ·rw [if_pos z]
    by_cases d2:(j == 1)=true
    ·rw [if_pos d2]
     have d2':j=1:=by simpa using d2
     refine wpS_pure (.inl ⟨_,?_,M3.end' (by rw [d2'];exact P.first),k⟩)
     rw [zU,zU]
    ·rw [if_neg d2]
     have d2':j≠1:=by simpa using d2
     by_cases d3:(j == 0)=true
     ·rw [if_pos d3]
      have d3':j=0:=by simpa using d3
      refine wpS_pure (.inl ⟨_,?_,M3.end (fun x _ y hy=>by rw [d3',List.take_zero] at hy;cases hy),k⟩)
      rw [zU,zU]
     ·rw [if_neg d3]
      have d3':j≠0:=by simpa using d3
      obtain ⟨y,gy,ly⟩:=nx (by lia)
      exact XU S P k M3 ha la (by lia) (by lia) ga gy ly (by simp;lia)
   ·rw [if_neg z]
    obtain rfl:j=nb - 1:=by lia
    obtain ⟨y,gy,ly⟩:=nx (by lia)
    exact XU S P k M2 ha la (by lia) (by lia) ga gy ly (by simp;lia)
theorem Wu {st:SortSt} {Q:Array Keyed→SortSt→Prop} (S:SO lt N) (hc:wr prog w A s κ it lt N) (hk:xM κ st st) (P:MPreZ lt N a b) (q:∀ m st',Zs lt a b m→xM κ st st'→Q (imZ it m) st') :
  wpS (model prog w) A E s (KZ (imZ it a) (imZ it b)) Q st:=by
 have pla:=P.la
 have plb:=P.lb
 refine wpS_bind (wpS_lift (wpAny_rule ⟨rfl,?_⟩))
 have sA:=wq (it:=it) a
 have sB:=wq (it:=it) b
 have a0:a[a.length - 1]?=some (a.getD (a.length - 1) 0):=by rw [List.getD_eq_getElem?_getD,List.getElem?_eq_getElem (by lia)];rfl
 refine wpS_bind (zX (x:=it (a.getD (a.length - 1) 0)) (by rw [sA];exact yq a0) ?_)
 have M0:MJZ lt a b [a.getD (a.length - 1) 0] (a.take (a.length - 1)) (b.take b.length):=by
  have:=MJZ.start P.sa P.sb
  have t:=y9 a0
  rw [show a.length - 1 + 1=a.length by lia,List.take_length] at t
  have h2:MJZ lt a b [] (a.take (a.length - 1) ++ [a.getD (a.length - 1) 0]) b:=by rw [← t];exact this
  rw [List.take_length]
  exact h2.left fun x hx y hy=>by rw [List.mem_singleton.mp hx];exact P.tl y hy
 have o0:(#[it (a.getD (a.length - 1) 0)]:Array Keyed)=imZ it [a.getD (a.length - 1) 0].reverse:=rfl
 rw [o0,sA,sB]
 have eA:∀ i,(imZ it a).extract 0 i=imZ it (a.take i):=qw a
 have eB:∀ i,(imZ it b).extract 0 i=imZ it (b.take i):=qw b
 have endA:∀ {o:List Nat} {na nb:Nat},MJZ lt a b o (a.take na) (b.take nb)→na=0→Zs lt a b (a.take na ++ b.take nb ++ o):=fun m e=>m.end fun x hx y hy=>by rw [e,List.take_zero] at hx;cases hx
 have endF:∀ {o:List Nat} {na nb:Nat},MJZ lt a b o (a.take na) (b.take nb)→nb=1→Zs lt a b (b.take nb ++ a.take na ++ o):=fun m e=>m.end' (by rw [e];exact P.first)
 by_cases c1:(a.length - 1 == 0)=true
 ·rw [if_pos c1]
  refine wpS_pure ?_
  dsimp only
  rw [eA,eB,ZE,zU,zU]
  exact q _ _ (endA M0 (by simpa using c1)) hk
 ·rw [if_neg c1]
  by_cases c2:(b.length == 1)=true
  ·rw [if_pos c2]
   refine wpS_pure ?_
   dsimp only
   rw [eA,eB,ZE,zU,zU]
   exact q _ _ (endF M0 (by simpa using c2)) hk
  ·rw [if_neg c2]
   have n1:a.length - 1≠0:=by simpa using c1
   have n2:b.length≠1:=by simpa using c2
   have W0:WayHZ lt a b [a.getD (a.length - 1) 0] (a.length - 1) b.length:=⟨M0,by lia,by lia,by lia,by lia⟩
   refine wpS_bind (wpS_get ?_)
   refine wpS_bind (wpS_mono (wpS_forRange (fun x c st'=>∃ o na nb mg,c=(none,na,nb,imZ it o.reverse,mg)∧WayHZ lt a b o na nb∧x < o.length∧xM κ st st') (Q:=fun c st'=>Xf κ it lt a b st c.1 st') ?step ?fin ⟨[a.getD (a.length - 1) 0],_,_,_,rfl,W0,by simp,hk⟩) ?post)
   case post =>
    rintro c st' ⟨m,e,r,k⟩
    obtain ⟨r1,c⟩:=c
    dsimp only at e
    subst e
    exact wpS_pure (q m st' r k)
   case fin =>
    rintro c st' ⟨o,na,nb,mg,rfl,W,hx,k⟩
    have:=W.len
    lia
   case step =>
    rintro x c st' _ hx ⟨o,na,nb,mg,rfl,W,hxo,k⟩
    dsimp only
    refine wpS_bind (wpS_mono (wpS_forRange (fun y c st2=>∃ o' na' nb' ac bc,c=(none,na',nb',imZ it o'.reverse,ac,bc)∧WayHZ lt a b o' na' nb'∧o.length + y≤o'.length∧xM κ st st2) (Q:=fun c st2=>Xf κ it lt a b st c.1 st2∨∃ o' na' nb' ac bc,c=(none,na',nb',imZ it o'.reverse,ac,bc)∧WayHZ lt a b o' na' nb'∧o.length + 1≤o'.length∧xM κ st st2) ?step1 ?fin1 ⟨o,na,nb,0,0,rfl,W,Nat.le_refl _,k⟩) ?post1)
    case fin1 =>
     rintro c st2 ⟨o',na',nb',ac,bc,rfl,W',hl,k'⟩
     have:=W'.len
     lia
    case step1 =>
     rintro y c st2 _ hy ⟨o',na',nb',ac,bc,rfl,W',hl,k'⟩
     dsimp only
     have w1:=W'.ha
     have w2:=W'.la
     have w3:=W'.hb
     have w4:=W'.lb
     obtain ⟨xb,gb⟩:∃ xb,b[nb' - 1]?=some xb:=⟨_,List.getElem?_eq_getElem (by lia)⟩
     obtain ⟨xa,ga⟩:∃ xa,a[na' - 1]?=some xa:=⟨_,List.getElem?_eq_getElem (by lia)⟩
     have mb:=List.mem_of_getElem? gb
     have ma:=List.mem_of_getElem? ga
     refine wpS_bind (zX (yq gb) (wpS_bind (zX (yq ga) (wpS_bind (kn hc k'.k (P.nB _ mb) (P.nA _ ma) (Ne.symm (P.dj _ ma _ mb)) ?_)))))
     have M1:=W'.m
     cases e:lt xb xa with
     | true =>
      dsimp only
      rw [if_pos rfl]
      refine wpS_bind (zX (yq ga) ?_)
      rw [Z5]
      have M2:MJZ lt a b ([xa] ++ o') (a.take (na' - 1)) (b.take nb'):=by
       have t:=y9 ga
       rw [show na' - 1 + 1=na' by lia] at t
       rw [t] at M1
       refine M1.left fun x hx z hz=>?_
       rw [List.mem_singleton.mp hx]
       have:=xY S P.sb P.nB gb (P.nA _ ma) e
       rw [show nb' - 1 + 1=nb' by lia] at this
       exact this z hz
      by_cases d1:(na' - 1 == 0)=true
      ·rw [if_pos d1]
       refine wpS_pure (.inl ⟨_,?_,endA M2 (by simpa using d1),k'⟩)
       rw [eA,eB,ZE,zU,zU]
      ·rw [if_neg d1]
       have d1':na' - 1≠0:=by simpa using d1
       have W2:WayHZ lt a b ([xa] ++ o') (na' - 1) nb':=⟨M2,by lia,by lia,w3,w4⟩
       by_cases d2:ac + 1 ≥ mg
       ·rw [if_pos d2]
        exact wpS_pure (.inr ⟨_,_,_,_,_,rfl,W2,by simp;lia,k'⟩)
       ·rw [if_neg d2]
        exact wpS_pure ⟨_,_,_,_,_,rfl,W2,by simp;lia,k'⟩
     | false =>
      dsimp only
      rw [if_neg (by decide)]
      refine wpS_bind (zX (yq gb) ?_)
      rw [Z5]
      have e':=S.tot _ _ (P.nB _ mb) (P.nA _ ma) (Ne.symm (P.dj _ ma _ mb)) e
      have M2:MJZ lt a b ([xb] ++ o') (a.take na') (b.take (nb' - 1)):=by
       have t:=y9 gb
       rw [show nb' - 1 + 1=nb' by lia] at t
       rw [t] at M1
       refine M1.right fun x hx z hz=>?_
       rw [List.mem_singleton.mp hx]
       have:=xY S P.sa P.nA ga (P.nB _ mb) e'
       rw [show na' - 1 + 1=na' by lia] at this
       exact this z hz
      by_cases d1:(nb' - 1 == 1)=true
      ·rw [if_pos d1]
       refine wpS_pure (.inl ⟨_,?_,endF M2 (by simpa using d1),k'⟩)
       rw [eA,eB,ZE,zU,zU]
      ·rw [if_neg d1]
       have d1':nb' - 1≠1:=by simpa using d1
       have W2:WayHZ lt a b ([xb] ++ o') na' (nb' - 1):=⟨M2,w1,w2,by lia,by lia⟩
       by_cases d2:bc + 1 ≥ mg
       ·rw [if_pos d2]
        exact wpS_pure (.inr ⟨_,_,_,_,_,rfl,W2,by simp;lia,k'⟩)
       ·rw [if_neg d2]
        exact wpS_pure ⟨_,_,_,_,_,rfl,W2,by simp;lia,k'⟩
    case post1 =>
     rintro c st2 (⟨m,e,r,k'⟩ | ⟨o',na',nb',ac,bc,rfl,W',hl,k'⟩)
     ·obtain ⟨r1,c⟩:=c
      dsimp only at e
      subst e
      exact wpS_pure ⟨m,rfl,r,k'⟩
     ·dsimp only
      refine wpS_bind (wpS_lift (wpAny_rule ⟨rfl,?_⟩))
      refine wpS_bind (wpS_mono (wpS_forRange (fun y c st3=>∃ o2 na2 nb2 mg2 ac2 bc2,c=(none,na2,nb2,imZ it o2.reverse,mg2,ac2,bc2)∧WayHZ lt a b o2 na2 nb2∧o.length + 1 + y≤o2.length∧xM κ st st3) (Q:=fun c st3=>Xf κ it lt a b st c.1 st3∨∃ o2 na2 nb2 mg2 ac2 bc2,c=(none,na2,nb2,imZ it o2.reverse,mg2,ac2,bc2)∧WayHZ lt a b o2 na2 nb2∧o.length < o2.length∧xM κ st st3) ?step2 ?fin2 ⟨o',na',nb',_,ac,bc,rfl,W',hl,k'⟩) ?post2)
      case fin2 =>
       rintro c st3 ⟨o2,na2,nb2,mg2,ac2,bc2,rfl,W2,hl2,k2⟩
       have:=W2.len
       lia
      case step2 =>
       rintro y c st3 _ hy ⟨o2,na2,nb2,mg2,ac2,bc2,rfl,W2,hl2,k2⟩
       dsimp only
       have w1:=W2.ha
       have w2:=W2.la
       have w3:=W2.hb
       have w4:=W2.lb
       obtain ⟨xb,gb⟩:∃ xb,b[nb2 - 1]?=some xb:=⟨_,List.getElem?_eq_getElem (by lia)⟩
       have mb:=List.mem_of_getElem? gb
       have go:∀ g:Nat,wpS (model prog w) A E s (do
         Ka g
         let u ← elem' (imZ it b) (nb2 - 1)
         match ← jk false u (imZ it a) 0 na2 (na2 - 1) with
         | some k=>if na2 - k > 0 then (if (k == 0)=true then pure (.done (some ((imZ it a).extract 0 k ++ (imZ it b).extract 0 nb2 ++ (imZ it o2.reverse ++ ((imZ it a).extract k na2).reverse).reverse),k,nb2,imZ it o2.reverse ++ ((imZ it a).extract k na2).reverse,g,na2 - k,bc2)) else Kj (imZ it a) (imZ it b) g (na2 - k) bc2 k nb2 (imZ it o2.reverse ++ ((imZ it a).extract k na2).reverse)) else Kj (imZ it a) (imZ it b) g (na2 - k) bc2 na2 nb2 (imZ it o2.reverse)
         | _=>pure (.done (some ((imZ it a).extract 0 na2 ++ (imZ it b).extract 0 nb2 ++ (imZ it o2.reverse).reverse),na2,nb2,imZ it o2.reverse,g,ac2,bc2)):SMZ (ForInStep za7)) (QY κ it lt a b st (o.length + 1 + y)) st3:=by
        intro g
        refine wpS_bind (wpS_modify ?_)
        have k3:xM κ st (SortSt.mk' (kindOf st3) (arrOf st3) (pendingOf st3) g (failedOf st3)):=⟨k2.k,k2.f,k2.a,k2.p⟩
        refine wpS_bind (zX (yq gb) ?_)
        refine wpS_bind (xU S hc k3.k (P.nB _ mb) (fun x hx=>?_) ?_ (by lia) (by lia) fun j hj lo hi=>?_)
        ·rw [List.drop_zero] at hx;exact ⟨P.nA _ (xX hx),P.dj _ (xX hx) _ mb⟩
        ·rw [List.drop_zero];exact W2.m.sp
        ·rw [List.drop_zero] at lo hi
         dsimp only
         rw [Kh hj,Vp,ZE,eA,eB]
         have M3:MJZ lt a b ((a.take na2).drop j ++ o2) (a.take j) (b.take nb2):=by
          have m:=W2.m
          rw [YE hj] at m
          refine m.left fun x hx z hz=>?_
          have xa':x∈a:=xX (List.mem_of_mem_drop hx)
          have:=xY S P.sb P.nB gb (P.nA _ xa') (hi x hx)
          rw [show nb2 - 1 + 1=nb2 by lia] at this
          exact this z hz
         have nx:0 < j→∃ z,a[j - 1]?=some z∧lt z xb=true:=fun h=>by
          have g:a[j - 1]?=some a[j - 1]:=List.getElem?_eq_getElem (by lia)
          refine ⟨a[j - 1],g,lo _ ?_⟩
          have t:=y9 g
          rw [show j - 1 + 1=j by lia] at t
          rw [t];exact List.mem_append_right _ (List.mem_singleton_self _)
         by_cases z:na2 - j > 0
         ·rw [if_pos z]
          by_cases d1:(j == 0)=true
          ·rw [if_pos d1]
           refine wpS_pure (.inl ⟨_,?_,endA M3 (by simpa using d1),k3⟩)
           rw [zU,zU]
          ·rw [if_neg d1]
           have d1':j≠0:=by simpa using d1
           obtain ⟨z,gz,lz⟩:=nx (by lia)
           exact XV S hc P k3 M3 (by lia) (by lia) w3 w4 gz gb lz (by simp;lia)
         ·rw [if_neg z]
          obtain rfl:j=na2:=by lia
          obtain ⟨z,gz,lz⟩:=nx (by lia)
          exact XV S hc P k3 W2.m w1 w2 w3 w4 gz gb lz (by lia)
       have fitD:∀ c' st4,QY κ it lt a b st (o.length + 1 + y) (.done c') st4→Xf κ it lt a b st c'.1 st4∨∃ o2 na2 nb2 mg2 ac2 bc2,c'=(none,na2,nb2,imZ it o2.reverse,mg2,ac2,bc2)∧WayHZ lt a b o2 na2 nb2∧o.length < o2.length∧xM κ st st4:=by
        intro c st4 h
        rcases h with h | ⟨o3,na3,nb3,mg3,ac3,bc3,e,W3,l3,k4⟩
        ·exact .inl h
        ·exact .inr ⟨o3,na3,nb3,mg3,ac3,bc3,e,W3,by lia,k4⟩
       have fitY:∀ c' st4,QY κ it lt a b st (o.length + 1 + y) (.yield c') st4→∃ o2 na2 nb2 mg2 ac2 bc2,c'=(none,na2,nb2,imZ it o2.reverse,mg2,ac2,bc2)∧WayHZ lt a b o2 na2 nb2∧o.length + 1 + (y + 1)≤o2.length∧xM κ st st4:=by
        intro c st4 h
        obtain ⟨o3,na3,nb3,mg3,ac3,bc3,e,W3,l3,k4⟩:=h
        exact ⟨o3,na3,nb3,mg3,ac3,bc3,e,W3,by lia,k4⟩
       by_cases d:mg2 > 1
       ·rw [if_pos d]
        exact wpS_mono (go (mg2 - 1)) fun r st4 h=>by cases r with | done c=>exact fitD _ _ h | yield c=>exact fitY _ _ h
       ·rw [if_neg d]
        exact wpS_mono (go mg2) fun r st4 h=>by cases r with | done c=>exact fitD _ _ h | yield c=>exact fitY _ _ h
      case post2 =>
       rintro c st3 (⟨m,e,r,k2⟩ | ⟨o2,na2,nb2,mg2,ac2,bc2,rfl,W2,hl2,k2⟩)
       ·obtain ⟨r1,c⟩:=c
        dsimp only at e
        subst e
        exact wpS_pure ⟨m,rfl,r,k2⟩
       ·dsimp only
        refine wpS_bind (wpS_modify (wpS_pure ⟨o2,na2,nb2,_,rfl,W2,by lia,?_⟩))
        exact ⟨k2.k,k2.f,k2.a,k2.p⟩
end
end L2
namespace L2
open PySem PySem.W PyProof.Rows
section
variable {prog:Program} {w:World} {A:Around} {E:Value→Shared→Prop} {s:Shared} {κ:SortKind} {it:Nat→Keyed} {lt:Nat→Nat→Bool} {N:Nat}
def RiseSZ (lt:Nat→Nat→Bool) (p:Array Nat) (lo m:Nat):Prop:=∀ i j,i < j→j < m→lt (gt p (lo + i)) (gt p (lo + j))=true
structure SAZ (κ:SortKind) (it:Nat→Keyed) (N:Nat) (p:Array Nat) (st:SortSt):Prop where
 k:kindOf st=κ
 f:failedOf st=none
 a:arrOf st=p.map it
 pp:PP N p
theorem SAZ.set {p p':Array Nat} {st:SortSt} (h:SAZ κ it N p st) (hp:PP N p'):SAZ κ it N p' (setArr st (p'.map it)):=⟨h.k,h.f,rfl,hp⟩
theorem kT {st:SortSt} {p:Array Nat} {i j:Nat} {Q:Option Bool→SortSt→Prop} (hc:wr prog w A s κ it lt N) (h:SAZ κ it N p st) (hi:i < N) (hj:j < N) (hij:i≠j) (q:Q (some (lt (gt p i) (gt p j))) st):wpS (model prog w) A E s (ltAt' i j) Q st:=by
 rw [ltAt'_eq]
 refine wpS_bind (wpS_get ?_)
 have sz:=h.pp.size
 have gi:(arrOf st)[i]?=some (it (gt p i)):=by rw [h.a,Array.getElem?_map,wT (by lia)];rfl
 have gj:(arrOf st)[j]?=some (it (gt p j)):=by rw [h.a,Array.getElem?_map,wT (by lia)];rfl
 exact wpS_bind (zX gi (wpS_bind (zX gj (kn hc h.k (h.pp.blt hi) (h.pp.blt hj) (fun z=>hij (h.pp.inj hi hj z)) q))))
theorem YF (S:SO lt N) {p:Array Nat} {lo m:Nat} (hp:PP N p) (h:RiseSZ lt p lo m) (h1:1≤m) (hm:lo + m < N) (c:lt (gt p (lo + m)) (gt p (lo + m - 1))=false):RiseSZ lt p lo (m + 1):=by
 have up:lt (gt p (lo + m - 1)) (gt p (lo + m))=true:=S.tot _ _ (hp.blt hm) (hp.blt (by lia)) (fun z=>by have:=hp.inj hm (by lia) z;lia) c
 intro i j hij hj
 by_cases e:j < m
 ·exact h i j hij e
 ·obtain rfl:j=m:=by lia
  by_cases e2:i=j - 1
  ·rw [e2,show lo + (j - 1)=lo + j - 1 by lia];exact up
  ·refine S.trans _ (gt p (lo + j - 1)) _ (hp.blt (by lia)) (hp.blt (by lia)) (hp.blt hm) ?_ up
   have:=h i (j - 1) (by lia) (by lia)
   rwa [show lo + (j - 1)=lo + j - 1 by lia] at this
theorem Vq (p:Array Nat) (i j d:Nat):mirror (p.map it) i j d=(mirror p i j d).map it:=kas_swaps_map it (fun k=>i + k) (fun k=>j - 1 - k) _ p
theorem Vr (p:Array Nat) (i d:Nat):bubble (p.map it) i d=(bubble p i d).map it:=kas_swaps_map it (fun k=>i - k) (fun k=>i - k - 1) _ p
theorem za8 {p:Array Nat} {i j k:Nat} (hj:j≤p.size) (hk:k < p.size):gt (mirror p i j ((j - i) / 2)) k=if i≤k∧k < j then gt p (i + j - 1 - k) else gt p k:=by
 have e:=getElem?_mirror_all (xs:=p) (i:=i) (j:=j) hj k
 have e1:=wT (p:=mirror p i j ((j - i) / 2)) (k:=k) (by rw [mirror_size];exact hk)
 rw [e] at e1
 by_cases c:i≤k∧k < j
 ·rw [if_pos c] at e1 ⊢
  rw [wT (by lia)] at e1
  exact (Option.some.inj e1).symm
 ·rw [if_neg c] at e1 ⊢
  rw [wT hk] at e1
  exact (Option.some.inj e1).symm
theorem Jv {st:SortSt} {p:Array Nat} {lo nrem:Nat} {Q:Option Nat→SortSt→Prop} (S:SO lt N) (hc:wr prog w A s κ it lt N) (h:SAZ κ it N p st) (h1:1≤nrem) (h2:lo + nrem≤N)
  (q:∀ m p',1≤m→m≤nrem→SAZ κ it N p' (setArr st (p'.map it))→(∀ i,i < lo→gt p' i=gt p i)→RiseSZ lt p' lo m→Q (some m) (setArr st (p'.map it))) :
  wpS (model prog w) A E s (countRun' lo nrem) Q st:=by
 have sz:=h.pp.size
 have st0:setArr st (p.map it)=st:=by rw [← h.a]
 refine wpS_bind (wpS_mono (wpS_forRange (fun x c st'=>st=st'∧c=(none,x)∧RiseSZ lt p lo x) (Q:=fun c st'=>st=st'∧∃ m,c=(none,m)∧1≤m∧m≤nrem∧RiseSZ lt p lo m∧(m < nrem→lt (gt p (lo + m)) (gt p (lo + m - 1))=true)) ?step ?fin ⟨rfl,rfl,fun i j hij hj=>by lia⟩) ?post)
 case step =>
  rintro x c st' hx1 hx ⟨rfl,rfl,r⟩
  dsimp only
  refine wpS_bind (kT hc h (by lia) (by lia) (by lia) ?_)
  dsimp only
  cases e:lt (gt p (lo + x)) (gt p (lo + x - 1)) with
  | true =>
   rw [if_pos rfl]
   exact wpS_pure ⟨rfl,x,rfl,hx1,by lia,r,fun _=>e⟩
  | false =>
   rw [if_neg (by decide)]
   exact wpS_pure ⟨rfl,rfl,YF S h.pp r hx1 (by lia) e⟩
 case fin =>
  rintro c st' ⟨rfl,rfl,r⟩
  exact ⟨rfl,_,rfl,by lia,by lia,r,fun z=>by lia⟩
 case post =>
  rintro c st' ⟨rfl,m,rfl,m1,m2,r,tn⟩
  dsimp only
  by_cases c1:(m == nrem)=true
  ·rw [if_pos c1]
   refine wpS_pure ?_
   have:=q m p m1 m2 (h.set h.pp) (fun _ _=>rfl) r
   rw [st0] at this
   exact this
  ·rw [if_neg c1]
   have c1':m≠nrem:=by simpa using c1
   by_cases c2:m > 1
   ·rw [if_pos c2]
    refine wpS_bind (kT hc h (by lia) (by lia) (by lia) ?_)
    dsimp only
    have ro:=r 0 (m - 1) (by lia) (by lia)
    rw [Nat.add_zero,show lo + (m - 1)=lo + m - 1 by lia] at ro
    rw [ro,if_pos rfl]
    refine wpS_pure ?_
    have:=q m p m1 m2 (h.set h.pp) (fun _ _=>rfl) r
    rw [st0] at this
    exact this
   ·rw [if_neg c2]
    obtain rfl:m=1:=by lia
    have dn:=tn (by lia)
    refine wpS_bind (wpS_lift (wpAny_rule ⟨rfl,?_⟩))
    -- the part that falls
    refine wpS_bind (wpS_mono (wpS_forRange (fun x c st'=>st=st'∧c=(none,x,0)∧∀ i j,i < j→j < x→lt (gt p (lo + j)) (gt p (lo + i))=true) (Q:=fun c st'=>st=st'∧∃ x,c=(none,x,0)∧2≤x∧x≤nrem∧∀ i j,i < j→j < x→lt (gt p (lo + j)) (gt p (lo + i))=true) ?step2 ?fin2 ⟨rfl,rfl,fun i j hij hj=>(by
     obtain rfl:j=1:=by lia
     obtain rfl:i=0:=by lia
     exact dn)⟩) ?post2)
    case step2 =>
     rintro x c st' hx1 hx ⟨rfl,rfl,f⟩
     dsimp only
     refine wpS_bind (kT hc h (by lia) (by lia) (by lia) ?_)
     dsimp only
     cases e:lt (gt p (lo + x)) (gt p (lo + x - 1)) with
     | true =>
      rw [if_pos rfl,if_neg (by decide)]
      refine wpS_pure ⟨rfl,rfl,fun i j hij hj=>?_⟩
      by_cases e1:j < x
      ·exact f i j hij e1
      ·obtain rfl:j=x:=by lia
       by_cases e2:i=j - 1
       ·rw [e2,show lo + (j - 1)=lo + j - 1 by lia];exact e
       ·refine S.trans _ (gt p (lo + j - 1)) _ (h.pp.blt (by lia)) (h.pp.blt (by lia)) (h.pp.blt (by lia)) e ?_
        have:=f i (j - 1) (by lia) (by lia)
        rwa [show lo + (j - 1)=lo + j - 1 by lia] at this
     | false =>
      rw [if_neg (by decide)]
      refine wpS_bind (kT hc h (by lia) (by lia) (by lia) ?_)
      dsimp only
      have up:lt (gt p (lo + x - 1)) (gt p (lo + x))=true:=S.tot _ _ (h.pp.blt (by lia)) (h.pp.blt (by lia)) (fun z=>by have:=h.pp.inj (by lia) (by lia) z;lia) e
      rw [up,if_pos rfl]
      exact wpS_pure ⟨rfl,x,rfl,hx1,by lia,f⟩
    case fin2 =>
     rintro c st' ⟨rfl,rfl,f⟩
     exact ⟨rfl,_,rfl,by lia,by lia,f⟩
    case post2 =>
     rintro c st' ⟨rfl,x,rfl,x2,xn,f⟩
     dsimp only
     rw [if_neg (by decide)]
     refine wpS_bind (wpS_modify ?_)
     have es:(fun s=>setArr s (mirror (arrOf s) lo (lo + x) ((lo + x - lo) / 2))) st=setArr st ((mirror p lo (lo + x) ((lo + x - lo) / 2)).map it):=by
      show setArr st (mirror (arrOf st) lo (lo + x) ((lo + x - lo) / 2))=_
      rw [h.a,Vq]
     have hp':PP N (mirror p lo (lo + x) ((lo + x - lo) / 2)):=Array.Perm.trans (mirror_perm _ _ _ _) h.pp
     have g':∀ k,k < N→gt (mirror p lo (lo + x) ((lo + x - lo) / 2)) k=if lo≤k∧k < lo + x then gt p (lo + (lo + x) - 1 - k) else gt p k:=fun k hk=>za8 (by lia) (by lia)
     show wpS (model prog w) A E s _ Q ((fun s=>setArr s (mirror (arrOf s) lo (lo + x) ((lo + x - lo) / 2))) st)
     rw [es]
     generalize mirror p lo (lo + x) ((lo + x - lo) / 2)=p' at *
     have h':=h.set hp'
     have r':RiseSZ lt p' lo x:=fun i j hij hj=>by
      rw [g' _ (by lia),g' _ (by lia),if_pos ⟨by lia,by lia⟩,if_pos ⟨by lia,by lia⟩]
      have:=f (x - 1 - j) (x - 1 - i) (by lia) (by lia)
      rwa [show lo + (x - 1 - i)=lo + (lo + x) - 1 - (lo + i) by lia,show lo + (x - 1 - j)=lo + (lo + x) - 1 - (lo + j) by lia] at this
     have kp:∀ i,i < lo→gt p' i=gt p i:=fun i hi=>by rw [g' i (by lia),if_neg (by lia)]
     refine wpS_bind (wpS_mono (wpS_forRange (fun y c st'=>setArr st (p'.map it)=st'∧c=(none,y)∧RiseSZ lt p' lo y) (Q:=fun c st'=>setArr st (p'.map it)=st'∧∃ m,c=(none,m)∧1≤m∧m≤nrem∧RiseSZ lt p' lo m) ?step3 ?fin3 ⟨rfl,rfl,r'⟩) ?post3)
     case step3 =>
      rintro y c st' hy1 hy ⟨rfl,rfl,r⟩
      dsimp only
      refine wpS_bind (kT hc h' (by lia) (by lia) (by lia) ?_)
      dsimp only
      cases e:lt (gt p' (lo + y)) (gt p' (lo + y - 1)) with
      | true =>
       rw [if_pos rfl]
       exact wpS_pure ⟨rfl,y,rfl,by lia,by lia,r⟩
      | false =>
       rw [if_neg (by decide)]
       exact wpS_pure ⟨rfl,rfl,YF S hp' r (by lia) (by lia) e⟩
     case fin3 =>
      rintro c st' ⟨rfl,rfl,r⟩
      exact ⟨rfl,_,rfl,by lia,by lia,r⟩
     case post3 =>
      rintro c st' ⟨rfl,m,rfl,m1,m2,r⟩
      exact wpS_pure (q m p' m1 m2 h' kp r)
theorem QZ {st:SortSt} {p:Array Nat} {lo n ok:Nat} {Q:Bool→SortSt→Prop} (S:SO lt N) (hc:wr prog w A s κ it lt N) (h:SAZ κ it N p st) (h1:1≤ok) (h2:ok≤n) (h3:lo + n≤N) (r:RiseSZ lt p lo ok)
  (q:∀ p',SAZ κ it N p' (setArr st (p'.map it))→(∀ i,i < lo→gt p' i=gt p i)→RiseSZ lt p' lo n→Q true (setArr st (p'.map it))) :
  wpS (model prog w) A E s (binarySort' lo n ok) Q st:=by
 have sz:=h.pp.size
 refine wpS_bind (wpS_mono (wpS_forRange (fun x c st'=>∃ p',setArr st (p'.map it)=st'∧c=(none,())∧PP N p'∧(∀ i,i < lo→gt p' i=gt p i)∧RiseSZ lt p' lo x) (Q:=fun c st'=>∃ p',setArr st (p'.map it)=st'∧c=(none,())∧PP N p'∧(∀ i,i < lo→gt p' i=gt p i)∧RiseSZ lt p' lo n) ?step ?fin ⟨p,by rw [← h.a],rfl,h.pp,fun _ _=>rfl,by rw [Nat.max_eq_left h1];exact r⟩) ?post)
 case fin =>
  rintro c st' ⟨p',rfl,rfl,hp,kp,r⟩
  exact ⟨p',rfl,rfl,hp,kp,by rw [show max (max ok 1) n=n by lia] at r;exact r⟩
 case post =>
  rintro c st' ⟨p',rfl,rfl,hp,kp,r⟩
  exact wpS_pure (q p' (h.set hp) kp r)
 case step =>
  rintro x c st' hx1 hx ⟨p',rfl,rfl,hp,kp,r⟩
  dsimp only
  have h':=h.set hp
  have sz':=hp.size
  refine wpS_bind (wpS_mono (wpS_forRange (fun y c st2=>setArr st (p'.map it)=st2∧∃ l u,c=(none,l,u)∧l≤u∧u≤x∧u - l≤x - y∧(∀ i,i < l→lt (gt p' (lo + i)) (gt p' (lo + x))=true)∧(∀ i,u≤i→i < x→lt (gt p' (lo + x)) (gt p' (lo + i))=true)) (Q:=fun c st2=>setArr st (p'.map it)=st2∧∃ l u,c=(none,l,u)∧l≤x∧(∀ i,i < l→lt (gt p' (lo + i)) (gt p' (lo + x))=true)∧(∀ i,l≤i→i < x→lt (gt p' (lo + x)) (gt p' (lo + i))=true)) ?step1 ?fin1 ⟨rfl,0,x,rfl,by lia,by lia,by lia,fun i hi=>by lia,fun i h1 h2=>by lia⟩) ?post1)
  case fin1 =>
   rintro c st2 ⟨rfl,l,u,rfl,a1,a2,a3,a4,a5⟩
   have:l=u:=by lia
   subst this
   exact ⟨rfl,l,l,rfl,a2,a4,a5⟩
  case step1 =>
   rintro y c st2 _ hy ⟨rfl,l,u,rfl,a1,a2,a3,a4,a5⟩
   dsimp only
   by_cases c1:l ≥ u
   ·rw [if_pos c1]
    have:l=u:=by lia
    subst this
    exact wpS_pure ⟨rfl,l,l,rfl,a2,a4,a5⟩
   ·rw [if_neg c1]
    refine wpS_bind (kT hc h' (by lia) (by lia) (by lia) ?_)
    dsimp only
    cases e:lt (gt p' (lo + x)) (gt p' (lo + (l + u) / 2)) with
    | true =>
     rw [if_pos rfl]
     refine wpS_pure ⟨rfl,l,(l + u) / 2,rfl,by lia,by lia,by lia,a4,fun i h1 h2=>?_⟩
     by_cases d:i=(l + u) / 2
     ·rw [d];exact e
     ·exact S.trans _ _ _ (hp.blt (by lia)) (hp.blt (by lia)) (hp.blt (by lia)) e (r _ _ (by lia) h2)
    | false =>
     rw [if_neg (by decide)]
     have up:=S.tot _ _ (hp.blt (by lia)) (hp.blt (by lia)) (fun z=>by have:=hp.inj (by lia) (by lia) z;lia) e
     refine wpS_pure ⟨rfl,(l + u) / 2 + 1,u,rfl,by lia,a2,by lia,fun i hi=>?_,a5⟩
     by_cases d:i=(l + u) / 2
     ·rw [d];exact up
     ·exact S.trans _ _ _ (hp.blt (by lia)) (hp.blt (by lia)) (hp.blt (by lia)) (r _ _ (by lia) (by lia)) up
  case post1 =>
   rintro c st2 ⟨rfl,l,u,rfl,a1,a2,a3⟩
   dsimp only
   refine wpS_bind (wpS_modify ?_)
   have es:(fun s=>setArr s (bubble (arrOf s) (lo + x) (lo + x - (lo + l)))) (setArr st (p'.map it))=setArr st ((bubble p' (lo + x) (lo + x - (lo + l))).map it):=by
    show setArr _ (bubble (p'.map it) _ _)=_
    rw [Vr]
   show wpS (model prog w) A E s _ _ ((fun s=>setArr s (bubble (arrOf s) (lo + x) (lo + x - (lo + l)))) (setArr st (p'.map it)))
   rw [es]
   have g':∀ j,j < N→gt (bubble p' (lo + x) (lo + x - (lo + l))) j=if j=lo + l then gt p' (lo + x) else if lo + l < j∧j≤lo + x then gt p' (j - 1) else gt p' j:=fun j hj=>by
    have:=zb9 (p:=p') (k:=lo + x) (d:=lo + x - (lo + l)) (j:=j) (by lia) (by lia) (by lia)
    rwa [show lo + x - (lo + x - (lo + l))=lo + l by lia] at this
   have hp':PP N (bubble p' (lo + x) (lo + x - (lo + l))):=Array.Perm.trans (bubble_perm _ _ _) hp
   generalize bubble p' (lo + x) (lo + x - (lo + l))=p2 at *
   refine wpS_pure ⟨p2,rfl,rfl,hp',fun i hi=>?_,fun i j hij hj=>?_⟩
   ·rw [g' i (by lia),if_neg (by lia),if_neg (by lia)];exact kp i hi
   ·rw [g' _ (by lia),g' _ (by lia)]
    by_cases c1:i=l
    ·rw [if_pos (by lia),if_neg (by lia),if_pos (by lia),show lo + j - 1=lo + (j - 1) by lia]
     exact a3 _ (by lia) (by lia)
    ·rw [if_neg (by lia)]
     by_cases c2:l < i∧i≤x
     ·rw [if_pos (by lia),if_neg (by lia),if_pos (by lia),show lo + j - 1=lo + (j - 1) by lia,show lo + i - 1=lo + (i - 1) by lia]
      exact r _ _ (by lia) (by lia)
     ·rw [if_neg (by lia)]
      by_cases c3:j=l
      ·rw [if_pos (by lia)];exact a2 _ (by lia)
      ·rw [if_neg (by lia)]
       by_cases c4:l < j∧j≤x
       ·rw [if_pos (by lia),show lo + j - 1=lo + (j - 1) by lia]
        exact r _ _ (by lia) (by lia)
       ·rw [if_neg (by lia)]
        exact r _ _ hij (by lia)
end
end L2
namespace L2
open PySem PySem.W PyProof.Rows
theorem XW {α:Type} (off:Nat):∀ (l:List α) (arr:Array α) (j:Nat),off + j + l.length≤arr.size→(l.zipIdx j).foldl (fun a x=>match x with | (p,j)=>a.setIfInBounds (off + j) p) arr=(arr.toList.take (off + j) ++ l ++ arr.toList.drop (off + j + l.length)).toArray
 | [],arr,j,h=>by simp
 | x :: t,arr,j,h=>by
  rw [List.length_cons] at h
  rw [List.zipIdx_cons,List.foldl_cons]
  have e:=XW off t (arr.setIfInBounds (off + j) x) (j + 1) (by simp;lia)
  dsimp only at e ⊢
  rw [e]
  congr 1
  have es:(arr.setIfInBounds (off + j) x).toList=arr.toList.take (off + j) ++ x :: arr.toList.drop (off + j + 1):=by
   rw [Array.toList_setIfInBounds,List.set_eq_take_append_cons_drop,if_pos (by simp;lia)]
  have lt:(arr.toList.take (off + j)).length=off + j:=by rw [List.length_take,Array.length_toList];lia
  have a1:∀ (U D:List α) (n:Nat),U.length=n→(U ++ x :: D).take (n + 1)=U ++ [x]:=fun U D n h=>by
   rw [List.take_append,List.take_of_length_le (by lia),show n + 1 - U.length=1 by lia];rfl
  have a2:∀ (U D:List α) (n k:Nat),U.length=n→(U ++ x :: D).drop (n + 1 + k)=D.drop k:=fun U D n k h=>by
   rw [List.drop_append,List.drop_eq_nil_of_le (by lia),show n + 1 + k - U.length=k + 1 by lia];rfl
  rw [es,show off + (j + 1)=(off + j) + 1 by lia,a1 _ _ _ lt,a2 _ _ _ _ lt,List.drop_drop,List.length_cons,show off + j + 1 + t.length=off + j + (t.length + 1) by lia]
  simp
section
variable {prog:Program} {w:World} {A:Around} {E:Value→Shared→Prop} {s:Shared} {κ:SortKind} {it:Nat→Keyed} {lt:Nat→Nat→Bool} {N:Nat}
theorem Wv (p:Array Nat):p.map it=imZ it p.toList:=by apply Array.toList_inj.mp;simp [imZ]
theorem Q0 {M:Model} {st st':SortSt} {Q:PUnit→SortSt→Prop} (q:Q ⟨⟩ st'):wpS M A E s (set st':SMZ PUnit) Q st:=by
 unfold wpS
 exact wpAny_pure ⟨rfl,q⟩
theorem ko {p:Array Nat} {k:Nat} (h:k < p.size):p.toList[k]?=some (gt p k):=by
 rw [Array.getElem?_toList];exact wT h
theorem wU {p:Array Nat} {lo m i:Nat} (h:lo + m≤p.size) (hi:i < m):((p.toList.drop lo).take m)[i]?=some (gt p (lo + i)):=by
 rw [List.getElem?_take_of_lt hi,List.getElem?_drop,ko (by lia)]
theorem qZ {p:Array Nat} {lo m:Nat} (h:lo + m≤p.size):((p.toList.drop lo).take m).length=m:=by
 rw [List.length_take,List.length_drop,Array.length_toList];lia
theorem xG {p:Array Nat} {lo m x:Nat} (h:lo + m≤p.size) (hx:x∈(p.toList.drop lo).take m):∃ i,i < m∧x=gt p (lo + i):=by
 obtain ⟨i,hi⟩:=List.getElem?_of_mem hx
 have il:=(List.getElem?_eq_some_iff.mp hi).1
 rw [qZ h] at il
 rw [wU h il] at hi
 exact ⟨i,il,(Option.some.inj hi).symm⟩
theorem Kk {p:Array Nat} {lo m i:Nat} (h:lo + m≤p.size) (hi:i < m):gt p (lo + i)∈(p.toList.drop lo).take m:=List.mem_of_getElem? (wU h hi)
theorem kU {p:Array Nat} {lo m:Nat} (h:lo + m≤p.size) (r:RiseSZ lt p lo m):((p.toList.drop lo).take m).Pairwise fun x y=>lt x y=true:=by
 rw [List.pairwise_iff_getElem]
 intro i j hi hj hij
 rw [qZ h] at hi hj
 have gi:=List.getElem?_eq_some_iff.mp (wU h hi)
 have gj:=List.getElem?_eq_some_iff.mp (wU h hj)
 rw [gi.2,gj.2]
 exact r i j hij hj
theorem RiseSZ.sub {p:Array Nat} {lo m k n:Nat} (r:RiseSZ lt p lo m) (h:k + n≤m):RiseSZ lt p (lo + k) n:=fun i j hij hj=>by
 have:=r (k + i) (k + j) (by lia) (by lia)
 rwa [← Nat.add_assoc,← Nat.add_assoc] at this
theorem RiseSZ.same {p p':Array Nat} {lo m:Nat} (r:RiseSZ lt p lo m) (h:∀ i,i < m→gt p' (lo + i)=gt p (lo + i)):RiseSZ lt p' lo m:=fun i j hij hj=>by
 rw [h i (by lia),h j hj];exact r i j hij hj
def wP (p:Array Nat) (off:Nat) (m:List Nat):Array Nat:=(p.toList.take off ++ m ++ p.toList.drop (off + m.length)).toArray
theorem za9 {p:Array Nat} {off:Nat} {m:List Nat} (h:off + m.length≤p.size) {k:Nat} (hk:k < p.size):gt (wP p off m) k=if off≤k∧k < off + m.length then m.getD (k - off) 0 else gt p k:=by
 have lt:(p.toList.take off).length=off:=by rw [List.length_take,Array.length_toList];lia
 have e:gt (wP p off m) k=((p.toList.take off ++ m ++ p.toList.drop (off + m.length))[k]?).getD 0:=by
  unfold gt wP
  rw [Array.getD_eq_getD_getElem?]
  simp
 rw [e]
 by_cases c1:k < off
 ·rw [if_neg (by lia),List.append_assoc,List.getElem?_append_left (by lia),List.getElem?_take_of_lt c1,ko hk];rfl
 ·by_cases c2:k < off + m.length
  ·rw [if_pos ⟨by lia,c2⟩,List.append_assoc,List.getElem?_append_right (by lia),lt,List.getElem?_append_left (by lia),List.getD_eq_getElem?_getD]
  ·rw [if_neg (by lia),List.append_assoc,List.getElem?_append_right (by lia),lt,List.getElem?_append_right (by lia),List.getElem?_drop,show off + m.length + (k - off - m.length)=k by lia,ko hk];rfl
theorem K1 {p:Array Nat} {off:Nat} {m:List Nat} (hp:PP N p) (h:m.Perm ((p.toList.drop off).take m.length)):PP N (wP p off m):=by
 refine Array.Perm.trans ?_ hp
 rw [Array.perm_iff_toList_perm]
 unfold wP
 show (p.toList.take off ++ m ++ p.toList.drop (off + m.length)).Perm p.toList
 have e:p.toList=p.toList.take off ++ (p.toList.drop off).take m.length ++ p.toList.drop (off + m.length):=by
  rw [List.append_assoc,← List.drop_drop,List.take_append_drop,List.take_append_drop]
 conv=>rhs;rw [e]
 exact List.Perm.append_right _ (List.Perm.append_left _ h)
theorem Ww {st:SortSt} {p:Array Nat} {pre post:List (Nat × Nat × Nat)} {sa na pw sb nb pw2 i:Nat} {Q:Bool→SortSt→Prop} (S:SO lt N) (hc:wr prog w A s κ it lt N) (h:SAZ κ it N p st) (hpd:pendingOf st=(pre ++ (sa,na,pw) :: (sb,nb,pw2) :: post).toArray) (hi:i=pre.length) (e:sb=sa + na) (r1:RiseSZ lt p sa na) (r2:RiseSZ lt p sb nb) (n1:0 < na) (n2:0 < nb) (hN:sb + nb≤N)
  (q:∀ p' st',SAZ κ it N p' st'→pendingOf st'=(pre ++ (sa,na + nb,pw) :: post).toArray→(∀ k,k < N→k < sa∨sa + na + nb≤k→gt p' k=gt p k)→RiseSZ lt p' sa (na + nb)→Q true st') :
  wpS (model prog w) A E s (mergeAt' i) Q st:=by
 subst hi
 have sz:=h.pp.size
 refine wpS_bind (wpS_get ?_)
 have g1:(pendingOf st)[pre.length]?=some (sa,na,pw):=by rw [hpd];simp
 have g2:(pendingOf st)[pre.length + 1]?=some (sb,nb,pw2):=by rw [hpd];simp
 have pd':((pendingOf st).setIfInBounds pre.length (sa,na + nb,pw)).eraseIdxIfInBounds (pre.length + 1)=(pre ++ (sa,na + nb,pw) :: post).toArray:=by
  rw [hpd]
  apply Array.toList_inj.mp
  simp only [List.setIfInBounds_toArray,List.eraseIdxIfInBounds_toArray]
  rw [List.set_append_right _ _ (Nat.le_refl _),Nat.sub_self,List.set_cons_zero,List.eraseIdx_append_of_length_le (by lia),show pre.length + 1 - pre.length=1 by lia]
  rfl
 rw [g1,g2]
 dsimp only
 refine wpS_bind (Q0 ?_)
 rw [pd']
 have hA:arrOf st=imZ it p.toList:=by rw [h.a,Wv]
 have gb0:=h.pp.blt (k:=sb) (by lia)
 have inj:∀ {k l:Nat},k < N→l < N→k≠l→gt p k≠gt p l:=fun hk hl n z=>n (h.pp.inj hk hl z)
 have hA':(sortPriv% PySem.Builtin.SortState.a) st=imZ it p.toList:=hA
 rw [hA']
 refine wpS_bind (zX (yq (ko (k:=sb) (by lia))) ?_)
 show wpS (model prog w) A E s _ Q (SortSt.mk' (kindOf st) (imZ it p.toList) (pre ++ (sa,na + nb,pw) :: post).toArray (gallopOf st) (failedOf st))
 generalize est:SortSt.mk' (kindOf st) (imZ it p.toList) (pre ++ (sa,na + nb,pw) :: post).toArray (gallopOf st) (failedOf st)=st1
 have h1:SAZ κ it N p st1:=by rw [← est];exact ⟨h.k,h.f,(Wv p).symm,h.pp⟩
 have hp1:pendingOf st1=(pre ++ (sa,na + nb,pw) :: post).toArray:=by rw [← est]
 refine wpS_bind (xU S hc h1.k gb0 (fun x hx=>?_) (kU (by lia) r1) (by rw [Array.length_toList];lia) n1 fun k hk lo hi=>?_)
 ·obtain ⟨j,hj,rfl⟩:=xG (by lia) hx
  exact ⟨h.pp.blt (by lia),inj (by lia) (by lia) (by lia)⟩
 dsimp only
 -- the first part's ones ahead of all of the second part's
 have loA:∀ j,j < k→lt (gt p (sa + j)) (gt p sb)=true:=fun j hj=>lo _ (Kk (by lia) hj)
 have hiA:∀ j,k≤j→j < na→lt (gt p sb) (gt p (sa + j))=true:=fun j h1 h2=>by
  refine hi _ ?_
  refine List.mem_of_getElem? (i:=j - k) ?_
  rw [List.getElem?_drop,show k + (j - k)=j by lia,wU (by lia) h2]
 have below:∀ j l,j < k→l < nb→lt (gt p (sa + j)) (gt p (sb + l))=true:=fun j l hj hl=>by
  by_cases c:l=0
  ·rw [c];exact loA j hj
  ·have:=r2 0 l (by lia) hl
   exact S.trans _ (gt p sb) _ (h.pp.blt (by lia)) gb0 (h.pp.blt (by lia)) (loA j hj) this
 by_cases c1:(na - k == 0)=true
 ·rw [if_pos c1]
  have c1':na - k=0:=by simpa using c1
  refine wpS_pure (q p st1 h1 hp1 (fun _ _ _=>rfl) fun i j hij hj=>?_)
  by_cases d1:j < na
  ·exact r1 i j hij d1
  ·have ej:sa + j=sb + (j - na):=by lia
   by_cases d2:i < na
   ·rw [ej];exact below i (j - na) (by lia) (by lia)
   ·rw [ej,show sa + i=sb + (i - na) by lia]
    exact r2 _ _ (by lia) (by lia)
 ·rw [if_neg c1]
  have c1':na - k≠0:=by simpa using c1
  have el:sa + k + (na - k) - 1=sb - 1:=by lia
  rw [el]
  refine wpS_bind (zX (yq (ko (k:=sb - 1) (by lia))) ?_)
  refine wpS_bind (xU S hc h1.k (h.pp.blt (k:=sb - 1) (by lia)) (fun x hx=>?_) (kU (by lia) r2) (by rw [Array.length_toList];lia) (by lia) fun l hl lo2 hi2=>?_)
  ·obtain ⟨j,hj,rfl⟩:=xG (by lia) hx
   exact ⟨h.pp.blt (by lia),inj (by lia) (by lia) (by lia)⟩
  dsimp only
  have loB:∀ j,j < l→lt (gt p (sb + j)) (gt p (sb - 1))=true:=fun j hj=>lo2 _ (Kk (by lia) hj)
  have hiB:∀ j,l≤j→j < nb→lt (gt p (sb - 1)) (gt p (sb + j))=true:=fun j h1 h2=>by
   refine hi2 _ ?_
   refine List.mem_of_getElem? (i:=j - l) ?_
   rw [List.getElem?_drop,show l + (j - l)=j by lia,wU (by lia) h2]
  have above:∀ j i,l≤j→j < nb→i < na→lt (gt p (sa + i)) (gt p (sb + j))=true:=fun j i h1 h2 h3=>by
   by_cases c:i=na - 1
   ·rw [c,show sa + (na - 1)=sb - 1 by lia];exact hiB j h1 h2
   ·have:=r1 i (na - 1) (by lia) (by lia)
    rw [show sa + (na - 1)=sb - 1 by lia] at this
    exact S.trans _ (gt p (sb - 1)) _ (h.pp.blt (by lia)) (h.pp.blt (by lia)) (h.pp.blt (by lia)) this (hiB j h1 h2)
  by_cases c2:(l == 0)=true
  ·rw [if_pos c2]
   have c2':l=0:=by simpa using c2
   refine wpS_pure (q p st1 h1 hp1 (fun _ _ _=>rfl) fun i j hij hj=>?_)
   by_cases d1:j < na
   ·exact r1 i j hij d1
   ·have ej:sa + j=sb + (j - na):=by lia
    by_cases d2:i < na
    ·rw [ej];exact above (j - na) i (by lia) (by lia) d2
    ·rw [ej,show sa + i=sb + (i - na) by lia]
     exact r2 _ _ (by lia) (by lia)
  ·rw [if_neg c2]
   have c2':l≠0:=by simpa using c2
   rw [vT,vT,show sb - (sa + k)=na - k by lia,show sb + l - sb=l by lia]
   have rA:RiseSZ lt p (sa + k) (na - k):=r1.sub (by lia)
   have rB:RiseSZ lt p sb l:=fun i j hij hj=>r2 i j hij (by lia)
   have lA:=qZ (p:=p) (lo:=sa + k) (m:=na - k) (by lia)
   have lB:=qZ (p:=p) (lo:=sb) (m:=l) (by lia)
   have P:MPreZ lt N ((p.toList.drop (sa + k)).take (na - k)) ((p.toList.drop sb).take l):=by
    refine ⟨kU (by lia) rA,kU (by lia) rB,fun x hx=>?_,fun x hx=>?_,fun x hx y hy=>?_,by lia,by lia,fun y hy=>?_,fun x hx=>?_⟩
    ·obtain ⟨j,hj,rfl⟩:=xG (by lia) hx
     exact h.pp.blt (by lia)
    ·obtain ⟨j,hj,rfl⟩:=xG (by lia) hx
     exact h.pp.blt (by lia)
    ·obtain ⟨j,hj,rfl⟩:=xG (by lia) hx
     obtain ⟨j',hj',rfl⟩:=xG (by lia) hy
     exact inj (by lia) (by lia) (by lia)
    ·obtain ⟨j,hj,rfl⟩:=xG (by lia) hy
     have eb:((p.toList.drop sb).take l).getD 0 0=gt p sb:=by rw [List.getD_eq_getElem?_getD,wU (by lia) (by lia)];rfl
     rw [eb,show sa + k + j=sa + (k + j) by lia]
     exact hiA _ (by lia) (by lia)
    ·obtain ⟨j,hj,rfl⟩:=xG (by lia) hx
     have ea:((p.toList.drop (sa + k)).take (na - k)).getD (((p.toList.drop (sa + k)).take (na - k)).length - 1) 0=gt p (sb - 1):=by
      rw [lA,List.getD_eq_getElem?_getD,wU (by lia) (by lia),show sa + k + (na - k - 1)=sb - 1 by lia];rfl
     rw [ea]
     exact loB j hj
   have fin:∀ m st',Zs lt ((p.toList.drop (sa + k)).take (na - k)) ((p.toList.drop sb).take l) m→xM κ st1 st'→wpS (model prog w) A E s (do
     modify fun z=>setArr z ((imZ it m).toList.zipIdx.foldl (fun a x=>match x with | (p,j)=>a.setIfInBounds (sa + k + j) p) (arrOf z))
     let z ← get
     pure (failedOf z).isNone:SMZ Bool) Q st':=by
    intro m st' R T
    have lm:m.length=na - k + l:=by have:=R.pe.length_eq;rw [List.length_append,lA,lB] at this;exact this
    have ea:arrOf st'=imZ it p.toList:=by rw [T.a,h1.a,Wv]
    refine wpS_bind (wpS_modify (wpS_bind (wpS_get (wpS_pure ?_))))
    have ef:(imZ it m).toList.zipIdx.foldl (fun a x=>match x with | (p,j)=>a.setIfInBounds (sa + k + j) p) (arrOf st')=(wP p (sa + k) m).map it:=by
     rw [ea]
     have:=XW (sa + k) (imZ it m).toList (imZ it p.toList) 0 (by
      have e1:(imZ it m).toList.length=m.length:=by simp [imZ]
      have e2:(imZ it p.toList).size=p.size:=by simp [imZ]
      lia)
     rw [this]
     unfold wP
     simp [imZ,List.map_take,List.map_drop]
    show Q (failedOf (setArr st' ((imZ it m).toList.zipIdx.foldl (fun a x=>match x with | (p,j)=>a.setIfInBounds (sa + k + j) p) (arrOf st')))).isNone (setArr st' ((imZ it m).toList.zipIdx.foldl (fun a x=>match x with | (p,j)=>a.setIfInBounds (sa + k + j) p) (arrOf st')))
    rw [ef]
    have en:(failedOf (setArr st' ((wP p (sa + k) m).map it))).isNone=true:=by show (failedOf st').isNone=true;rw [T.f];rfl
    rw [en]
    have ab:(p.toList.drop (sa + k)).take (na - k) ++ (p.toList.drop sb).take l=(p.toList.drop (sa + k)).take m.length:=by
     rw [lm,List.take_add,List.drop_drop,show sa + k + (na - k)=sb by lia]
    have pp':PP N (wP p (sa + k) m):=K1 h.pp (by rw [← ab];exact R.pe)
    have gp:∀ j,j < N→gt (wP p (sa + k) m) j=if sa + k≤j∧j < sa + k + m.length then m.getD (j - (sa + k)) 0 else gt p j:=fun j hj=>za9 (by lia) (by lia)
    -- what lies in m
    have mm:∀ j,j < m.length→(∃ i,k≤i∧i < na∧m.getD j 0=gt p (sa + i))∨∃ i,i < l∧m.getD j 0=gt p (sb + i):=fun j hj=>by
     have gm:m[j]?=some (m.getD j 0):=by rw [List.getD_eq_getElem?_getD,List.getElem?_eq_getElem hj];rfl
     have:=R.pe.mem_iff.mp (List.mem_of_getElem? gm)
     rcases List.mem_append.mp this with z | z
     ·obtain ⟨i,hi,e⟩:=xG (by lia) z
      exact .inl ⟨k + i,by lia,by lia,by rw [e,show sa + k + i=sa + (k + i) by lia]⟩
     ·obtain ⟨i,hi,e⟩:=xG (by lia) z
      exact .inr ⟨i,hi,e⟩
    refine q _ _ ⟨T.k,T.f,rfl,pp'⟩ (by show pendingOf st'=_;rw [T.p,hp1]) (fun j hj hc=>?_) fun i j hij hj=>?_
    ·rw [gp j hj,if_neg (by lia)]
    ·rw [gp _ (by lia),gp _ (by lia)]
     by_cases i1:i < k
     ·rw [if_neg (by lia)]
      by_cases j1:j < k
      ·rw [if_neg (by lia)];exact r1 i j hij (by lia)
      ·by_cases j2:j < na + l
       ·rw [if_pos ⟨by lia,by lia⟩]
        rcases mm (sa + j - (sa + k)) (by lia) with ⟨u,u1,u2,eu⟩ | ⟨u,u1,eu⟩
        ·rw [eu];exact r1 i u (by lia) u2
        ·rw [eu];exact below i u i1 (by lia)
       ·rw [if_neg (by lia),show sa + j=sb + (j - na) by lia]
        exact below i _ i1 (by lia)
     ·by_cases i2:i < na + l
      ·rw [if_pos ⟨by lia,by lia⟩]
       by_cases j2:j < na + l
       ·rw [if_pos ⟨by lia,by lia⟩]
        have a1:sa + i - (sa + k) < m.length:=by lia
        have a2:sa + j - (sa + k) < m.length:=by lia
        rw [List.getD_eq_getElem?_getD,List.getD_eq_getElem?_getD,List.getElem?_eq_getElem a1,List.getElem?_eq_getElem a2]
        exact List.pairwise_iff_getElem.mp R.so _ _ a1 a2 (by lia)
       ·rw [if_neg (by lia),show sa + j=sb + (j - na) by lia]
        rcases mm (sa + i - (sa + k)) (by lia) with ⟨u,u1,u2,eu⟩ | ⟨u,u1,eu⟩
        ·rw [eu];exact above _ u (by lia) (by lia) u2
        ·rw [eu];exact r2 u _ (by lia) (by lia)
      ·rw [if_neg (by lia),if_neg (by lia),show sa + j=sb + (j - na) by lia,show sa + i=sb + (i - na) by lia]
       exact r2 _ _ (by lia) (by lia)
   have k1:xM κ st1 st1:=⟨h1.k,h1.f,rfl,rfl⟩
   by_cases c3:na - k≤l
   ·rw [if_pos c3]
    exact wpS_bind (Wt S hc k1 P fin)
   ·rw [if_neg c3]
    exact wpS_bind (Wu S hc k1 P fin)
end
end L2
namespace L2
open PySem PySem.W PyProof.Rows
abbrev RnZ:=Nat × Nat × Nat
def RunsZ (lt:Nat→Nat→Bool) (p:Array Nat):List RnZ→Nat→Nat→Prop
 | [],a,b=>a=b
 | x :: r,a,b=>x.1=a∧0 < x.2.1∧RiseSZ lt p a x.2.1∧RunsZ lt p r (a + x.2.1) b
section
variable {lt:Nat→Nat→Bool} {p p':Array Nat}
theorem RunsZ.app:∀ {L M:List RnZ} {a b:Nat},RunsZ lt p (L ++ M) a b↔∃ c,RunsZ lt p L a c∧RunsZ lt p M c b
 | [],M,a,b=>⟨fun h=>⟨a,rfl,h⟩,fun ⟨c,e,h⟩=>by cases e;exact h⟩
 | x :: L,M,a,b=>by
  constructor
  ·rintro ⟨h1,h2,h3,h4⟩
   obtain ⟨c,h5,h6⟩:=RunsZ.app.mp h4
   exact ⟨c,⟨h1,h2,h3,h5⟩,h6⟩
  ·rintro ⟨c,⟨h1,h2,h3,h5⟩,h6⟩
   exact ⟨h1,h2,h3,RunsZ.app.mpr ⟨c,h5,h6⟩⟩
theorem RunsZ.len:∀ {L:List RnZ} {a b:Nat},RunsZ lt p L a b→a + L.length≤b
 | [],a,b,h=>by have h:a=b:=h;simp;lia
 | x :: L,a,b,⟨h1,h2,h3,h4⟩=>by have:=RunsZ.len h4;simp;lia
theorem RunsZ.same:∀ {L:List RnZ} {a b:Nat},RunsZ lt p L a b→(∀ k,a≤k→k < b→gt p' k=gt p k)→RunsZ lt p' L a b
 | [],a,b,h,_=>h
 | x :: L,a,b,⟨h1,h2,h3,h4⟩,k=>by
  have:=RunsZ.len h4
  exact ⟨h1,h2,h3.same fun i hi=>k _ (by lia) (by lia),RunsZ.same h4 fun j h5 h6=>k j (by lia) h6⟩
theorem RunsZ.power {pw:Nat}:∀ {L:List RnZ} {a b:Nat} (k:Nat),RunsZ lt p L a b→RunsZ lt p (L.modify k fun x=>(x.1,x.2.1,pw)) a b
 | [],a,b,k,h=>by cases k <;> exact h
 | x :: L,a,b,0,⟨h1,h2,h3,h4⟩=>⟨h1,h2,h3,h4⟩
 | x :: L,a,b,k + 1,⟨h1,h2,h3,h4⟩=>⟨h1,h2,h3,RunsZ.power k h4⟩
end
section
variable {prog:Program} {w:World} {A:Around} {E:Value→Shared→Prop} {s:Shared} {κ:SortKind} {it:Nat→Keyed} {lt:Nat→Nat→Bool} {N:Nat}
structure SRZ (κ:SortKind) (it:Nat→Keyed) (lt:Nat→Nat→Bool) (N lo:Nat) (p:Array Nat) (L:List RnZ) (st:SortSt):Prop where
 h:SAZ κ it N p st
 d:pendingOf st=L.toArray
 r:RunsZ lt p L 0 lo
 l:lo≤N
theorem YG {st:SortSt} {p:Array Nat} {L:List RnZ} {lo i:Nat} {Q:Bool→SortSt→Prop} (S:SO lt N) (hc:wr prog w A s κ it lt N) (h:SRZ κ it lt N lo p L st) (hi:i + 2≤L.length)
  (q:∀ p' L' st',SRZ κ it lt N lo p' L' st'→L'.length + 1=L.length→(∀ k,lo≤k→k < N→gt p' k=gt p k)→Q true st'):wpS (model prog w) A E s (mergeAt' i) Q st:=by
 obtain ⟨x,hx⟩:∃ x,L[i]?=some x:=⟨_,List.getElem?_eq_getElem (by lia)⟩
 obtain ⟨y,hy⟩:∃ y,L[i + 1]?=some y:=⟨_,List.getElem?_eq_getElem (by lia)⟩
 have e:L=L.take i ++ x :: y :: L.drop (i + 2):=by
  obtain ⟨l1,rfl⟩:=List.getElem?_eq_some_iff.mp hx
  obtain ⟨l2,rfl⟩:=List.getElem?_eq_some_iff.mp hy
  rw [← List.drop_eq_getElem_cons l2,← List.drop_eq_getElem_cons l1,List.take_append_drop]
 have lp:(L.take i).length=i:=by rw [List.length_take];lia
 have r:=h.r
 have hd:=h.d
 rw [e] at r hd
 obtain ⟨c,r1,x1,x2,x3,y1,y2,y3,r2⟩:=RunsZ.app.mp r
 obtain ⟨sa,na,pw⟩:=x
 obtain ⟨sb,nb,pw2⟩:=y
 dsimp only at *
 subst x1
 subst y1
 have:=r2.len
 have hl:=h.l
 refine Ww S hc h.h hd lp.symm rfl x3 y3 x2 y2 (by lia) fun p' st' h' d' kp r'=>?_
 refine q p' (L.take i ++ (sa,na + nb,pw) :: L.drop (i + 2)) st' ⟨h',d',?_,hl⟩ ?_ fun k h1 h2=>kp k h2 (by lia)
 ·refine RunsZ.app.mpr ⟨sa,r1.same fun k h1 h2=>kp k (by lia) (by lia),rfl,by dsimp only;lia,r',?_⟩
  dsimp only
  rw [← Nat.add_assoc]
  exact r2.same fun k h1 h2=>kp k (by lia) (by lia)
 ·have e2:=congrArg List.length e
  simp only [List.length_append,List.length_cons] at e2 ⊢
  lia
def zcP (size pw:Nat):SMZ (Option Unit × Unit) :=
 forIn [:size] (none,()) fun _ _=>do
  let z ← get
  match (if (pendingOf z).size > 1 then (pendingOf z)[(pendingOf z).size - 2]? else none) with
  | some (_,_,older)=>if older≤pw then pure (.done (none,())) else do
    let ok ← mergeAt' ((pendingOf z).size - 2)
    if (!ok)=true then pure (.done (some (),())) else pure (.yield (none,()))
  | _=>pure (.done (none,()))
theorem Vs {st:SortSt} {p:Array Nat} {L:List RnZ} {size lo n pw:Nat} {Q:Option Unit × Unit→SortSt→Prop} (S:SO lt N) (hc:wr prog w A s κ it lt N) (h:SRZ κ it lt N lo p L st) (n2:lo + n≤N) (r:RiseSZ lt p lo n) (q:∀ p' L' st',SRZ κ it lt N lo p' L' st'→RiseSZ lt p' lo n→Q (none,()) st'):wpS (model prog w) A E s (zcP size pw) Q st:=by
 unfold zcP
 refine wpS_forRange (fun _ c st'=>∃ p' L',c=(none,())∧SRZ κ it lt N lo p' L' st'∧RiseSZ lt p' lo n) ?_ ?_ ⟨p,L,rfl,h,r⟩
 ·rintro x c st' _ hx ⟨p',L',rfl,h',r'⟩
  refine wpS_bind (wpS_get ?_)
  by_cases c1:(pendingOf st').size > 1
  ·rw [if_pos c1]
   rw [h'.d,List.size_toArray] at c1
   obtain ⟨⟨a1,a2,a3⟩,ha⟩:∃ y,(pendingOf st')[(pendingOf st').size - 2]?=some y:=⟨_,by rw [h'.d];exact Array.getElem?_eq_getElem (by simp;lia)⟩
   rw [ha]
   dsimp only
   by_cases c2:a3≤pw
   ·rw [if_pos c2]
    exact wpS_pure (q p' L' st' h' r')
   ·rw [if_neg c2]
    refine wpS_bind (YG S hc h' (by rw [h'.d,List.size_toArray];lia) fun p2 L2 st2 h2 _ kp=>?_)
    rw [if_neg (by decide)]
    exact wpS_pure ⟨p2,L2,rfl,h2,r'.same fun i hi=>kp _ (by lia) (by lia)⟩
  ·rw [if_neg c1]
   exact wpS_pure (q p' L' st' h' r')
 ·rintro c st' ⟨p',L',rfl,h',r'⟩
  exact q p' L' st' h' r'
theorem K2 {st:SortSt} {p:Array Nat} {Q:Unit→SortSt→Prop} (S:SO lt N) (hc:wr prog w A s κ it lt N) (h:SAZ κ it N p st) (hd:pendingOf st=#[]) (hN:1≤N) (q:∀ p' st',SAZ κ it N p' st'→YC lt p' N→Q () st'):wpS (model prog w) A E s sortRuns' Q st:=by
 have sz:=h.pp.size
 have size:(arrOf st).size=N:=by rw [h.a,Array.size_map,sz]
 refine wpS_bind (wpS_get ?_)
 have size':((sortPriv% PySem.Builtin.SortState.a) st).size=N:=size
 rw [size']
 refine wpS_bind (wpS_mono (wpS_forRange (fun x c st'=>∃ p L lo,c=(none,lo)∧SRZ κ it lt N lo p L st'∧x≤lo) (Q:=fun c st'=>∃ p L,c=(none,N)∧SRZ κ it lt N N p L st') ?step ?fin ⟨p,[],0,rfl,⟨h,hd,rfl,by lia⟩,Nat.le_refl _⟩) ?post)
 case fin =>
  rintro c st' ⟨p,L,lo,rfl,h,hx⟩
  have:=h.l
  obtain rfl:lo=N:=by lia
  exact ⟨p,L,rfl,h⟩
 case step =>
  rintro x c st' _ hx ⟨p,L,lo,rfl,h,hxl⟩
  dsimp only
  have hl:=h.l
  by_cases c1:lo ≥ N
  ·rw [if_pos c1]
   obtain rfl:lo=N:=by lia
   exact wpS_pure ⟨p,L,rfl,h⟩
  ·rw [if_neg c1]
   refine wpS_bind (Jv S hc h.h (by lia) (by lia) fun m p' m1 m2 h' kp r=>?_)
   dsimp only
   have R:SRZ κ it lt N lo p' L (setArr st' (p'.map it)):=⟨h',h.d,h.r.same fun k h1 h2=>kp k h2,hl⟩
   have fin:∀ {n:Nat} {p3:Array Nat} {L3:List RnZ} {st3:SortSt},0 < n→lo + n≤N→SRZ κ it lt N lo p3 L3 st3→RiseSZ lt p3 lo n→∃ p L lo',((none,lo + n):Option Unit × Nat)=(none,lo')∧SRZ κ it lt N lo' p L (setPending st3 ((pendingOf st3).push (lo,n,0)))∧x + 1≤lo':=fun {n p3 L3 st3} n1 n2 h3 r3=>by
    refine ⟨p3,L3 ++ [(lo,n,0)],lo + n,rfl,⟨⟨h3.h.k,h3.h.f,h3.h.a,h3.h.pp⟩,?_,RunsZ.app.mpr ⟨lo,h3.r,rfl,n1,r3,rfl⟩,n2⟩,by lia⟩
    show (pendingOf st3).push (lo,n,0)=_
    rw [h3.d];simp
   have hpw:∀ {pw:Nat} {p3:Array Nat} {L3:List RnZ} {st3:SortSt},SRZ κ it lt N lo p3 L3 st3→SRZ κ it lt N lo p3 (L3.modify (L3.length - 1) fun x=>(x.1,x.2.1,pw)) (setPending st3 ((pendingOf st3).modify ((pendingOf st3).size - 1) fun x=>(x.1,x.2.1,pw))):=fun {pw p3 L3 st3} h3=>by
    refine ⟨⟨h3.h.k,h3.h.f,h3.h.a,h3.h.pp⟩,?_,RunsZ.power _ h3.r,h3.l⟩
    have pe:∀ x,pendingOf (setPending st3 x)=x:=fun _=>rfl
    rw [pe,h3.d]
    simp
   generalize hmr:(sortPriv% PySem.Builtin.minRun) N N 0=mr
   by_cases c2:m < mr
   ·rw [if_pos c2]
    refine wpS_bind (wpS_lift (wpAny_rule ⟨rfl,?_⟩))
    refine wpS_bind (QZ S hc h' m1 (by lia) (by lia) r fun p2 h2 kp2 r2=>?_)
    rw [if_neg (by decide)]
    have R2:SRZ κ it lt N lo p2 L (setArr (setArr st' (p'.map it)) (p2.map it)):=⟨h2,h.d,R.r.same fun k h1 h2=>kp2 k h2,hl⟩
    refine wpS_bind (wpS_get ?_)
    generalize ebk:((sortPriv% PySem.Builtin.SortState.pending) (setArr (setArr st' (p'.map it)) (p2.map it))).back?=bk
    cases bk with
    | none =>
     refine wpS_bind (wpS_modify (wpS_pure ?_))
     exact fin (by lia) (by lia) R2 r2
    | some y =>
     obtain ⟨s1,u1,u⟩:=y
     refine wpS_bind (Vs S hc R2 (by lia) r2 fun p3 L3 st3 h3 r3=>?_)
     refine wpS_bind (wpS_modify (wpS_bind (wpS_modify (wpS_pure ?_))))
     exact fin (by lia) (by lia) (hpw h3) r3
   ·rw [if_neg c2]
    refine wpS_bind (wpS_get ?_)
    generalize ebk:((sortPriv% PySem.Builtin.SortState.pending) (setArr st' (p'.map it))).back?=bk
    cases bk with
    | none =>
     refine wpS_bind (wpS_modify (wpS_pure ?_))
     exact fin (by lia) (by lia) R r
    | some y =>
     obtain ⟨s1,u1,u⟩:=y
     refine wpS_bind (Vs S hc R (by lia) r fun p3 L3 st3 h3 r3=>?_)
     refine wpS_bind (wpS_modify (wpS_bind (wpS_modify (wpS_pure ?_))))
     exact fin (by lia) (by lia) (hpw h3) r3
 case post =>
  rintro c st' ⟨p,L,rfl,h⟩
  dsimp only
  refine wpS_bind (wpS_mono (wpS_forRange (fun x c st'=>∃ p L,c=(none,())∧SRZ κ it lt N N p L st'∧L.length + x≤N + 1) (Q:=fun c st'=>∃ p L,c=(none,())∧SRZ κ it lt N N p L st'∧L.length≤1) ?step2 ?fin2 ⟨p,L,rfl,h,by have:=h.r.len;lia⟩) ?post2)
  case fin2 =>
   rintro c st' ⟨p,L,rfl,h,hl⟩
   exact ⟨p,L,rfl,h,by lia⟩
  case step2 =>
   rintro x c st' _ hx ⟨p,L,rfl,h,hl⟩
   refine wpS_bind (wpS_get ?_)
   have ps:(pendingOf st').size=L.length:=by rw [h.d,List.size_toArray]
   have ps':((sortPriv% PySem.Builtin.SortState.pending) st').size=L.length:=ps
   rw [ps']
   by_cases c1:L.length≤1
   ·rw [if_pos c1]
    exact wpS_pure ⟨p,L,rfl,h,c1⟩
   ·rw [if_neg c1]
    refine wpS_bind (YG S hc h ?_ fun p2 L2 st2 h2 l2 _=>?_)
    ·have hh:∀ b:Bool,(if b=true then L.length - 2 - 1 else L.length - 2) + 2≤L.length:=fun b=>by cases b <;> simp <;> lia
     exact hh _
    ·rw [if_neg (by decide)]
     exact wpS_pure ⟨p2,L2,rfl,h2,by lia⟩
  case post2 =>
   rintro c st' ⟨p,L,rfl,h,hl⟩
   refine wpS_pure (q p st' h.h ?_)
   have r:=h.r
   match L,r,hl with
   | [],r,_=>exact absurd (show (0:Nat)=N from r) (by lia)
   | [x],⟨x1,x2,x3,x4⟩,_ =>
    have x4:0 + x.2.1=N:=x4
    intro i j hij hj
    have:=x3 i j hij (by lia)
    rwa [Nat.zero_add,Nat.zero_add] at this
end
end L2
namespace L2
open PySem PySem.W PyProof.Rows
def Kp (a:Addr) (h h':Heap):Prop:=∀ b o,b≠a→h.get? b=some o→h'.get? b=some o
def wV (vs:List Value) (p:Array Nat):List Value:=p.toList.map fun i=>vs.getD i Value.none
theorem Vt (vs:List Value):wV vs (List.toArray (List.range vs.length))=vs:=by
 unfold wV
 apply List.ext_getElem?
 intro i
 simp only [List.getElem?_map]
 by_cases h:i < vs.length
 ·rw [List.getElem?_eq_getElem (l:=vs) h]
  simp [List.getElem?_range h,h]
 ·rw [List.getElem?_eq_none (by lia:vs.length≤i)]
  simp
  lia
section
variable {P:Program} {w:World} {A:Around} {E:Value→Shared→Prop} {s:Shared}
theorem zba {vs:List Value} {κ:SortKind} {lt:Nat→Nat→Bool} {Q:SortSt→Shared→Prop} (h1:1≤vs.length) (S:SO lt vs.length) (hc:∀ i j C,i < vs.length→j < vs.length→i≠j→C (lt i j) s→kas_ask P w A κ vs i j C s)
  (q:∀ p st,arrOf st=p.map (kas_item (vs.toArray.zip vs.toArray))→failedOf st=none→PP vs.length p→YC lt p vs.length→Q st s):wpAny (model P w) A ((sortRuns').run (SortSt.mk' κ (vs.toArray.zip vs.toArray) #[] 7 none)) (fun r s'=>Q r.2 s') E s:=by
 have e:=kas_range (vs.toArray.zip vs.toArray)
 rw [show (vs.toArray.zip vs.toArray).size=vs.length by simp] at e
 have hA:SAZ κ (kas_item (vs.toArray.zip vs.toArray)) vs.length (List.toArray (List.range vs.length)) (SortSt.mk' κ (vs.toArray.zip vs.toArray) #[] 7 none):=⟨rfl,rfl,e.symm,Array.Perm.refl _⟩
 have C:wr P w A s κ (kas_item (vs.toArray.zip vs.toArray)) lt vs.length:=fun i j C hi hj hij h=>by
  have:=hc i j C hi hj hij h
  rw [kat_ask_eq (vs:=vs) rfl] at this
  exact this
 exact wpAny_mono (K2 (E:=E) S C hA rfl h1 (Q:=fun _ st=>Q st s) fun p st h r=>q p st h.a h.f h.pp r) (fun r s' h=>by obtain ⟨rfl,h⟩:=h;exact h) fun _ _ e=>e
end
section
variable {P:Program} {w:World} {A:Around} {E:Value→Shared→Prop} {s:Shared}
theorem YH {a:Addr} {vs:List Value} {n:Nat} {κ:SortKind} {lt:Nat→Nat→Bool} {R:PySem.Fin→Shared→Prop} (ho:s.heap.get? a=some (seqObj "list" vs.toArray n)) (h64:vs.length < 1000)
  (hk:2≤vs.length→∀ (h:Heap) (Q:SortKind→Shared→Prop),Kp a s.heap h→Q κ { s with heap:=h }→wpAny (model P w) A (keyKind' vs.toArray) Q (fun _ _=>False) { s with heap:=h })
  (hc:∀ (h:Heap) i j C,Kp a s.heap h→i < vs.length→j < vs.length→i≠j→C (lt i j) { s with heap:=h }→kas_ask P w A κ vs i j C { s with heap:=h }) (S:SO lt vs.length)
  (fin:∀ h p c,Kp a s.heap h→h.get? a=some (seqObj "list" (wV vs p).toArray c)→PP vs.length p→YC lt p vs.length→R (.done (.ret .none)) { s with heap:=h }) :
  wpAny (model P w) A (Builtin.«list.sort» ⟨[.ref a],[]⟩) R E s:=by
 have ha:a < s.heap.objs.size:=Heap.lt_size ho
 obtain ⟨e1,o1⟩:∃ e1,(s.heap.update a (Obj.mapSeq fun _=>(#[]:Array Value))).get? a=some (seqObj "list" #[] e1):=⟨_,get?_update_seq ho fun _=>#[]⟩
 have k1:Kp a s.heap (((s.heap.update a (Obj.mapSeq fun _=>(#[]:Array Value))).push (seqObj "tuple" vs.toArray 0)).push (seqObj "list" #[] 0)):=fun b o hb e =>
  Heap.get?_push_of_some _ (Heap.get?_push_of_some _ ((Heap.get?_update_other _ _ (Ne.symm hb)).trans e))
 have o3:(((s.heap.update a (Obj.mapSeq fun _=>(#[]:Array Value))).push (seqObj "tuple" vs.toArray 0)).push (seqObj "list" #[] 0)).get? a=some (seqObj "list" #[] e1):=Heap.get?_push_of_some _ (Heap.get?_push_of_some _ o1)
 have last:∀ out:List Value,out.length=vs.length→∃ c,((((s.heap.update a (Obj.mapSeq fun _=>(#[]:Array Value))).push (seqObj "tuple" vs.toArray 0)).push (seqObj "list" #[] 0)).update a (Obj.mapSeq fun _=>out.toArray)).get? a=some (seqObj "list" out.toArray c):=fun out _=>⟨_,get?_update_seq o3 fun _=>out.toArray⟩
 have keep2:∀ out:List Value,Kp a s.heap ((((s.heap.update a (Obj.mapSeq fun _=>(#[]:Array Value))).push (seqObj "tuple" vs.toArray 0)).push (seqObj "list" #[] 0)).update a (Obj.mapSeq fun _=>out.toArray)):=fun out b o hb e =>
  (Heap.get?_update_other _ _ (Ne.symm hb)).trans (k1 b o hb e)
 rw [list_sort_plain];refine wpAny_bind (listItems_at ho rfl ?_)
 refine wpAny_bind (listUpdate_at ho rfl ?_ (by rw [List.size_toArray,sizeLine_eq];lia) (Nat.zero_le _));refine wpAny_bind (seqEpoch_at o1 rfl ?_)
 refine wpAny_bind (wpAny_newTuple ?_ (by show vs.length≤_;rw [sizeLine_eq];lia));refine wpAny_bind (wpAny_newList ?_ (Nat.zero_le _));refine wpAny_holding ?_
 show wpAny (model P w) A _ R E { s with heap:=((s.heap.update a (Obj.mapSeq fun _=>(#[]:Array Value))).push (seqObj "tuple" vs.toArray 0)).push (seqObj "list" #[] 0) }
 generalize hH:((s.heap.update a (Obj.mapSeq fun _=>(#[]:Array Value))).push (seqObj "tuple" vs.toArray 0)).push (seqObj "list" #[] 0)=g at *
 dsimp only
 have up:∀ out:List Value,out.length=vs.length→∀ p,out=wV vs p→PP vs.length p→YC lt p vs.length→R (.done (.ret .none)) { s with heap:=g.update a (Obj.mapSeq fun _=>out.toArray) }:=fun out hl p e hp hr=>by
  obtain ⟨c,hcc⟩:=last out hl
  refine fin _ p c (keep2 out) ?_ hp hr
  rw [← e];exact hcc
 by_cases h2:vs.toArray.size < 2
 ·have hl2:vs.length < 2:=by simpa using h2
  rw [if_pos h2,if_pos h2];refine wpAny_bind (wpAny_pure ?_);rw [StateT.run_pure];refine wpAny_bind (wpAny_pure ?_)
  dsimp only
  have ez:((vs.toArray.zip vs.toArray).map (·.2))=vs.toArray:=by
   apply Array.toList_inj.mp
   rw [Array.toList_map,Array.toList_zip]
   simp [List.map_snd_zip]
  refine wpAny_bind (seqEpoch_at o3 rfl ?_)
  rw [show (arrOf (SortSt.mk' general' (vs.toArray.zip vs.toArray) #[] 7 none))=vs.toArray.zip vs.toArray from rfl,ez]
  refine wpAny_bind (listUpdate_at o3 rfl ?_ (Nat.zero_le _) (by rw [List.size_toArray,sizeLine_eq];lia))
  simp only [bne_self_eq_false,Bool.false_eq_true,if_false]
  exact wpAny_pure (up vs rfl _ (Vt vs).symm (Array.Perm.refl _) fun i j hij hj=>by lia)
 ·have hl2:2≤vs.length:=by simpa using h2
  rw [if_neg h2,if_neg h2];refine wpAny_bind (wpAny_mono (hk hl2 g (fun κ' s'=>κ'=κ∧s'={ s with heap:=g }) k1 ⟨rfl,rfl⟩) (fun κ' s' hs=>?_) fun _ _ x=>x.elim)
  obtain ⟨rfl,rfl⟩:=hs
  refine wpAny_bind (wpAny_mono (zba (s:={ s with heap:=g }) (vs:=vs) (κ:=κ') (lt:=lt) (Q:=fun st s'=>∃ p:Array Nat,arrOf st=p.map (kas_item (vs.toArray.zip vs.toArray))∧failedOf st=none∧s'={ s with heap:=g }∧PP vs.length p∧YC lt p vs.length) (by lia) S (fun i j C hi hj hij hC=>hc g i j C k1 hi hj hij hC) fun p st a2 a3 a4 a5=>⟨p,a2,a3,rfl,a4,a5⟩) ?_ fun _ _ e=>e)
  rintro ⟨⟨⟩,st⟩ s' ⟨p,har,hf,rfl,hp,hr⟩
  dsimp only
  have out:=kat_snds (ks:=vs) rfl har
  have ol:(wV vs p).length=vs.length:=by unfold wV;rw [List.length_map,Array.length_toList,hp.size]
  rw [out];refine wpAny_bind (seqEpoch_at o3 rfl ?_)
  refine wpAny_bind (listUpdate_at o3 rfl ?_ (Nat.zero_le _) (by show (List.toArray (wV vs p)).size≤_;rw [List.size_toArray,ol,sizeLine_eq];lia));rw [hf]
  simp only [bne_self_eq_false,Bool.false_eq_true,if_false]
  exact wpAny_pure (up (wV vs p) ol p rfl hp hr)
theorem ZF {l:Addr} {vs:List Value} {κ:SortKind} {lt:Nat→Nat→Bool} {Q:Value→Shared→Prop} (h64:vs.length < 1000) (S:SO lt vs.length)
  (coll:∀ R:List Value→Shared→Prop,(∀ (h:Heap) (tk:Nat),(∀ b o,s.heap.get? b=some o→h.get? b=some o)→R vs { s with heap:=h,toks:=tk })→wpAny (model P w) A.in1 (collect (.ref l)) R E s)
  (hk:2≤vs.length→∀ (h:Heap) (tk:Nat) (Q:SortKind→Shared→Prop),(∀ b o,s.heap.get? b=some o→h.get? b=some o)→Q κ { s with heap:=h,toks:=tk }→wpAny (model P w) A.in1.in1 (keyKind' vs.toArray) Q (fun _ _=>False) { s with heap:=h,toks:=tk })
  (hc:∀ (h:Heap) (tk:Nat) i j C,(∀ b o,s.heap.get? b=some o→h.get? b=some o)→i < vs.length→j < vs.length→i≠j→C (lt i j) { s with heap:=h,toks:=tk }→kas_ask P w A.in1.in1 κ vs i j C { s with heap:=h,toks:=tk })
  (fin:∀ (h:Heap) (tk:Nat) (h':Heap) (p:Array Nat) (c:Nat),(∀ b o,s.heap.get? b=some o→h.get? b=some o)→(∀ b o,h.get? b=some o→h'.get? b=some o)→h'.get? h.objs.size=some (seqObj "list" (wV vs p).toArray c)→PP vs.length p→YC lt p vs.length→Q (.ref h.objs.size) { s with heap:=h',toks:=tk }) :
  wpAny (model P w) A (call (.builtin "sorted") [.ref l]) Q E s:=by
 refine Calls.call_function_entry kind_sorted plain_sorted entry_sorted (args_sorted1 _) ?_;unfold Builtin.«sorted»
 refine wpAny_bind (m:=checkCount "sorted" 1 1 _) (wpAny_pure ?_);refine wpAny_bind (coll _ fun h tk hk1=>?_)
 refine wpAny_bind (wpAny_newList ?_ (by rw [sizeLine_eq];lia))
 have hoL:(h.push (seqObj "list" vs.toArray 0)).get? h.objs.size=some (seqObj "list" vs.toArray 0):=Heap.get?_push_size _ rfl
 have kept:∀ h',Kp h.objs.size (h.push (seqObj "list" vs.toArray 0)) h'→∀ b o,h.get? b=some o→h'.get? b=some o:=fun h' k b o e=>k b o (Nat.ne_of_lt (Heap.lt_size e)) (Heap.get?_push_of_some _ e)
 refine wpAny_bind (wpAny_holding (wpAny_call_entry slot_list_sort ⟨_,hoL,rfl⟩ entry_list_sort (YH (s:={ s with heap:=h.push (seqObj "list" vs.toArray 0),toks:=tk }) hoL h64 (κ:=κ) (lt:=lt) (fun h2 h' Q' k q=>?_) (fun h' i j C k hi hj hij q=>?_) S fun h' p c k ho hp hr=>?_) (args_list_sort _)))
 ·exact hk h2 h' tk Q' (fun b o e=>kept h' k b o (hk1 b o e)) q
 ·exact hc h' tk i j C (fun b o e=>kept h' k b o (hk1 b o e)) hi hj hij q
 ·exact ⟨_,rfl,wpAny_pure ⟨_,rfl,fin h tk h' p c hk1 (kept h' k) ho hp hr⟩⟩
end
end L2
namespace L2
open PySem PySem.W PyProof.Rows
def z5 (a b:Str × Int):Bool:=if a.1=b.1 then decide (a.2 < b.2) else decide (a.1.cps.toList < b.1.cps.toList)
def PlAt (h:Heap) (v:Value) (q:Str × Int):Prop:=∃ a o t u n,v=.ref a∧h.get? a=some o∧o.cls=.type "tuple"∧o.data=.seq #[.str q.1 t,.int q.2 u] n
section
variable {P:Program} {w:World} {A:Around} {E:Value→Shared→Prop} {s:Shared}
theorem zbb {a c:Str} {t u:Tok} {Q:Bool→Shared→Prop} (h:Q (decide (a.cps.toList < c.cps.toList)) s):wpAny (model P w) A (oneLt' true (.str a t) (.str c u)) Q E s:=by
 rw [← keyLt'_oneType]
 exact kas_lt_str h
theorem zbc {a c:Int} {t u:Tok} {Q:Bool→Shared→Prop} (h:Q (decide (a < c)) s):wpAny (model P w) A (oneLt' false (.int a t) (.int c u)) Q E s :=
 kat_one _ _ (PyProof.Rows.lt_int (show W.BoolBack Q (.bool (decide (a < c))) s from h))
theorem K3 {x y:Value} {a b:Str × Int} {Q:Bool→Shared→Prop} (hx:PlAt s.heap x a) (hy:PlAt s.heap y b) (h:Q (z5 a b) s) (hn:a≠b):wpAny (model P w) A (keyLt' (tuples' true) x y) Q E s:=by
 obtain ⟨p,o,t,u,n,rfl,ho,hc,hd⟩:=hx
 obtain ⟨p2,o2,t2,u2,n2,rfl,ho2,hc2,hd2⟩:=hy
 refine kat_lt ho hd ho2 hd2 (kat_cons (wpAny_eqBool_str (kat_go (fun e=>kat_yes (kat_cons (wpAny_eqBool_int (kat_go (fun e2=>?_) fun e2=>kat_no ?_)))) fun e=>kat_no ?_)))
 ·exact absurd (Prod.ext (of_decide_eq_true e) (by simpa using e2)) hn
 ·have e:=of_decide_eq_true e
  unfold z5 at h
  rw [if_pos e] at h
  exact zbc h
 ·have e:=of_decide_eq_false e
  unfold z5 at h
  rw [if_neg e] at h
  exact zbb h
theorem Jw {vs:List Value} {qs:List (Str × Int)} {Q:SortKind→Shared→Prop} (hl:vs.length=qs.length) (hv:∀ (i:Nat) (v:Value) (q:Str × Int),vs[i]?=some v→qs[i]?=some q→PlAt s.heap v q) (h2:0 < vs.length) (h:Q (tuples' true) s) :
  wpAny (model P w) A (keyKind' vs.toArray) Q E s:=by
 have T:∀ (vs:List Value) (qs:List (Str × Int)),vs.length=qs.length→(∀ (i:Nat) (v:Value) (q:Str × Int),vs[i]?=some v→qs[i]?=some q→PlAt s.heap v q)→∃ fs,KatTups s.heap vs fs∧fs.length=vs.length∧∀ v∈fs,∃ x t,v=Value.str x t:=by
  intro vs
  induction vs with
  | nil=>exact fun qs _ _=>⟨[],trivial,rfl,fun _ z=>nomatch z⟩
  | cons v r ih =>
   intro qs hl hv
   match qs,hl with
   | q :: qr,hl =>
    obtain ⟨fs,k,kl,kf⟩:=ih qr (by simpa using hl) fun i v' q' e1 e2=>hv (i + 1) v' q' (by simpa using e1) (by simpa using e2)
    obtain ⟨a,o,t,u,n,rfl,ho,hc,hd⟩:=hv 0 v q rfl rfl
    refine ⟨.str q.1 t :: fs,KatTups.cons ho hc hd rfl k,by simp [kl],fun z hz=>?_⟩
    rcases List.mem_cons.mp hz with rfl | hz
    ·exact ⟨_,_,rfl⟩
    ·exact kf z hz
 obtain ⟨fs,k,kl,kf⟩:=T vs qs hl hv
 refine kat_kind (T:=.type "str") k (by lia) (fun v hv=>?_) (by decide) h
 obtain ⟨x,t,rfl⟩:=kf v hv
 exact Looks.of_pure rfl
end
theorem Vu {x y:Str} (h:x.cps.toList=y.cps.toList):x=y:=by
 obtain ⟨a⟩:=x
 obtain ⟨b⟩:=y
 have:a=b:=Array.toList_inj.mp h
 rw [this]
theorem qx {qs:List (Str × Int)} (hn:qs.Nodup):SO (fun i j=>z5 (qs.getD i ("",0)) (qs.getD j ("",0))) qs.length where
 irr:=fun i _=>by
  unfold z5
  rw [if_pos rfl]
  exact decide_eq_false (by lia)
 trans:=fun i j k _ _ _ h1 h2=>by
  generalize qs.getD i ("",0)=a at *
  generalize qs.getD j ("",0)=b at *
  generalize qs.getD k ("",0)=c at *
  unfold z5 at *
  by_cases e1:a.1=b.1
  ·rw [if_pos e1] at h1
   by_cases e2:b.1=c.1
   ·rw [if_pos e2] at h2
    rw [if_pos (e1.trans e2)]
    have h1:=of_decide_eq_true h1
    have h2:=of_decide_eq_true h2
    exact decide_eq_true (by lia)
   ·rw [if_neg e2] at h2
    rw [if_neg (by rw [e1];exact e2),e1]
    exact h2
  ·rw [if_neg e1] at h1
   have h1:=of_decide_eq_true h1
   by_cases e2:b.1=c.1
   ·rw [if_neg (by rw [← e2];exact e1),← e2]
    exact decide_eq_true h1
   ·rw [if_neg e2] at h2
    have h2:=of_decide_eq_true h2
    have h3:=List.lt_trans h1 h2
    rw [if_neg (fun z=>by rw [z] at h3;exact List.lt_irrefl _ h3)]
    exact decide_eq_true h3
 tot:=fun i j hi hj hij h=>by
  have ne:qs.getD i ("",0)≠qs.getD j ("",0):=fun z=>hij (by
   rw [List.getD_eq_getElem?_getD,List.getD_eq_getElem?_getD,List.getElem?_eq_getElem hi,List.getElem?_eq_getElem hj] at z
   exact (List.getElem_inj hn).mp z)
  generalize qs.getD i ("",0)=a at *
  generalize qs.getD j ("",0)=b at *
  unfold z5 at *
  by_cases e:a.1=b.1
  ·rw [if_pos e] at h
   rw [if_pos e.symm]
   have h:=of_decide_eq_false h
   have:a.2≠b.2:=fun z=>ne (Prod.ext e z)
   exact decide_eq_true (by lia)
  ·rw [if_neg e] at h
   rw [if_neg (fun z=>e z.symm)]
   have h:=of_decide_eq_false h
   refine decide_eq_true ?_
   rcases List.le_iff_lt_or_eq.mp (List.not_lt.mp h) with z | z
   ·exact z
   ·exact absurd (Vu z.symm) e
end L2
namespace L2
open PySem
def RawD (h:Heap) (d:Addr) (es:Array DictEntry) (ep:Nat):Prop:=∃ o,h.get? d=some o∧o.ExactDict∧o.data=.dict es ep
section
variable {P:Program} {w:World} {A:Around} {E:Value→Shared→Prop} {s:Shared}
theorem RawD.type {d:Addr} {es:Array DictEntry} {ep:Nat} (x:RawD s.heap d es ep):s.TypeIs (.ref d) "dict":=let ⟨o,ho,hc,_⟩:=x;⟨o,ho,hc.1⟩
theorem RawD.at {h h':Heap} {d:Addr} {es:Array DictEntry} {ep:Nat} (x:RawD h d es ep) (e:∀ o,h.get? d=some o→h'.get? d=some o):RawD h' d es ep:=let ⟨o,ho,r⟩:=x;⟨o,e _ ho,r⟩
theorem Q1 {d:Addr} {es:Array DictEntry} {ep:Nat} {Q:Value→Shared→Prop} (lo:(d == sysModules)=false) (hm:RawD s.heap d es ep)
  (q:Q (.ref s.heap.objs.size) { s with heap:=s.heap.push { cls:=.type "dict_keyiterator",data:=.fields #[.ref d,.int 0 0,.int es.size 0,.int ep 0] } }):wpAny (model P w) A (pyIter (.ref d)) Q E s:=by
 have T:=hm.type
 obtain ⟨o,ho,hc,hd⟩:=id hm
 refine wpAny_pyIter_slot T F.slot_dict_iter (wpAny_call_entry F.slot_dict_iter T F.entry_dict_iter ?_ (F.args_dict_iter_1 _));unfold Builtin.«dict.__iter__»
 refine wpAny_bind ?_;unfold Builtin.Dict.dictSlotNone;refine wpAny_bind (wpAny_notOrdered_dict T ?_)
 show wpAny _ _ (pure (Value.ref d)) _ _ s;refine wpAny_pure ?_
 show wpAny _ _ (Builtin.Dict.showsAll d >>= _) _ _ s;unfold Builtin.Dict.showsAll
 rw [if_neg (by rw [lo];exact Bool.false_ne_true)];refine wpAny_bind (wpAny_pure ?_)
 refine wpAny_bind (wpAny_dictEntries ho hd ?_);refine wpAny_bind (wpAny_dictEpoch ho hd ?_)
 refine wpAny_bind (wpAny_newObj_type (wpAny_pure ⟨_,rfl,"dict_keyiterator",_,⟨_,Heap.get?_push_size _ rfl,rfl⟩,F.slot_dict_keyiterator_next.lookup,?_⟩));simpa [rawInt] using q
theorem Q2 {it d:Addr} {i ep:Nat} {es:Array DictEntry} {e:DictEntry} {Q:Option Value→Shared→Prop} (hit:s.heap.IsKeyIter it d i es.size ep) (hm:RawD s.heap d es ep) (hx:es[i]?=some e)
  (q:∀ h,h.IsKeyIter it d (i + 1) es.size ep→Heap.SameBut it s.heap h→Q (some e.key) { s with heap:=h }):wpAny (model P w) A (pyNext (.ref it)) Q E s:=by
 obtain ⟨o,ho,hc,hd⟩:=id hit
 obtain ⟨od,hod,hcd,hdd⟩:=id hm
 have lt:i < es.size:=by
  rcases Nat.lt_or_ge i es.size with h | h
  ·exact h
  ·rw [Array.getElem?_eq_none h] at hx;cases hx
 unfold pyNext
 refine wpAny_bind (wpAny_attempt (wpAny_callSpecial?_slot (name:=Str.ofString "__next__") hit.typeIs F.slot_dict_keyiterator_next (wpAny_call_entry F.slot_dict_keyiterator_next hit.typeIs F.entry_dict_keyiterator_next ?_ (F.args_dict_keyiterator_next_1 _))))
 refine wpAny_bind (wpAny_pure ?_);refine wpAny_bind ?_;refine wpAny_bind ?_
 first | (refine wpAny_bind (wpAny_typeNameOfWhole_keyiter hit.typeIs (wpAny_pure ?_))) | (refine wpAny_bind (wpAny_typeNameOf_keyiter hit.typeIs (wpAny_pure ?_)))
 refine wpAny_bind (wpAny_fieldsOf ho hd ?_);have own:Builtin.Dict_items.ownsTuple "dict_keyiterator"=false:=by decide
 simp only [own,Bool.false_eq_true,if_false];show wpAny _ _ (if (Value.ref d == Value.none)=true then _ else _) _ _ s
 rw [if_neg (show ¬ ((Value.ref d == Value.none)=true) from Bool.false_ne_true)];refine wpAny_bind (wpAny_pure ?_);refine wpAny_bind (wpAny_dictEntries hod hdd ?_)
 rw [if_neg (by simp)];refine wpAny_bind (wpAny_pure ?_);refine wpAny_bind (wpAny_dictEpoch hod hdd ?_);rw [if_neg (by simp)];refine wpAny_pure ?_
 simp only [show ¬ ((i:Int) < 0) from by lia,if_false,Int.toNat_natCast,hx]
 refine wpAny_bind ?_
 first | (refine wpAny_bind (wpAny_typeNameOfWhole_keyiter hit.typeIs (wpAny_pure ?_))) | (refine wpAny_bind (wpAny_typeNameOf_keyiter hit.typeIs (wpAny_pure ?_)))
 refine wpAny_bind (wpAny_isOneOf_keyiter hit.typeIs ?_);show wpAny _ _ (setField (.ref it) 1 (rawInt ((i:Int) + 1)) >>= _) _ _ s
 refine wpAny_bind (wpAny_setField ho hd (by simp) ?_)
 have next:(s.heap.update it (Obj.mapFields (·.setIfInBounds 1 (rawInt ((i:Int) + 1))))).IsKeyIter it d (i + 1) es.size ep:=by
  refine ⟨_,Heap.get?_update_self _ ho (Obj.isFreed_of_fields (Obj.data_mapFields hd _)),(Obj.cls_mapFields ..).trans hc,?_⟩;rw [Obj.data_mapFields hd];simp [rawInt]
 refine wpAny_bind (wpAny_holding ?_)
 refine wpAny_bind (wpAny_isOneOf_keyiter (s:={ s with heap:=s.heap.update it (Obj.mapFields (·.setIfInBounds 1 (rawInt ((i:Int) + 1)))) }) next.typeIs ?_);show wpAny _ _ (pure e.key) _ _ _
 exact wpAny_pure (wpAny_pure ⟨_,rfl,wpAny_pure (q _ next (Heap.SameBut.update ..))⟩)
theorem zbd {it d:Addr} {i ep:Nat} {es:Array DictEntry} {Q:Option Value→Shared→Prop} (hh:A.handled=none) (hit:s.heap.IsKeyIter it d i es.size ep) (hm:RawD s.heap d es ep) (hx:es.size≤i)
  (q:∀ h,Heap.ExtBut it s.heap h→Q none { s with heap:=h }):wpAny (model P w) A (pyNext (.ref it)) Q E s:=by
 obtain ⟨o,ho,hc,hd⟩:=id hit
 obtain ⟨od,hod,hcd,hdd⟩:=id hm
 unfold pyNext
 refine wpAny_bind (wpAny_attempt (wpAny_callSpecial?_slot (name:=Str.ofString "__next__") hit.typeIs F.slot_dict_keyiterator_next (wpAny_call_entry F.slot_dict_keyiterator_next hit.typeIs F.entry_dict_keyiterator_next ?_ (F.args_dict_keyiterator_next_1 _))))
 refine wpAny_bind (wpAny_pure ?_);refine wpAny_bind ?_;refine wpAny_bind ?_
 first | (refine wpAny_bind (wpAny_typeNameOfWhole_keyiter hit.typeIs (wpAny_pure ?_))) | (refine wpAny_bind (wpAny_typeNameOf_keyiter hit.typeIs (wpAny_pure ?_)))
 refine wpAny_bind (wpAny_fieldsOf ho hd ?_);have own:Builtin.Dict_items.ownsTuple "dict_keyiterator"=false:=by decide
 simp only [own,Bool.false_eq_true,if_false];show wpAny _ _ (if (Value.ref d == Value.none)=true then _ else _) _ _ s
 rw [if_neg (show ¬ ((Value.ref d == Value.none)=true) from Bool.false_ne_true)];refine wpAny_bind (wpAny_pure ?_);refine wpAny_bind (wpAny_dictEntries hod hdd ?_)
 rw [if_neg (by simp)];refine wpAny_bind (wpAny_pure ?_);refine wpAny_bind (wpAny_dictEpoch hod hdd ?_);rw [if_neg (by simp)];refine wpAny_pure ?_
 simp only [show ¬ ((i:Int) < 0) from by lia,if_false,Int.toNat_natCast,Array.getElem?_eq_none hx]
 refine wpAny_bind ?_
 first | (refine wpAny_bind (wpAny_typeNameOfWhole_keyiter hit.typeIs (wpAny_pure ?_))) | (refine wpAny_bind (wpAny_typeNameOf_keyiter hit.typeIs (wpAny_pure ?_)))
 show wpAny _ _ (setField (.ref it) 0 .none >>= _) _ _ s;refine wpAny_bind (wpAny_setField ho hd (by simp) ?_)
 show wpAny _ _ (newExc (.type "StopIteration") [] >>= _) _ _ _;refine wpAny_bind ?_;simp only [newExc,newTuple]
 refine wpAny_bind (wpAny_newObj_type ?_ (by size_fits));refine wpAny_bind (m:=firstArgMember _ _) (wpAny_of_eq (a:=Value.none) (by first | rfl | (simp only [firstArgMember];rfl)) ?_)
 refine wpAny_newObj_type ?_ (by size_fits);simp only [raiseNew]
 refine wpAny_bind (wpAny_handled ?_);rw [show A.in1.handled=none from hh];refine wpAny_bind (wpAny_pure (wpAny_throw ?_))
 exact wpAny_bind (wpAny_isInstance (T:="StopIteration") (b:=true) ⟨_,Heap.get?_push_size _ rfl,rfl⟩ isSubtype_stop (wpAny_pure (q _ (((Heap.SameBut.update ..).extBut.push _).push _))))
theorem K4 (hh:A.handled=none) (I d:Addr) (hne:d≠I) (es:Array DictEntry) (ep:Nat) :
  Walks P w A I [I,d] [I] es.size (fun i v=>∃ e,es[i]?=some e∧v=e.key) (fun i h=>h.IsKeyIter I d i es.size ep∧RawD h d es ep) where
 sub:=fun b hb=>by simp at hb;simp [hb]
 frame:=fun _ _ _ st hk=>⟨st.1.at fun o e=>hk I (by simp) o e,st.2.at fun o e=>hk d (by simp) o e⟩
 item:=fun i s Q E hi st hQ=>by
  refine Q2 st.1 st.2 (Array.getElem?_eq_getElem hi) fun h' hit' hs'=>?_
  exact hQ _ h' s.toks ⟨_,Array.getElem?_eq_getElem hi,rfl⟩ ⟨hit',st.2.at fun o e=>hs'.extBut d o hne e⟩ fun b o hb e=>hs'.extBut b o (fun h=>hb (by simp [h])) e
 done:=fun s Q E st hQ=>zbd hh st.1 st.2 (Nat.le_refl _) fun h' he'=>hQ h' s.toks fun b o hb e=>he' b o (fun h=>hb (by simp [h])) e
 self:=fun _ _ _ _ st hQ=>wpAny_pyIter_keyiter st.1 hQ
end
end L2
namespace L2
open PySem PySem.Spec PyProof.Rows
section
open PySem.SeqAt
open PySem.AutoSeq1 (wpAny_loadPart')
open PySem.MeetsSeq PySem.MeetsSeq2 PySem.MeetsSeq3
theorem YI (l b:Addr) (x y:Str) (i j:Int) (t u t2 u2:Tok) (n n2:Nat) (dd dd2:Option Addr) (sl sl2:Array (Option Value)) :
  Meets (Builtin.«tuple.__lt__» ⟨[.ref l,.ref b],[]⟩) (fun _ R s=>s.heap.get? l=some { cls:=.type "tuple",dict:=dd,data:=.seq #[.str x t,.int i u] n,slots:=sl } ∧
   s.heap.get? b=some { cls:=.type "tuple",dict:=dd2,data:=.seq #[.str y t2,.int j u2] n2,slots:=sl2 }∧R (.ok (.ret (.bool (z5 (x,i) (y,j))))) s) :=
 .of_wp fun prog w A R s h=>by
  obtain ⟨hp,g,d,tk,os⟩:=s;obtain ⟨hl,hb,h⟩:=h
  have f2:=AutoSeq1.sub_tuple_tuple
  have lt1:∀ (E:Value→Shared→Prop) (Q:Value→Shared→Prop) (s:Shared),Q (.bool (decide (x.cps.toList < y.cps.toList))) s→wpAny (model prog w) A.in1 (richCompare .Lt (.str x t) (.str y t2)) Q E s:=fun E Q s q=>(PyProof.Rows.lt_str q:wpAny (model prog w) A.in1 (compareOp .Lt (.str x t) (.str y t2)) Q E s)
  have lt2:=HT.rcLt_int A.in1 ⟨hp,g,d,tk,os⟩ i u j u2 prog w
  by_cases e:x=y
  ·subst e
   have eq1:=SeqAt.EqAt.str_str (A:=A.in1) (s:=⟨hp,g,d,tk,os⟩) x t x t2 prog w
   rw [beq_self_eq_true] at eq1
   unfold z5 at h
   rw [if_pos rfl] at h
   by_cases e2:i=j
   ·subst e2
    have eq2:=SeqAt.EqAt.int_int (A:=A.in1) (s:=⟨hp,g,d,tk,os⟩) i u i u2 prog w
    rw [beq_self_eq_true] at eq2
    wp_walk using wpAny_loadPart' hl,wpAny_loadPart' hb,eq1,eq2
    exact ⟨_,rfl,by simpa [Builtin.Tuple.tupleCompareSizes] using h⟩
   ·have eq2:=SeqAt.EqAt.int_int (A:=A.in1) (s:=⟨hp,g,d,tk,os⟩) i u j u2 prog w
    rw [show (i == j)=false from by simpa using e2] at eq2
    wp_walk using wpAny_loadPart' hl,wpAny_loadPart' hb,eq1,eq2,lt2
    exact ⟨_,rfl,by simpa using h⟩
  ·have eq1:=SeqAt.EqAt.str_str (A:=A.in1) (s:=⟨hp,g,d,tk,os⟩) x t y t2 prog w
   rw [show (x == y)=false from by simpa using e] at eq1
   unfold z5 at h
   rw [if_neg e] at h
   wp_walk using wpAny_loadPart' hl,wpAny_loadPart' hb,eq1,lt1
   exact ⟨_,rfl,by simpa using h⟩
end
end L2
namespace L2
open PySem PySem.Spec PyProof.Rows
section
variable {P:Program} {w:World} {A:Around} {E:Value→Shared→Prop} {s:Shared}
theorem RawD.lt {h:Heap} {d:Addr} {es:Array DictEntry} {ep:Nat} (x:RawD h d es ep):d < h.objs.size:=let ⟨_,ho,_⟩:=x;Heap.lt_size ho
theorem zbe {d:Addr} {es:Array DictEntry} {ep:Nat} (lo:(d == sysModules)=false):W.KdlSrc P w "dict" d d es.size (fun i v=>∃ e,es[i]?=some e∧v=e.key) (fun h=>RawD h d es ep) where
 type:=fun _ hm=>hm.type
 there:=fun _ hm=>⟨hm.lt,hm.lt⟩
 keep:=fun _ _ hm hk=>hm.at fun o e=>hk d (.inl rfl) o e
 notList:=by decide
 notTuple:=by decide
 hint:=fun _ _ _ _ hm hq=>W.kdl_hint_dict hm.type hq
 iter:=fun _ _ hh hm=>⟨_,_,(fun _ _ hq=>Q1 lo hm hq),K4 hh _ d (Nat.ne_of_lt hm.lt) es ep,⟨⟨_,Heap.get?_push_size _ rfl,rfl,rfl⟩,hm.at fun o e=>Heap.get?_push_of_some _ e⟩⟩
theorem Vv {T:String} {r d:Addr} {n:Nat} {G:Nat→Value→Prop} {OK:Heap→Prop} {R:List Value→Shared→Prop} (K:W.KdlSrc P w T r d n G OK) (hh:A.handled=none) (hok:OK s.heap) (hn:n≤sizeLine)
  (h:∀ (h':Heap) (tk:Nat) (vs:List Value),(∀ b o,s.heap.get? b=some o→h'.get? b=some o)→vs.length=n→(∀ j v,vs[j]?=some v→G j v)→R vs { s with heap:=h',toks:=tk }) :
  wpAny (model P w) A (collect (.ref r)) R E s:=by
 obtain ⟨lr,ld⟩:=K.there _ hok
 unfold collect
 refine wpAny_bind (wpAny_runValue (codeAny_builtin entry_proto_collect' ?_));rw [Around.under_plainId F.plain_proto_collect _]
 show wpAny _ A.in1 (newList [] >>= fun l=>again (.builtin "list.__iadd__" ⟨[l,.ref r],[]⟩)) _ _ s;refine wpAny_bind (wpAny_newObj_type ?_)
 refine wpAny_pure ⟨plainId_quiet F.plain_list_iadd _,codeAny_builtin entry_list_iadd' ?_⟩;rw [Around.under_plainId F.plain_list_iadd _]
 have hS:(s.heap.push { cls:=.type "list",data:=.seq ([]:List Value).toArray }).get? s.heap.objs.size=some { cls:=.type "list",data:=.seq #[] }:=Heap.get?_push_size _ rfl
 show wpAny _ A.in1 (Builtin.List.listExtendWith (.ref s.heap.objs.size) (.ref r) (.ref s.heap.objs.size)) _ _ _
 have key:=W.kdl_extend (A:=A) (s:={ s with heap:=s.heap.push { cls:=.type "list",data:=.seq ([]:List Value).toArray } }) (R:=fun (q:Result) (s':Shared)=>∃ (h':Heap) (tk:Nat) (acc:Array Value) (c:Nat),q=.ok (.ret (.ref s.heap.objs.size))∧s'={ s with heap:=h',toks:=tk } ∧
   (∀ b o,s.heap.get? b=some o→h'.get? b=some o)∧h'.get? s.heap.objs.size=some { cls:=.type "list",dict:=none,data:=.seq acc c,slots:=#[] }∧ItemsOf G acc n) K hh (K.keep _ _ hok fun b _ o e=>Heap.get?_push_of_some _ e) s.heap.objs.size (Nat.ne_of_gt lr) (Nat.ne_of_gt ld) (.ref s.heap.objs.size) 0 hS
  (fun h' tk acc c hk hS' hacc=>⟨h',tk,acc,c,rfl,rfl,fun b o e=>hk b o (Nat.ne_of_lt (Heap.lt_size e)) (Heap.get?_push_of_some _ e),hS',hacc⟩) hn
 refine wpAny_mono key (fun fin s' x=>?_) fun e s' x=>?_
 ·cases fin with
  | done f =>
   obtain ⟨h',tk,acc,c,e,rfl,hk,hS',hacc⟩:=x
   cases e
   show wpAny _ A (load s.heap.objs.size >>= _) _ _ _;refine wpAny_bind (wpAny_load hS' ?_)
   exact wpAny_pure (h h' tk acc.toList hk (by rw [Array.length_toList];exact hacc.1) fun j v e=>hacc.2 j v (by rw [← Array.getElem?_toList];exact e))
  | again c =>
   refine ⟨x.1,codeAny_mono x.2 fun q s' x=>?_⟩
   obtain ⟨h',tk,acc,c,rfl,rfl,hk,hS',hacc⟩:=x
   show wpAny _ A (load s.heap.objs.size >>= _) _ _ _;refine wpAny_bind (wpAny_load hS' ?_)
   exact wpAny_pure (h h' tk acc.toList hk (by rw [Array.length_toList];exact hacc.1) fun j v e=>hacc.2 j v (by rw [← Array.getElem?_toList];exact e))
 ·obtain ⟨h',tk,acc,c,e',_⟩:=x
  cases e'
end
end L2
namespace L2
open PySem PySem.Spec PyProof.Rows
def zV (q:Str × Int):List Key:=[.inr q.1,.inl q.2]
abbrev Kl:RC:=fun xs H Q=>∃ (a:Addr) (kvs:List (List Key × V)) (qs:List (Str × Int)),xs=[.ref a]∧H a=some (.dT kvs)∧kvs.map (·.1)=qs.map zV∧kvs.length < 1000 ∧
 ∀ (l:Addr) (ps:List (Addr × (Str × Int))),H l=none→(ps.map (·.2)).Perm qs→(ps.map (·.2)).Pairwise (fun a b=>z5 a b=true)→(∀ n∈ps,H n.1=some (.tup [.str n.2.1,.int n.2.2]))→Q (.ref l) (upd H l (.lst (ps.map fun n=>V.ref n.1)))
theorem yL {α β:Type} {F:α→β→Prop}:∀ {l₁:List α} {l₂:List β},Paired F l₁ l₂→∀ {i:Nat} {a:α} {b:β},l₁[i]?=some a→l₂[i]?=some b→F a b
 | _,_,.nil,i,a,b,h,_=>by simp at h
 | _,_,.cons x r,0,a,b,h1,h2=>by
  simp only [List.getElem?_cons_zero,Option.some.injEq] at h1 h2
  subst h1 h2
  exact x
 | _,_,.cons x r,i + 1,a,b,h1,h2=>yL r (by simpa using h1) (by simpa using h2)
theorem PlAt.keep {h h':Heap} {v:Value} {q:Str × Int} (x:PlAt h v q) (k:∀ b o,h.get? b=some o→h'.get? b=some o):PlAt h' v q:=by
 obtain ⟨a,o,t,u,n,e,ho,r⟩:=x
 exact ⟨a,o,t,u,n,e,k _ _ ho,r⟩
section
variable {X:Cx}
theorem Vw {pins:List (Addr × Obj)} {σ:St} {H:Hp} {s:Shared} {a:Addr} {q:Str × Int} (I:Inv X pins σ H s) (h:H a=some (.tup [.str q.1,.int q.2])):PlAt s.heap (.ref a) q:=by
 obtain ⟨its,rv,⟨o,ho,hc,n,hd⟩,_⟩:=I.tuple (SqT.of h)
 cases rv with
 | cons r1 rr =>
  cases rr with
  | cons r2 rn =>
   cases rn
   obtain ⟨t,rfl⟩:=r1
   obtain ⟨u,rfl⟩:=r2
   exact ⟨a,o,t,u,n,rfl,ho,hc,hd⟩
theorem xH {α β:Type} {f:α→β}:∀ {l:List α},(l.map f).Nodup→l.Nodup
 | [],_=>List.nodup_nil
 | a :: r,h=>by
  rw [List.map_cons,List.nodup_cons] at h
  exact List.nodup_cons.mpr ⟨fun z=>h.1 (List.mem_map_of_mem z),xH h.2⟩
theorem Wx (hc:X.calm=true):je X (.builtin "sorted") Kl:=by
 intro pins s σ H xs us Q I r h
 obtain ⟨a,kvs,qs,rfl,ha,hk,h64,q⟩:=h
 obtain ⟨u,rfl,ru⟩:=qP r
 cases ru
 obtain ⟨hz,lo,xs,rel,o,es,ep,ho,hx,hd,he,hn⟩:=(show ObjOk X.prog X.w H s.heap a (.dT kvs) from I.hok a _ ha)
 have hh:X.A.handled=none:=I.ok.hd hc
 have lk:kvs.length=qs.length:=by have:=congrArg List.length hk;simpa using this
 have lx:kvs.length=xs.length:=Paired.length rel
 have les:es.size=xs.length:=by rw [← Array.length_toList,he,List.length_map]
 -- the keys in their order
 have key:∀ (i:Nat) (x:List Key × Addr × Value),xs[i]?=some x→∃ q,qs[i]?=some q∧x.1=zV q∧H x.2.1=some (.tup [.str q.1,.int q.2]):=fun i x hx=>by
  have hi:=(List.getElem?_eq_some_iff.mp hx).1
  obtain ⟨kv,hkv⟩:∃ kv,kvs[i]?=some kv:=⟨_,List.getElem?_eq_getElem (by lia)⟩
  obtain ⟨q,hq⟩:∃ q,qs[i]?=some q:=⟨_,List.getElem?_eq_getElem (by lia)⟩
  have rl:=yL rel hkv hx
  have e1:kv.1=zV q:=by
   have e1:(kvs.map (·.1))[i]?=some kv.1:=by rw [List.getElem?_map,hkv];rfl
   have e2:(qs.map zV)[i]?=some (zV q):=by rw [List.getElem?_map,hq];rfl
   rw [hk,e2] at e1
   exact (Option.some.inj e1).symm
  refine ⟨q,hq,by rw [← rl.1,e1],?_⟩
  have:=rl.2.1
  rw [e1] at this
  exact this
 have nq:qs.Nodup:=by
  refine xH (f:=zV) ?_
  have e:xs.map (·.1)=qs.map zV:=by
   rw [← hk]
   apply List.ext_getElem?
   intro i
   rw [List.getElem?_map,List.getElem?_map]
   cases hx:xs[i]? with
   | none =>
    have:xs.length≤i:=by simpa using hx
    rw [List.getElem?_eq_none (by lia:kvs.length≤i)]
    rfl
   | some x =>
    have hi:=(List.getElem?_eq_some_iff.mp hx).1
    have hkv:kvs[i]?=some kvs[i]:=List.getElem?_eq_getElem (by lia)
    rw [hkv]
    have:=(yL rel hkv hx).1
    simp [this]
  rw [← e];exact hn
 have vv:∀ (i:Nat) (v:Value) (q:Str × Int),(xs.map fun x=>Value.ref x.2.1)[i]?=some v→qs[i]?=some q→PlAt s.heap v q:=fun i v q hv hq=>by
  rw [List.getElem?_map] at hv
  obtain ⟨x,hx,rfl⟩:=Option.map_eq_some_iff.mp hv
  obtain ⟨q',hq',_,hH⟩:=key i x hx
  rw [hq] at hq'
  cases hq'
  exact Vw I hH
 have lv:(xs.map fun x=>Value.ref x.2.1).length=qs.length:=by rw [List.length_map];lia
 have vat:∀ i,i < qs.length→PlAt s.heap ((xs.map fun x=>Value.ref x.2.1).getD i Value.none) (qs.getD i ("",0)):=fun i hi=>by
  refine vv i _ _ ?_ ?_
  ·rw [List.getD_eq_getElem?_getD,List.getElem?_eq_getElem (by rw [lv];exact hi)];rfl
  ·rw [List.getD_eq_getElem?_getD,List.getElem?_eq_getElem hi];rfl
 have S:=qx nq
 rw [← lv] at S
 refine ZF (vs:=xs.map fun x=>Value.ref x.2.1) (κ:=tuples' true) (by rw [List.length_map];lia) S (fun R hR=>?_) (fun h2 h tk Q' kp q'=>?_) (fun h tk i j C kp hi hj hij q'=>?_) fun h tk h' p c k1 k2 hD hp hr=>?_
 ·refine Vv (zbe (ep:=ep) (es:=es) lo) hh ⟨o,ho,hx,hd⟩ (by rw [les];lia) fun h' tk vs kp hl hG=>?_
  have ev:vs=xs.map fun x=>Value.ref x.2.1:=by
   apply List.ext_getElem?
   intro i
   by_cases hi:i < vs.length
   ·obtain ⟨e,hes,ek⟩:=hG i vs[i] (List.getElem?_eq_getElem hi)
    have e2:es.toList[i]?=some e:=by rw [Array.getElem?_toList];exact hes
    rw [he,List.getElem?_map] at e2
    obtain ⟨x,hxx,ex⟩:=Option.map_eq_some_iff.mp e2
    rw [List.getElem?_eq_getElem hi,ek,List.getElem?_map,hxx,← ex]
    rfl
   ·rw [List.getElem?_eq_none (by lia),List.getElem?_eq_none (by rw [List.length_map];lia)]
  rw [ev]
  exact hR h' tk kp
 ·exact Jw (s:={ s with heap:=h,toks:=tk }) lv (fun i v q hv hq=>(vv i v q hv hq).keep kp) (by lia) q'
 ·rw [lv] at hi hj
  refine K3 (s:={ s with heap:=h,toks:=tk }) ((vat i hi).keep kp) ((vat j hj).keep kp) q' fun z=>hij ?_
  rw [List.getD_eq_getElem?_getD,List.getD_eq_getElem?_getD,List.getElem?_eq_getElem hi,List.getElem?_eq_getElem hj] at z
  exact (List.getElem_inj nq).mp z
 ·have I1:Inv X pins σ H { s with heap:=h,toks:=tk }:=I.kept k1
  have ps:∃ ps:List (Addr × (Str × Int)),ps.map (fun n=>Value.ref n.1)=wV (xs.map fun x=>Value.ref x.2.1) p∧ps.map (·.2)=p.toList.map (fun i=>qs.getD i ("",0))∧∀ n∈ps,H n.1=some (.tup [.str n.2.1,.int n.2.2]):=by
   have pl:∀ i∈p.toList,i < xs.length:=fun i hi=>by
    have:i∈p:=by simpa using hi
    have:=(Array.Perm.mem_iff hp).mp this
    rw [List.length_map] at this
    simpa using this
   refine ⟨p.toList.map fun i=>((xs.getD i ([],0,.none)).2.1,qs.getD i ("",0)),?_,by rw [List.map_map];rfl,fun n hn=>?_⟩
   ·unfold wV
    rw [List.map_map]
    refine List.map_congr_left fun i hi=>?_
    have:=pl i hi
    simp [List.getD_eq_getElem?_getD,List.getElem?_map,List.getElem?_eq_getElem this]
   ·obtain ⟨i,hi,rfl⟩:=List.mem_map.mp hn
    have hl:=pl i hi
    obtain ⟨q,hq,_,hH⟩:=key i xs[i] (List.getElem?_eq_getElem hl)
    have e1:xs.getD i ([],0,.none)=xs[i]:=by rw [List.getD_eq_getElem?_getD,List.getElem?_eq_getElem hl];rfl
    have e2:qs.getD i ("",0)=q:=by rw [List.getD_eq_getElem?_getD,hq];rfl
    show H (xs.getD i ([],0,.none)).2.1=some (.tup [.str (qs.getD i ("",0)).1,.int (qs.getD i ("",0)).2])
    rw [e1,e2]
    exact hH
  obtain ⟨ps,e1,e2,hps⟩:=ps
  have vr:Vals (ps.map fun n=>V.ref n.1) (ps.map fun n=>Value.ref n.1):=by
   clear e1 e2 hps
   induction ps with
   | nil=>exact .nil
   | cons n r ih=>exact .cons rfl ih
  have psz:p.size=xs.length:=by have:=hp.size;rw [List.length_map] at this;exact this
  have pln:ps.length=xs.length:=by have:=congrArg List.length e1;unfold wV at this;simpa [psz] using this
  have I2:Inv X pins σ (upd H h.objs.size (.lst (ps.map fun n=>V.ref n.1))) { s with heap:=h',toks:=tk }:=I1.laid (s:={ s with heap:=h,toks:=tk }) (a:=h.objs.size) (o:=.lst (ps.map fun n=>V.ref n.1)) (t':=tk) k2 (Nat.le_refl _)
   ⟨by rw [List.length_map];lia,ps.map fun n=>Value.ref n.1,c,vr,by rw [e1];exact hD⟩
  refine ⟨.ref h.objs.size,_,I2,rfl,q _ ps (I1.hok.fresh (Nat.le_refl _)) ?_ ?_ hps⟩
  ·rw [e2]
   have pr:p.toList.Perm (List.range qs.length):=by
    have:=Array.perm_iff_toList_perm.mp hp
    rw [lv] at this
    simpa using this
   refine (pr.map _).trans ?_
   have:(List.range qs.length).map (fun i=>qs.getD i ("",0))=qs:=by
    apply List.ext_getElem?
    intro i
    rw [List.getElem?_map]
    by_cases hi:i < qs.length
    ·rw [List.getElem?_range hi,List.getElem?_eq_getElem hi]
     simp [List.getD_eq_getElem?_getD,List.getElem?_eq_getElem hi]
    ·rw [List.getElem?_eq_none (by simpa using hi),List.getElem?_eq_none (by lia)]
     rfl
   rw [this]
  ·rw [e2,List.pairwise_map,List.pairwise_iff_getElem]
   intro i j hi hj hij
   rw [Array.length_toList] at hi hj
   have g1:=wT hi
   have g2:=wT hj
   have r:=hr i j hij (by rw [List.length_map];lia)
   have x1:p.toList[i]=gt p i:=by
    rw [Array.getElem?_eq_getElem hi] at g1
    simpa using g1
   have x2:p.toList[j]=gt p j:=by
    rw [Array.getElem?_eq_getElem hj] at g2
    simpa using g2
   rw [x1,x2]
   exact r
end
end L2
namespace L2
open PySem PySem.Spec PyProof.Rows
def Itd (a:Addr) (o:Obj) (kvs:List (List Key × V)):It :=
 ⟨fun i H=>H a=some (.frz o (.dT kvs))∧i < kvs.length,fun i H x H'=>H'=H∧∃ k v p,kvs[i]?=some (k,v)∧x=.ref p∧H p=some (.tup (k.map kV)),fun i H=>H a=some (.frz o (.dT kvs))∧kvs.length≤i⟩
section
variable {X:Cx}
def iDT (tl:TE):TI:=fun σ H R=>tl σ H fun x H1=>∃ a o kvs,x=.ref a∧H1 a=some (.frz o (.dT kvs))∧R (Itd a o kvs) H1
def Q3:HO→Prop
 | .tup _=>False
 | .own _=>False
 | .tbl _=>False
 | _=>True
theorem Inv.relab {pins:List (Addr × Obj)} {σ:St} {H:Hp} {s:Shared} {a:Addr} {u u':HO} (I:Inv X pins σ H s) (ha:H a=some u) (hp:Q3 u) (hf:∀ o z,X.H₀ a≠some (.frz o z)) (ho:ObjOk X.prog X.w (upd H a u') s.heap a u'):Inv X pins σ (upd H a u') s:=by
 have nn:∀ b,H b=none→b≠a:=fun b n z=>by subst z;rw [n] at ha;cases ha
 have ntup:∀ b xs,H b=some (.tup xs)→b≠a:=fun b xs q z=>by subst z;rw [ha] at q;cases q;exact hp
 have nown:∀ b y,H b=some (.own y)→b≠a:=fun b y q z=>by subst z;rw [ha] at q;cases q;exact hp
 have ntbl:∀ b y,H b=some (.tbl y)→b≠a:=fun b y q z=>by subst z;rw [ha] at q;cases q;exact hp
 refine ⟨I.ok,I.os,I.bare,⟨I.base.keep,I.base.slot,fun b o q n hb=>?_,I.base.there,fun b xs q=>?_,fun b o z q=>?_,fun b ps q=>?_⟩,I.loc,I.cell,?_,fun x c e=>?_,fun p hp=>?_,fun b v q=>?_,I.len⟩
 ·have:=I.base.free b o q n hb
  rw [zk (nn b this)];exact this
 ·have:=I.base.tups b xs q
  rw [zk (ntup b xs this)];exact this
 ·have:=I.base.frzs b o z q
  rw [zk (fun e=>hf o z (by rw [← e];exact q))];exact this
 ·obtain ⟨m,e⟩:=I.base.tbls b ps q
  exact ⟨m,by rw [zk (ntbl b _ e)];exact e⟩
 ·rw [zk (nn _ I.free)];exact I.free
 ·have:=I.freeC x c e
  rw [zk (nn _ this)];exact this
 ·obtain ⟨h1,h2,h3⟩:=I.pin p hp
  exact ⟨h1,by rw [zk (nn _ h2)];exact h2,h3⟩
 ·by_cases hb:b=a
  ·subst hb
   rw [zf] at q;cases q;exact ho
  ·rw [zk hb] at q
   exact (I.hok b v q).stay (fun _ _ _ r=>r) (fun c r=>by rw [zk (nown c b r)];exact r) fun c xs r=>by rw [zk (ntup c xs r)];exact r
def zcQ (t:TS):TS:=fun D σ H=>∃ a u0 kvs,H a=some u0∧(u0=.dT kvs∨∃ o,u0=.frz o (.dT kvs))∧∀ o,t
 ⟨fun σ' H'=>H' a=some (.frz o (.dT kvs))∧D.nx σ' (upd H' a u0),fun v H'=>H' a=some (.frz o (.dT kvs))∧D.rt v (upd H' a u0),fun σ' H'=>H' a=some (.frz o (.dT kvs))∧D.bk σ' (upd H' a u0),fun σ' H'=>H' a=some (.frz o (.dT kvs))∧D.ct σ' (upd H' a u0)⟩ σ (upd H a (.frz o (.dT kvs)))
theorem ObjOk.upd_dT {P:Program} {w:World} {H:Hp} {h:Heap} {a:Addr} {kvs:List (List Key × V)} {u u':HO} (ha:H a=some u) (hp:Q3 u) (x:ObjOk P w H h a (.dT kvs)):ObjOk P w (upd H a u') h a (.dT kvs):=by
 refine x.stay (fun _ _ _ r=>r) (fun c r=>?_) fun c xs r=>?_
 ·rw [zk fun z=>by subst z;rw [ha] at r;cases r;exact hp];exact r
 ·rw [zk fun z=>by subst z;rw [ha] at r;cases r;exact hp];exact r
theorem zcb {st:Stmt} {t:TS} (hst:PS X st t):PS X st (zcQ t):=by
 rintro pins s σ H D I ⟨a,u0,kvs,ha,hu,h⟩
 have pl:Q3 u0:=by rcases hu with rfl | ⟨o,rfl⟩ <;> trivial
 -- the object as it stands
 have ob:∃ o,s.heap.get? a=some o∧(u0=.dT kvs∨u0=.frz o (.dT kvs)):=by
  rcases hu with rfl | ⟨o,rfl⟩
  ·obtain ⟨hz,lo,xs,rel,o,es,ep,ho,_⟩:=(show ObjOk X.prog X.w H s.heap a (.dT kvs) from I.hok a _ ha)
   exact ⟨o,ho,.inl rfl⟩
  ·exact ⟨o,(show ObjOk X.prog X.w H s.heap a (.frz o (.dT kvs)) from I.hok a _ ha).1,.inr rfl⟩
 obtain ⟨o,ho,hu⟩:=ob
 have I1:Inv X pins σ (upd H a (.frz o (.dT kvs))) s:=by
  rcases hu with rfl | rfl
  ·refine I.relab ha trivial (fun o' z q=>?_) ⟨ho,ObjOk.upd_dT ha trivial (I.hok a _ ha)⟩
   have:=I.base.frzs a o' z q
   rw [ha] at this;cases this
  ·have e:upd H a (.frz o (.dT kvs))=H:=by
    funext b;unfold upd;split
    ·next z=>rw [z];exact ha.symm
    ·rfl
   rw [e];exact I
 have back:∀ {σ':St} {H':Hp} {s':Shared},Inv X pins σ' H' s'→H' a=some (.frz o (.dT kvs))→Inv X pins σ' (upd H' a u0) s':=fun {σ' H' s'} I' ha'=>by
  rcases hu with rfl | rfl
  ·refine I'.relab ha' trivial (fun o' z q=>?_) (ObjOk.upd_dT ha' trivial (show ObjOk X.prog X.w H' s'.heap a (.frz o (.dT kvs)) from I'.hok a _ ha').2)
   have:=I.base.frzs a o' z q
   rw [ha] at this;cases this
  ·have e:upd H' a (.frz o (.dT kvs))=H':=by
    funext b;unfold upd;split
    ·next z=>rw [z];exact ha'.symm
    ·rfl
   rw [e];exact I'
 refine thn (hst pins s σ _ _ I1 (h o)) fun f s' q=>?_
 cases f with
 | next=>obtain ⟨σ',H',I',ha',q⟩:=q;exact ⟨σ',_,back I' ha',q⟩
 | brk=>obtain ⟨σ',H',I',ha',q⟩:=q;exact ⟨σ',_,back I' ha',q⟩
 | cont=>obtain ⟨σ',H',I',ha',q⟩:=q;exact ⟨σ',_,back I' ha',q⟩
 | ret v=>obtain ⟨x,σ',H',I',r,ha',q⟩:=q;exact ⟨x,σ',_,back I' ha',r,q⟩
end
section
variable {σ:St} {H:Hp} {nx:St→Hp→Prop} {B:V→St→Hp→(St→Hp→Prop)→Prop}
end
end L2
namespace L2
open PySem PySem.Spec PyProof.Rows
mutual
inductive Dat (K:W.Frag) (H:Hp):V→PyData→Prop
 | non:Dat K H .non .none
 | bl (b:Bool):Dat K H (.bl b) (.bool b)
 | int (i:Int):Dat K H (.int i) (.int i)
 | str (x:Str):Dat K H (.str x) (.str x)
 | lst {a:Addr} {xs:List V} {ds:List PyData}:SqL K H a xs→DatAll K H xs ds→Dat K H (.ref a) (.list ds)
 | tup {a:Addr} {xs:List V} {ds:List PyData}:SqT K H a xs→DatAll K H xs ds→Dat K H (.ref a) (.tuple ds)
inductive DatAll (K:W.Frag) (H:Hp):List V→List PyData→Prop
 | nil:DatAll K H [] []
 | cons {x:V} {d:PyData} {xs:List V} {ds:List PyData}:Dat K H x d→DatAll K H xs ds→DatAll K H (x :: xs) (d :: ds)
end
section
variable {X:Cx} {pins:List (Addr × Obj)} {σ:St} {H:Hp} {s:Shared}
mutual
theorem Dat.reads (I:Inv X pins σ H s):∀ {x:V} {d:PyData} {u:Value},Dat X.K H x d→RelV x u→∃ as,Reads s.heap u d as
 | _,_,_,.non,r=>by cases r;exact ⟨_,.none⟩
 | _,_,_,.bl b,r=>by cases r;exact ⟨_,.bool b⟩
 | _,_,_,.int i,r=>by obtain ⟨t,rfl⟩:=r;exact ⟨_,.int i t⟩
 | _,_,_,.str x,r=>by obtain ⟨t,rfl⟩:=r;exact ⟨_,.str x t⟩
 | _,_,_,.lst hq ha,r=>by
  cases r
  obtain ⟨its,rv,⟨o,n,e,c,_,d⟩,_⟩:=I.list hq
  obtain ⟨as,ra⟩:=DatAll.reads I ha rv
  exact ⟨_,.list e c d (by simpa using ra)⟩
 | _,_,_,.tup hq ha,r=>by
  cases r
  obtain ⟨its,rv,⟨o,e,c,n,d⟩,_⟩:=I.tuple hq
  obtain ⟨as,ra⟩:=DatAll.reads I ha rv
  exact ⟨_,.tuple e c d (by simpa using ra)⟩
theorem DatAll.reads (I:Inv X pins σ H s):∀ {xs:List V} {ds:List PyData} {us:List Value},DatAll X.K H xs ds→Vals xs us→∃ as,ReadsAll s.heap us ds as
 | _,_,_,.nil,r=>by cases r;exact ⟨_,.nil⟩
 | _,_,_,.cons hx ht,r=>by
  cases r with
  | cons r1 rr =>
   obtain ⟨as,ra⟩:=Dat.reads I hx r1
   obtain ⟨bs,rb⟩:=DatAll.reads I ht rr
   exact ⟨_,.cons ra rb⟩
end
end
section
variable {K:W.Frag} {H H':Hp}
theorem SqL.mono {a:Addr} {xs:List V} (k:Same H H') (h:SqL K H a xs):SqL K H' a xs:=by
 rcases h with (h | ⟨o,h⟩) | h
 ·exact .inl (.inl (k _ _ h))
 ·exact .inl (.inr ⟨o,k _ _ h⟩)
 ·exact .inr h
theorem DatAll.of {α:Type} {f:α→V} {g:α→PyData}:∀ {l:List α},(∀ a∈l,Dat K H (f a) (g a))→DatAll K H (l.map f) (l.map g)
 | [],_=>.nil
 | a :: r,h=>.cons (h a List.mem_cons_self) (DatAll.of fun b hb=>h b (List.mem_cons_of_mem _ hb))
end
section
variable {X:Cx} {pins:List (Addr × Obj)} {σ:St} {H:Hp} {s:Shared}
end
mutual
def zK:PyData→Bool
 | .none=>true
 | .int _=>true
 | .str x=>PyData.strOk x
 | .list xs=>zY xs
 | .tuple xs=>zY xs
 | .bool _=>false
 | .dict _=>false
def zY:List PyData→Bool
 | []=>true
 | x :: xs=>zK x && zY xs
end
mutual
theorem XX:∀ {d:PyData},zK d=true→d.canLay0=true
 | .none,_=>by simp [PyData.canLay0]
 | .int _,_=>by simp [PyData.canLay0]
 | .str x,h=>by simpa [PyData.canLay0,zK] using h
 | .list xs,h=>by rw [PyData.canLay0];exact qy (by simpa [zK] using h)
 | .tuple xs,h=>by rw [PyData.canLay0];exact qy (by simpa [zK] using h)
 | .bool _,h=>by simp [zK] at h
 | .dict _,h=>by simp [zK] at h
theorem qy:∀ {ds:List PyData},zY ds=true→PyData.canLayAll0 ds=true
 | [],_=>by simp [PyData.canLayAll0]
 | x :: xs,h=>by
  rw [zY,Bool.and_eq_true] at h
  rw [PyData.canLayAll0,XX h.1,qy h.2];rfl
end
mutual
theorem XY:∀ {d e:PyData},zK d=true→zK e=true→(PyData.eqv d e=true↔d=e)
 | .list xs,.list ys,h,h'=>by
  rw [PyData.eqv,qz (by simpa [zK] using h) (by simpa [zK] using h'),PyData.list.injEq]
 | .tuple xs,.tuple ys,h,h'=>by
  rw [PyData.eqv,qz (by simpa [zK] using h) (by simpa [zK] using h'),PyData.tuple.injEq]
 | .bool _,_,h,_=>by simp [zK] at h
 | .dict _,_,h,_=>by simp [zK] at h
 | .none,.bool _,_,h=>by simp [zK] at h
 | .int _,.bool _,_,h=>by simp [zK] at h
 | .str _,.bool _,_,h=>by simp [zK] at h
 | .list _,.bool _,_,h=>by simp [zK] at h
 | .tuple _,.bool _,_,h=>by simp [zK] at h
 | .none,.dict _,_,h=>by simp [zK] at h
 | .int _,.dict _,_,h=>by simp [zK] at h
 | .str _,.dict _,_,h=>by simp [zK] at h
 | .list _,.dict _,_,h=>by simp [zK] at h
 | .tuple _,.dict _,_,h=>by simp [zK] at h
 | .none,.none,_,_ | .none,.int _,_,_ | .none,.str _,_,_ | .none,.list _,_,_ | .none,.tuple _,_,_=>by simp [PyData.eqv]
 | .int _,.none,_,_ | .int _,.int _,_,_ | .int _,.str _,_,_ | .int _,.list _,_,_ | .int _,.tuple _,_,_=>by simp [PyData.eqv]
 | .str _,.none,_,_ | .str _,.int _,_,_ | .str _,.str _,_,_ | .str _,.list _,_,_ | .str _,.tuple _,_,_=>by simp [PyData.eqv]
 | .list _,.none,_,_ | .list _,.int _,_,_ | .list _,.str _,_,_ | .list _,.tuple _,_,_=>by simp [PyData.eqv]
 | .tuple _,.none,_,_ | .tuple _,.int _,_,_ | .tuple _,.str _,_,_ | .tuple _,.list _,_,_=>by simp [PyData.eqv]
theorem qz:∀ {xs ys:List PyData},zY xs=true→zY ys=true→(PyData.eqvAll xs ys=true↔xs=ys)
 | [],[],_,_=>by simp [PyData.eqvAll]
 | [],_ :: _,_,_=>by simp [PyData.eqvAll]
 | _ :: _,[],_,_=>by simp [PyData.eqvAll]
 | x :: xs,y :: ys,h,h'=>by
  rw [zY,Bool.and_eq_true] at h h'
  rw [PyData.eqvAll,Bool.and_eq_true,XY h.1 h'.1,qz h.2 h'.2,List.cons.injEq]
end
abbrev Jx (K:W.Frag) (neg:Bool):R2:=fun x y H Q=>∃ d e,Dat K H x d∧Dat K H y e∧(zK d=true∧zK e=true∧d.depth≤64∧e.depth≤64)∧∀ b:Bool,(b=true↔d=e)→Q (.bl (if neg then !b else b)) H
section
variable {X:Cx}
theorem q8 {d:PyData} (h:zK d=true) (h':d.depth≤64):SeqAt.shaped d=true:=by
 unfold SeqAt.shaped
 rw [XX h,decide_eq_true h'];rfl
theorem YJ (hu:X.A.units + 64 < cLine):OpR X (compareOp .NotEq) (Jx X.K true):=by
 intro pins s σ H x y v u Q I rx ry h
 obtain ⟨d,e,hd,he,⟨p1,p2,l1,l2⟩,q⟩:=h
 obtain ⟨as,ra⟩:=hd.reads I rx
 obtain ⟨bs,rb⟩:=he.reads I ry
 exact ne_dataH ra rb (q8 p1 l1) (q8 p2 l2) hu ⟨.bl _,H,I,rfl,q _ (XY p1 p2)⟩
end
end L2
namespace L2
open PySem PySem.Spec PyProof.Rows
abbrev zd9:R2:=fun x y H Q=>∃ i j,x=.str i∧y=.str j∧Q (.bl (decide (j.cps.toList < i.cps.toList))) H
abbrev zea (neg:Bool):R2:=fun x y H Q=>∃ a o,y=.ref a∧DGet H a x o∧Q (.bl (if neg then !o.isSome else o.isSome)) H
section
variable {X:Cx}
end
end L2
namespace L2
open PySem
abbrev Pl:=Str × Int
abbrev Row:=Pl × Int
def z7:List Row→Pl→Option Int
 | [],_=>none
 | r :: t,p=>(z7 t p).or (if r.1=p then some r.2 else none)
def YK (kvs:List (List Key × V)) (q:Row):List (List Key × V):=yT kvs (zV q.1) (.int q.2)
def dOf (rows:List Row):List (List Key × V):=rows.foldl YK []
theorem xZ {p q:Pl} (h:zV p=zV q):p=q:=by
 unfold zV at h
 simp only [List.cons.injEq,Sum.inr.injEq,Sum.inl.injEq,and_true] at h
 exact Prod.ext h.1 h.2
theorem Vx:∀ (rows:List Row) (kvs:List (List Key × V)) (p:Pl),yB (rows.foldl YK kvs) (zV p)=((z7 rows p).map V.int).or (yB kvs (zV p))
 | [],_,_=>rfl
 | r :: t,kvs,p=>by
  rw [List.foldl_cons,Vx t,z7]
  show _=_
  rw [YK,W6]
  cases z7 t p with
  | some w=>rfl
  | none =>
   by_cases e:r.1=p
   ·subst e;simp
   ·rw [if_neg (fun z=>e (xZ z).symm)];simp [e]
theorem q9 (rows:List Row) (p:Pl):yB (dOf rows) (zV p)=(z7 rows p).map V.int:=by
 unfold dOf
 rw [Vx,Yn]
 cases z7 rows p <;> rfl
theorem Za (rows:List Row) (q:Row):dOf (rows ++ [q])=yT (dOf rows) (zV q.1) (.int q.2):=by
 unfold dOf
 rw [List.foldl_append];rfl
def OkKv (kvs:List (List Key × V)):Prop:=(kvs.map (·.1)).Nodup∧∀ kv∈kvs,∃ (p:Pl) (w:Int),kv=(zV p,.int w)
theorem OkKv.put {kvs:List (List Key × V)} (h:OkKv kvs) (p:Pl) (w:Int):OkKv (yT kvs (zV p) (.int w)):=by
 cases e:yB kvs (zV p) with
 | none =>
  refine ⟨zaX _ h.1 e,fun kv hk=>?_⟩
  rw [W7 _ e] at hk
  rcases List.mem_append.mp hk with hk | hk
  ·exact h.2 kv hk
  ·exact ⟨p,w,List.mem_singleton.mp hk⟩
 | some v =>
  have q:(kvs.any fun kv=>decide (kv.1=zV p))=true:=by rw [wR,e];rfl
  unfold yT
  rw [if_pos q]
  constructor
  ·rw [List.map_map]
   have:((fun x:List Key × V=>x.1) ∘ fun kv:List Key × V=>if kv.1=zV p then (kv.1,V.int w) else kv)=fun x=>x.1:=by
    funext kv
    show (if kv.1=zV p then (kv.1,V.int w) else kv).1=kv.1
    split <;> rfl
   rw [this];exact h.1
  ·intro kv hk
   obtain ⟨z,hz,rfl⟩:=List.mem_map.mp hk
   by_cases e:z.1=zV p
   ·exact ⟨p,w,by rw [if_pos e,e]⟩
   ·rw [if_neg e];exact h.2 z hz
theorem XZ:∀ (rows:List Row) (kvs:List (List Key × V)),OkKv kvs→OkKv (rows.foldl YK kvs)
 | [],_,h=>h
 | r :: t,kvs,h=>XZ t _ (h.put r.1 r.2)
theorem vo (rows:List Row):OkKv (dOf rows):=XZ rows [] ⟨List.nodup_nil,fun _ h=>nomatch h⟩
theorem zbf (kvs:List (List Key × V)) (k:List Key) (v:V):(yT kvs k v).length≤kvs.length + 1:=by
 unfold yT
 split
 ·rw [List.length_map];lia
 ·rw [List.length_append];simp
theorem Vy:∀ (rows:List Row) (kvs:List (List Key × V)),(rows.foldl YK kvs).length≤kvs.length + rows.length
 | [],_=>by simp
 | r :: t,kvs=>by
  have:=Vy t (YK kvs r)
  have:=zbf kvs (zV r.1) (.int r.2)
  rw [List.foldl_cons,List.length_cons]
  unfold YK at *
  lia
theorem vf (rows:List Row):(dOf rows).length≤rows.length:=by have:=Vy rows [];simpa [dOf] using this
theorem Km {kvs:List (List Key × V)}:(kvs.map (·.1)).Nodup→∀ kv∈kvs,yB kvs kv.1=some kv.2:=by
 induction kvs with
 | nil=>exact fun _ kv h=>nomatch h
 | cons a r ih =>
  intro hn kv hk
  rw [List.map_cons,List.nodup_cons] at hn
  rcases List.mem_cons.mp hk with rfl | hk
  ·exact xh rfl
  ·rw [xi fun z=>hn.1 (by rw [z];exact List.mem_map_of_mem hk)]
   exact ih hn.2 kv hk
theorem mem_dOf {rows:List Row} {kv:List Key × V}:kv∈dOf rows↔∃ p w,kv=(zV p,.int w)∧z7 rows p=some w:=by
 constructor
 ·intro h
  obtain ⟨p,w,rfl⟩:=(vo rows).2 kv h
  have:=Km (vo rows).1 _ h
  rw [q9] at this
  obtain ⟨w',e1,e2⟩:=Option.map_eq_some_iff.mp this
  cases e2
  exact ⟨p,w,rfl,e1⟩
 ·rintro ⟨p,w,rfl,h⟩
  have e:yB (dOf rows) (zV p)=some (.int w):=by rw [q9,h];rfl
  obtain ⟨kv,hk,e1⟩:=List.mem_map.mp (zaW e)
  have:=Km (vo rows).1 _ hk
  rw [e1,e] at this
  have e2:kv=(zV p,V.int w):=Prod.ext e1 (Option.some.inj this).symm
  rw [← e2];exact hk
theorem vU (a:Pl):z5 a a=false:=by
 unfold z5
 rw [if_pos rfl]
 exact decide_eq_false (by lia)
theorem Xg {a b c:Pl} (h1:z5 a b=true) (h2:z5 b c=true):z5 a c=true:=by
 unfold z5 at *
 by_cases e1:a.1=b.1
 ·rw [if_pos e1] at h1
  by_cases e2:b.1=c.1
  ·rw [if_pos e2] at h2
   rw [if_pos (e1.trans e2)]
   have h1:=of_decide_eq_true h1
   have h2:=of_decide_eq_true h2
   exact decide_eq_true (by lia)
  ·rw [if_neg e2] at h2
   rw [if_neg (by rw [e1];exact e2),e1]
   exact h2
 ·rw [if_neg e1] at h1
  have h1:=of_decide_eq_true h1
  by_cases e2:b.1=c.1
  ·rw [if_neg (by rw [← e2];exact e1),← e2]
   exact decide_eq_true h1
  ·rw [if_neg e2] at h2
   have h2:=of_decide_eq_true h2
   have h3:=List.lt_trans h1 h2
   rw [if_neg (fun z=>by rw [z] at h3;exact List.lt_irrefl _ h3)]
   exact decide_eq_true h3
def Rising (l:List Row):Prop:=l.Pairwise fun a b=>z5 a.1 b.1=true
def kq (rows out:List Row):Prop:=Rising out∧∀ p w,(p,w)∈out↔z7 rows p=some w∧w≠0
theorem Rising.nd {l:List Row} (h:Rising l):(l.map (·.1)).Nodup:=by
 unfold List.Nodup
 rw [List.pairwise_map]
 exact List.Pairwise.imp (fun {a b} h z=>by rw [z,vU] at h;cases h) h
theorem X0 {p:Pl}:∀ {l:List Row},(∀ r∈l,r.1≠p)→z7 l p=none
 | [],_=>rfl
 | r :: t,h=>by
  rw [z7,X0 fun r hr=>h r (List.mem_cons_of_mem _ hr),if_neg (h r List.mem_cons_self)];rfl
theorem Kn {p:Pl} {w:Int}:∀ {l:List Row},(l.map (·.1)).Nodup→(z7 l p=some w↔(p,w)∈l)
 | [],_=>by simp [z7]
 | r :: t,hn=>by
  rw [List.map_cons,List.nodup_cons] at hn
  have ih:=Kn (p:=p) (w:=w) hn.2
  by_cases e:r.1=p
  ·have z:z7 t p=none:=X0 fun q hq zz=>hn.1 (by rw [e,← zz];exact List.mem_map_of_mem hq)
   rw [z7,z,if_pos e]
   constructor
   ·intro h
    have:r.2=w:=by simpa using h
    rw [← e,← this];exact List.mem_cons_self
   ·intro h
    rcases List.mem_cons.mp h with h | h
    ·rw [← h];rfl
    ·exact absurd (List.mem_map_of_mem (f:=(·.1)) h) (by rw [← e];exact hn.1)
  ·rw [z7,if_neg e,Option.or_none,ih,List.mem_cons]
   constructor
   ·exact .inr
   ·rintro (h | h)
    ·exact absurd (by rw [← h]) e
    ·exact h
theorem YL:∀ {a b:List Row},Rising a→Rising b→(∀ x,x∈a↔x∈b)→a=b
 | [],[],_,_,_=>rfl
 | [],y :: _,_,_,h=>absurd ((h y).mpr List.mem_cons_self) (by simp)
 | x :: _,[],_,_,h=>absurd ((h x).mp List.mem_cons_self) (by simp)
 | x :: a,y :: b,ha,hb,h=>by
  unfold Rising at ha hb
  rw [List.pairwise_cons] at ha hb
  have e:x=y:=by
   rcases List.mem_cons.mp ((h x).mp List.mem_cons_self) with e | e
   ·exact e
   ·rcases List.mem_cons.mp ((h y).mpr List.mem_cons_self) with e' | e'
    ·exact e'.symm
    ·have:=Xg (ha.1 y e') (hb.1 x e)
     rw [vU] at this;cases this
  subst e
  have nx:x ∉ a:=fun z=>by have:=ha.1 x z;rw [vU] at this;cases this
  have ny:x ∉ b:=fun z=>by have:=hb.1 x z;rw [vU] at this;cases this
  rw [YL ha.2 hb.2 fun z=>?_]
  constructor
  ·intro hz
   rcases List.mem_cons.mp ((h z).mp (List.mem_cons_of_mem _ hz)) with e | e
   ·subst e;exact absurd hz nx
   ·exact e
  ·intro hz
   rcases List.mem_cons.mp ((h z).mpr (List.mem_cons_of_mem _ hz)) with e | e
   ·subst e;exact absurd hz ny
   ·exact e
theorem Q4 {rows a b:List Row} (ha:kq rows a) (hb:kq rows b):a=b :=
 YL ha.1 hb.1 fun x=>(ha.2 x.1 x.2).trans (hb.2 x.1 x.2).symm
theorem Zt {α:Type} [DecidableEq α]:∀ {a b:List α},a.Nodup→(∀ x∈a,x∈b)→a.length≤b.length
 | [],_,_,_=>Nat.zero_le _
 | x :: a,b,hn,h=>by
  rw [List.nodup_cons] at hn
  have hx:=h x List.mem_cons_self
  have:=Zt (a:=a) (b:=b.erase x) hn.2 fun y hy=>(List.mem_erase_of_ne fun z=>hn.1 (by rw [← z];exact hy)).mpr (h y (List.mem_cons_of_mem _ hy))
  rw [List.length_erase_of_mem hx] at this
  have:0 < b.length:=List.length_pos_of_mem hx
  rw [List.length_cons];lia
end L2
namespace L2
open PySem PySem.Spec PyProof.Rows
def zcR (K:W.Frag) (p q:Addr) (xs ys:List V):It:=⟨fun i H=>i < xs.length∧SqL K H p xs∧SqL K H q ys,fun i H x H'=>∃ T u v,x=.ref T∧H T=none∧H'=upd H T (.tup [u,v])∧xs[i]?=some u∧ys[i]?=some v,fun i H=>xs.length≤i∧SqL K H p xs∧SqL K H q ys⟩
def zdy (K:W.Frag) (ta:TA):TI:=fun σ H R=>ta σ H fun vs H1=>∃ p q xs ys,vs=[.ref p,.ref q]∧SqL K H1 p xs∧SqL K H1 q ys∧xs.length=ys.length∧R (zcR K p q xs ys) H1
section
variable {X:Cx}
end
section
variable {σ:St} {H:Hp} {nx:St→Hp→Prop} {B:V→St→Hp→(St→Hp→Prop)→Prop}
end
end L2
namespace L2
open PySem PySem.Spec PyProof.Rows
theorem kW:plainId "dict.update.loop"=true:=by decide +kernel
theorem X1:entryFor table "dict.update.loop"=some Builtin.«dict.update.loop»:=entryFor_of_fast (by kernel_rfl)
section
variable {X:Cx} {A:Around} {R:Result→Shared→Prop}
def jE (H:Hp) (v:V) (q:Row):Prop:=∃ r p,v=.ref r∧H r=some (.tup [.ref p,.int q.2])∧H p=some (.tup [.str q.1.1,.int q.1.2])
theorem K6 {pins:List (Addr × Obj)} {σ:St} {H:Hp} {s:Shared} {d b:Addr} {kvs:List (List Key × V)} {k:List Key} {v:V} {u:Value} {E:Value→Shared→Prop} {Q:Unit→Shared→Prop} (hu:A.units + 1 < cLine) (I:Inv X pins σ H s) (e:H d=some (.dT kvs)) (eb:H b=some (.tup (k.map kV))) (l:kvs.length < sizeLine) (rv:RelV v u)
  (h:∀ h' tk,Inv X pins σ (upd H d (.dT (yT kvs k v))) { s with heap:=h',toks:=tk }→Heap.SameBut d s.heap h'→Q () { s with heap:=h',toks:=tk }):wpAny (model X.prog X.w) A.in1 (dictSet d (.ref b) u) Q E s:=by
 obtain ⟨z,hd,xs,rel,dd⟩:=zbJ I.hok e
 have hz:xs.length≤sizeLine:=by rw [← Paired.length rel];exact z
 have hl:(yT kvs k v).length≤sizeLine:=by have:=xS kvs k v;lia
 refine wpAny_dictSet_heap (hsz:=hz) (tupleKind_room_in1 hu) (Yo I.hok eb) dd fun h' dd' hs=>h _ _ ?_ hs
 obtain ⟨q,es,ep,hq,h2,h3,h4,_,h5⟩:=dd'
 refine ZW I (by rw [e];exact True.intro) hs ⟨q,hq⟩ ⟨hl,hd,_,(rel.put k eb rv).keeps fun c ys ec=>?_,q,es,ep,hq,h2,h3,h4,h5⟩
 rw [zk (xF ec e (fun z=>nomatch z))]
 exact ec
theorem Q5 {pins:List (Addr × Obj)} {σ:St} {H:Hp} {d it l:Addr} {xs:List V} {rows:List Row} {res:Value} (hu:A.units + 1 < cLine) (hh:A.handled=none) (hd:H d=none) (hl:H l=some (.lst xs)) (hr:Paired (jE H) xs rows) (h63:rows.length≤1000) (dit:it≠d) (lit:l≠it) :
  ∀ (k i:Nat) (s:Shared),rows.length - i=k→i≤rows.length→Inv X pins σ (upd H d (.dT (dOf (rows.take i)))) s→s.heap.IsListIter it l i→(∀ u,ke X pins (upd H d u) it) →
  (∀ s',Inv X pins σ (upd H d (.dT (dOf rows))) s'→R (.ok (.ret res)) s') →
  codeAny (model X.prog X.w) A (.builtin "dict.update.loop" ⟨[.ref d,.ref it,rawInt i,res],[]⟩) R s:=by
 have lx:xs.length=rows.length:=Paired.length hr
 have S:∀ u:HO,Same H (upd H d u):=fun u=>isV (o:=u) d hd
 intro k
 induction k with
 | zero =>
  intro i s hk hi I st hf fin
  have e:i=rows.length:=by lia
  subst e
  refine codeAny_builtin X1 ?_
  rw [Around.under_plainId kW _]
  show wpAny _ A.in1 (pyNext (.ref it) >>= _) _ _ s
  obtain ⟨its,rv,p,hz⟩:=I.list (SqL.of (S _ _ _ hl))
  obtain ⟨f0,f1,f2,f3,f4,f5⟩:=hf (.dT (dOf (rows.take rows.length)))
  have hl2:=rv.length
  refine wpAny_bind (wpAny_pyNext_list_end hh st p.isList (by simp;lia) fun h' eb=>?_)
  have I1:=I.turned (t':=s.toks) (fun b o hb e=>eb b o hb e) f0 f1 f3 f4 f5
  rw [List.take_length] at I1
  show wpAny _ A.in1 (Builtin.Dict.addKeywords d [] >>= _) _ _ _
  exact wpAny_bind (wpAny_pure (wpAny_pure (fin _ I1)))
 | succ k ih =>
  intro i s hk hi I st hf fin
  have hlt:i < rows.length:=by lia
  refine codeAny_builtin X1 ?_
  rw [Around.under_plainId kW _]
  show wpAny _ A.in1 (pyNext (.ref it) >>= _) _ _ s
  obtain ⟨its,rv,p,hz⟩:=I.list (SqL.of (S _ _ _ hl))
  obtain ⟨f0,f1,f2,f3,f4,f5⟩:=hf (.dT (dOf (rows.take i)))
  have hx:xs[i]?=some xs[i]:=List.getElem?_eq_getElem (by lia)
  have hq:rows[i]?=some rows[i]:=List.getElem?_eq_getElem hlt
  obtain ⟨r,pl,e1,t1,u1⟩:=yL hr hx hq
  obtain ⟨u,hu',ru⟩:=rv.get hx
  rw [e1] at ru
  cases ru
  refine wpAny_bind (wpAny_pyNext_list_item st p.isList (x:=.ref r) (by simpa using hu') fun h' st' sb=>?_)
  have I1:=I.turned (t':=s.toks) (fun b o hb e=>(sb.2 b hb).trans e) f0 f1 f3 f4 f5
  obtain ⟨tis,tv,⟨o,ho,hc,n,hdt⟩,_⟩:=I1.tuple (SqT.of (S _ _ _ t1))
  cases tv with
  | cons r1 rr =>
   cases rr with
   | cons r2 rn =>
    cases rn
    cases r1
    obtain ⟨tk,rfl⟩:=r2
    refine wpAny_bind (wpAny_holding ?_)
    have T:({ s with heap:=h' }:Shared).TypeIs (.ref r) "tuple":=⟨o,ho,hc⟩
    refine wpAny_bind (wpAny_tryCatch ?_)
    unfold Builtin.Dict.pairItems
    refine wpAny_bind (wpAny_typeOf T ?_)
    rw [if_pos (by decide)]
    refine wpAny_bind ?_
    unfold seqItems?
    refine wpAny_bind (wpAny_load ho ?_)
    rw [hdt]
    refine wpAny_pure (wpAny_pure ?_)
    show wpAny _ _ (holding [.ref pl,.int rows[i].2 tk] (dictSet d (.ref pl) (.int rows[i].2 tk))) _ _ _
    refine wpAny_holding ?_
    have tk2:dOf (rows.take (i + 1))=yT (dOf (rows.take i)) (zV rows[i].1) (.int rows[i].2):=by rw [List.take_add_one,hq,← Za];rfl
    have l2:(dOf (rows.take i)).length < sizeLine:=by
     have h1:=vf (rows.take i)
     have h2:=List.length_take_le' i rows
     exact Nat.lt_of_le_of_lt (by lia:_≤1000) (by decide)
    refine K6 (k:=zV rows[i].1) (v:=.int rows[i].2) hu I1 zf (S _ _ _ u1) l2 ⟨tk,rfl⟩ fun h2 tk3 I2 sb2=>?_
    rw [ZU,← tk2] at I2
    refine wpAny_pure ⟨plainId_quiet kW _,ih (i + 1) _ (by lia) hlt I2 (st'.at fun o e=>(sb2.2 it dit).trans e) hf fin⟩
end
end L2
namespace L2
open PySem PySem.Spec PyProof.Rows
theorem Wy:typeLookup (.type "list") "keys"=pure none:=by rw [typeLookup_type,builtinLookup_eq_fast];kernel_rfl
section
variable {prog:Program} {w:World} {A:Around} {E:Value→Shared→Prop} {s:Shared} {a:Addr} {o:Obj} {xs:Array Value} {k:Nat}
theorem YM {Q:Option Value→Shared→Prop} (hx:s.heap.get? a=some o) (hc:o.cls=.type "list") (hdat:o.data=.seq xs k) (hd:o.dict=none) (hA:A.handled=none)
  (h:∀ h' tk,(∀ b ob,s.heap.get? b=some ob→h'.get? b=some ob)→Q none { s with heap:=h',toks:=tk }):wpAny (model prog w) A (getAttr? (.ref a) "keys") Q E s:=by
 obtain ⟨c,dct,dat,sl⟩:=o;simp only at hc hdat hd;subst hc hdat hd
 obtain ⟨hp,g,d,tk,os⟩:=s;have hT:∀ tk',(⟨hp,g,d,tk',os⟩:Shared).TypeIs (.ref a) "list":=fun _=>⟨_,hx,rfl⟩
 have f1:=sub_AttributeError;have f3:=F.slot_list_getattribute.lookup;have f4:=F.slot_list_getattribute.bind (.ref a);have f5:=am_list_getattr_none
 unfold getAttr? getAttrBy? getAttrBy
 repeat (any_goals (first | assumption | exact hT _ | ((with_reducible show wpAny _ _ (call (Value.builtin "list.__getattribute__") _ _) _ _ _);refine call_meets F.slot_list_getattribute (hT _) am_entry_list_getattribute (F.args_list_getattribute_2 _ _) (meets_getattribute_miss_list a xs k sl "keys" _ Wy (by decide +kernel) (by decide +kernel)) ⟨hx,hA,fun h' tk' e hx'=>?_⟩) | wp_step))
 obtain ⟨t',u',he⟩:=hx'.there;have kp:=hx'.keeps
 show wpAny _ _ (getattributeRaised _ _ _ _ _ _ _) _ _ _;unfold getattributeRaised
 repeat (any_goals (first | assumption | wp_step))
 all_goals exact h _ _ fun b ob e=>kp b ob e
end
theorem hu3 {k:Nat} {A:Around} (r:Room k A):A.units + 3 < cLine:=by have:=za4 r;lia
abbrev ZG:RC:=fun vs H Q=>∃ (a:Addr) (xs:List V) (rows:List Row),vs=[.ref a]∧H a=some (.lst xs)∧Paired (jE H) xs rows∧rows.length≤1000∧∀ p,H p=none→Q (.ref p) (upd H p (.dT (dOf rows)))
section
variable {X:Cx}
theorem wY (hc:X.calm=true) (hu:X.A.units + 3 < cLine):je X (.type "dict") ZG:=by
 intro pins s σ H vs us Q I r h
 obtain ⟨a,xs,rows,rfl,ha,hr,hl,q⟩:=h
 obtain ⟨u,rfl,ru⟩:=qP r
 cases ru
 have hh:X.A.handled=none:=I.ok.hd hc
 refine callType_codes (Q₁:=fun obj s₁=>obj=.ref s.heap.objs.size∧s₁={ s with heap:=s.heap.push { cls:=.type "dict",data:=.dict #[] } }) F.kt_called_dict (F.kt_typeCall_dict_1 _) F.entry_dict_init (kt_code_dict_new _ ⟨rfl,rfl⟩) ?_;rintro obj s₁ ⟨rfl,rfl⟩
 have T0:({ s with heap:=s.heap.push { cls:=.type "dict",data:=.dict #[] } }:Shared).TypeIs (.ref s.heap.objs.size) "dict":=⟨_,Heap.get?_push_size _ rfl,rfl⟩
 refine ⟨T0,F.args_dict_init_2 _ _,?_⟩;unfold Builtin.«dict.__init__»;refine wpAny_bind ?_;unfold Builtin.Dict.selfAndRest
 refine wpAny_bind (wpAny_notOrdered_dict T0 ?_);show wpAny _ _ (pure (s.heap.objs.size,[Value.ref a])) _ _ _;refine wpAny_pure ?_
 show wpAny _ _ (Builtin.Dict.updateFrom "dict.__init__" s.heap.objs.size (.ref a) [] .none) _ _ _;unfold Builtin.Dict.updateFrom
 have hn:H s.heap.objs.size=none:=I.hok.fresh (Nat.le_refl _)
 have S:∀ u:HO,Same H (upd H s.heap.objs.size u):=fun u=>isV (o:=u) _ hn
 have I1:Inv X pins σ (upd H s.heap.objs.size (.dT [])) { s with heap:=s.heap.push { cls:=.type "dict",data:=.dict #[] } } :=
  I.laid (a:=s.heap.objs.size) (o:=.dT []) (t':=s.toks) (fun b o z=>Heap.get?_push_of_some _ z) (Nat.le_refl _) (Vd s.heap I.big)
 obtain ⟨its,rv,pl,_⟩:=I1.list (SqL.of (S _ _ _ ha))
 obtain ⟨o,n,ho,oc,od,odat⟩:=id pl
 have T1:({ s with heap:=s.heap.push { cls:=.type "dict",data:=.dict #[] } }:Shared).TypeIs (.ref a) "list":=⟨o,ho,oc⟩
 refine wpAny_bind (wpAny_typeOf T1 ?_);rw [if_pos (by decide)]
 refine wpAny_bind (YM ho oc odat od (by exact hh) fun h2 tk2 k2=>?_);rw [if_pos (show (none:Option Value).isNone=true from rfl)]
 refine wpAny_bind (wpAny_rule ?_)
 have I2:Inv X pins σ (upd H s.heap.objs.size (.dT [])) { s with heap:=h2,toks:=tk2 }:=I1.kept k2
 obtain ⟨its2,rv2,pl2,_⟩:=I2.list (SqL.of (S _ _ _ ha))
 refine wpAny_bind (wpAny_pyIter_list pl2.isList ?_)
 have I3:Inv X pins σ (upd H s.heap.objs.size (.dT (dOf (rows.take 0)))) { s with heap:=h2.push { cls:=.type "list_iterator",data:=.fields #[.ref a,.int 0 0] },toks:=tk2 }:=I2.kept (t':=tk2) fun b o e=>Heap.get?_push_of_some _ e
 refine wpAny_pure ⟨plainId_quiet kW _,?_⟩
 have lt:s.heap.objs.size < h2.objs.size:=Heap.lt_size (k2 s.heap.objs.size _ (Heap.get?_push_size _ rfl))
 have la:a < h2.objs.size:=by obtain ⟨_,_,z,_⟩:=pl2;exact Heap.lt_size z
 refine Q5 (A:=X.A.in1) (H:=H) (d:=s.heap.objs.size) (it:=h2.objs.size) (l:=a) (xs:=xs) (rows:=rows) (res:=.none) ?_ hh hn ha hr hl (Nat.ne_of_gt lt) (Nat.ne_of_lt la) rows.length 0 _ (by lia) (Nat.zero_le _) I3 ⟨_,Heap.get?_push_size _ rfl,rfl,rfl⟩ (fun u=>?_) fun s' I'=>⟨rfl,.ref s.heap.objs.size,_,I',rfl,q _ hn⟩
 ·have e:X.A.in1.units=X.A.units + 1:=rfl
  lia
 ·refine I2.fpOk (Nat.le_refl _) ?_
  rw [zk (Nat.ne_of_gt lt)]
  have:=I2.hok.fresh (Nat.le_refl h2.objs.size)
  rw [zk (Nat.ne_of_gt lt)] at this
  exact this
end
end L2
namespace L2
open PySem PySem.Spec PyProof.Rows
section
variable {X:Cx} {k:Nat} {f C:Addr} {fd:FuncData} {ps:List Str} {sp:Sp} {m:Str} {pos apos:Pos} {e o:Expr} {es:List Expr} {ta:TE} {t:TA}
def Wz (C:Addr) (m:Str) (sp:Sp) (ta:TE) (t:TA) (EX:EXK):TE:=fun σ H Q=>ta σ H fun x H1=>∃ a dx fs,x=.ref a∧H1 a=some (.ins C dx fs)∧fs.lookup m=none ∧
 t σ H1 fun vs H2=>sp (x :: (vs ++ [])) H2 Q fun cls _ H3=>EX cls σ H3
theorem Q6 {pl:Sem Bool} (he:PE X.nox o ta) (c:Cls X.K C) (hm:KK X.K C m f) (F:FnOk X.prog X.w X.K X.mg X.base (CX1 X.prog X.w) k f fd ps sp) (hr:Room k X.A) (hb:Binds X.K fd ps []) (ha:PA X.nox (e :: es) t)
  (hst:starEach (e :: es) X.env=(false,eval e X.env) :: starEach es X.env:=by rfl) (hpl:(backTo pos (starEach es X.env)).any (·.1)=false:=by rfl)
  (ht:eval (.Call (.Attribute o m apos) (e :: es) [] pos) X.env=(do
   let ov ← eval o X.env
   standAt apos.atName
   let (f,first) ← holding [ov] (getMethod ov m pl)
   callWith pos f first (backTo pos (starEach (e :: es) X.env)) (backToKw pos (keywordEach [] X.env))):=by rfl) :
  PEX X (.Call (.Attribute o m apos) (e :: es) [] pos) (Wz C m sp ta t):=by
 intro pins s σ H Q EX I h
 refine W.methodCall_KW (pl:=pl) (wpAny_mono (he pins s σ H _ (I.wish _) h) (fun u s1 ⟨x,H1,I1',rx,a,dx,fs,ex,ea,l,q⟩=>?_) fun _ _ z=>False.elim z) ht
 subst ex
 obtain rfl:u=Value.ref a:=rx
 have I1:=I1'.unwish
 refine Yj I1 ea c hm l ?_
 refine W.callWith_K (first:=[.ref a]) (h₀:=X.base) I.ok.mod.kin hm.kp (wpAny_mono (ha pos pins s1 σ H1 _ (I1.wish _) q) (fun us s2 ⟨vs,H2,I2',r,q2⟩=>⟨I2'.kIn,?_⟩) fun _ _ z=>False.elim z) hst hpl
 have I2:=I2'.unwish
 have r2:Vals (V.ref a :: (vs ++ [])) (Value.ref a :: (us ++ [])):=.cons rfl (r.append .nil)
 have hl:((Value.ref a :: us) ++ []).length=ps.length:=by
  have e:=r2.length
  rw [F.len _ _ _ _ q2] at e
  exact e.symm
 refine wpAny_call (codeAny_mono (F.run X.A X.stack s2 H2 ⟨.ref a :: us,[]⟩ ((.ref a :: us) ++ []) (.ref a :: (vs ++ [])) _ _ hr I2.env0 (hb s2 (.ref a :: us) I2.kIn hl) r2 q2) fun r s' hq=>?_)
 cases r with
 | error ev =>
  obtain ⟨e,cls,H',rfl,os,bare,un,hok,xf,hE⟩:=hq
  exact ⟨e,cls,σ,s2,H2,H',rfl,I2,I2.call' (ch:=[]) os un hok bare (fun b z=>nomatch z),xf,hE⟩
 | ok fl =>
  cases fl with
  | ret u=>exact I2.after hq
  | next=>exact False.elim hq
  | brk=>exact False.elim hq
  | cont=>exact False.elim hq
end
def zdz (K:W.Frag) (tb:EXK→TS) (C1:Addr) (th1:TS):TS:=fun D σ H=>tb (fun cls σ1 H1=>∃ C,cls=.ref C∧W.exmOne K (.ref C) (.ref C1)=some true∧th1 D σ1 H1) D σ H
def WA (K:W.Frag) (tb:EXK→TS) (C1:Addr) (th1:TS) (C2:Addr) (th2:TS):TS:=fun D σ H=>tb (fun cls σ1 H1=>∃ C,cls=.ref C ∧
 ((W.exmOne K (.ref C) (.ref C1)=some true∧th1 D σ1 H1)∨(W.exmOne K (.ref C) (.ref C1)=some false∧W.exmOne K (.ref C) (.ref C2)=some true∧th2 D σ1 H1))) D σ H
section
variable {X:Cx} {st b₀ b₁:Stmt} {suite suite1:List Stmt} {tb:EXK→TS} {th1 th2:TS} {c1 c2:Str} {C1 C2:Addr} {np hpos np2 hpos2 pos:Pos}
theorem Q7 (hst:X.stack=X.env :: X.outer∧X.env.frame=some X.env.locals) (hex:X.ex=[]) (hb:PSX X st tb) (hg1:Gl X c1) (hm1:X.mg c1=some (.ref C1)) (hg2:Gl X c2) (hm2:X.mg c2=some (.ref C2))
  (hs1:∀ e,PSs (X.sub e) (b₀ :: suite) th1) (hs2:∀ e,PSs (X.sub e) (b₁ :: suite1) th2) (hdb1:(c1 == ("__debug__":Str))=false:=by decide) (hdb2:(c2 == ("__debug__":Str))=false:=by decide) :
  PS X (.Try [st] [.ExceptHandler (some (.Name c1 np)) none (b₀ :: suite) hpos,.ExceptHandler (some (.Name c2 np2)) none (b₁ :: suite1) hpos2] [] [] pos) (WA X.K tb C1 th1 C2 th2):=by
 intro pins s σ H D I h
 refine wpAny_Try_except (wpAny_execs_cons (wpAny_mono (hb pins s σ H D _ I h) (fun f s1 q=>?_) fun ev s1 q=>?_))
 ·cases f with
  | next=>exact wpAny_execs_nil (wpAny_execs_nil q)
  | ret v=>exact q
  | brk=>exact q
  | cont=>exact q
 obtain ⟨e,cls,σ1,s0,H0,H1,rfl,I0,I1,xf,C,rfl,hth⟩:=q
 obtain ⟨oe,vs,a0,T,oT,ts,h1,h2,h3,h4,h5,h6,h7,h8,h9,h10,h11,h12⟩:=xf
 have fr:s1.heap.FunFrames (W.hideAll s1.heap (frs X.stack ++ [e,T])) (X.env :: X.outer):=by
  have q:=W.funFrames_hide (as:=frs X.stack ++ [e,T]) I1.stack fun env he a ha=>List.mem_append_left _ (List.mem_filterMap.mpr ⟨env,he,ha⟩)
  rw [hst.1] at q ⊢
  exact q
 have two:∀ b∈[e,T],s0.heap.get? b=none∧H1 b=none:=fun b z=>by
  have z':b=e∨b=T:=by simpa using z
  rcases z' with rfl | rfl
  ·exact ⟨h9,h11⟩
  ·exact ⟨h10,h12⟩
 have hcs:∀ b∈[e,T],H1 b=none∧X.s₀.heap.get? b=none:=fun b z=>⟨(two b z).2,kR (I0.there0 hex) (two b z).1⟩
 have hcp:∀ b∈[e,T],∀ p∈X.pn ++ pins,p.1≠b:=fun b z p hp q=>by
  have:=(I0.pin p hp).1
  rw [q,(two b z).1] at this;cases this
 refine wpAny_looks_onW (base:=W.hideAll s1.heap (frs X.stack ++ [e,T])) (a0:=a0) (cls:=.ref C) (by rw [I1.ok.frames,hst.1]) hst.2
  ⟨fun b o q=>W.of_hideAll _ q,W.hideAll_none _ (List.mem_append_right _ (by simp)),fr,oe,vs,T,oT,ts,h1,h2,h3,h4,W.hideAll_none _ (List.mem_append_right _ (by simp)),h5,h6,h7,h8⟩ fun g4 held4 sm4=>?_
 refine wpAny_landsW held4 fun g5 fly5 sm5=>?_
 have hB:∀ {g:Heap},(W.hideAll s1.heap (frs X.stack ++ [e,T])).StaysIn g→∀ b o,s1.heap.get? b=some o→b ∉ frs X.stack→b ∉ [e,T]→g.get? b=some o :=
  fun {g} k b o q n1 n2=>k b o (W.hideAll_get _ q fun z=>(List.mem_append.mp z).elim n1 n2)
 have I5:Inv X pins σ1 H1 { s1 with heap:=g5 }:=I1.land hex hcs hcp (hB fly5.1) (sm4.trans sm5)
 have K5:=I5.kIn
 have ty5:W.Looks (model X.prog X.w) g5 (typeOf (.ref e)) (.ref C):=by
  obtain ⟨o,p1,p2⟩:=fly5.there
  exact p2 ▸ (W.Looks.ld p1).andThen .now
 have run:∀ {b₂:Stmt} {su:List Stmt} {th:TS} {hp:Pos} {R:Result→Shared→Prop},(∀ e,PSs (X.sub e) (b₂ :: su) th)→th D σ1 H1→(∀ f s',SP X pins D f s'→R (.ok f) s') →
   codeAny (model X.prog X.w) (X.A.mark (some (.ref e))) (.handlers (.ref e) [.ExceptHandler none none (b₂ :: su) hp] X.env) R { s1 with heap:=g5 }:=fun {b₂ su th hp R} hs hth hR=>by
  refine codeAny_handlers_suite (lands_againW fly5 fun g6 fly6 sm6=>?_)
  have I6:Inv X pins σ1 H1 { s1 with heap:=g6 }:=I1.land hex hcs hcp (hB fly6.1) ((sm4.trans sm5).trans sm6)
  refine wpAny_mono (hs e pins _ σ1 H1 D I6.toSub hth) (fun f s9 q=>hR f s9 ?_) fun _ _ z=>False.elim z
  cases f with
  | next=>obtain ⟨σ9,H9,J,z⟩:=q;exact ⟨σ9,H9,Inv.ofSub (J:=I) J,z⟩
  | brk=>obtain ⟨σ9,H9,J,z⟩:=q;exact ⟨σ9,H9,Inv.ofSub (J:=I) J,z⟩
  | cont=>obtain ⟨σ9,H9,J,z⟩:=q;exact ⟨σ9,H9,Inv.ofSub (J:=I) J,z⟩
  | ret u=>obtain ⟨v,σ9,H9,J,r,z⟩:=q;exact ⟨v,σ9,H9,Inv.ofSub (J:=I) J,r,z⟩
 refine wpAny_handleBy_cons (codeAny_handlers_test ?_) (by intro q;cases q)
 refine js (X:=X.sub e) (I5.toSub (e:=e)) hg1 hm1 ?_ hdb1
 rcases hth with ⟨hx,ht⟩ | ⟨hx,hx2,ht⟩
 ·refine (W.exm_one K5 ty5 hx).here ?_
  exact run hs1 ht fun f s' q=>q
 ·refine (W.exm_one K5 ty5 hx).here ?_
  show wpAny _ _ (handleBy (.ref e) X.env _) _ _ _
  refine wpAny_handleBy_cons (codeAny_handlers_test ?_) (by intro q;cases q)
  refine js (X:=X.sub e) (I5.toSub (e:=e)) hg2 hm2 ?_ hdb2
  refine (W.exm_one K5 ty5 hx2).here ?_
  exact run hs2 ht fun f s' q=>q
end
structure RoomH (k:Nat) (A:Around):Prop where
 dp:A.depth + 3 * k + 5 < recursionLimit
 un:A.units + 16 * k + 200 < cLine
theorem zbN {k:Nat} {A:Around} {v:Option Value} (r:Room k A):RoomH k (A.mark v):=⟨r.dp,r.un⟩
theorem RoomH.deeper {k:Nat} {A:Around} (r:RoomH (k + 1) A) (env:Env):RoomH k (A.deeper env) :=
 ⟨by have:=r.dp;show A.depth + 1 + 3 * k + 5 < _;lia,by have:=r.un;show A.units + 3 + 16 * k + 200 < _;lia⟩
theorem RoomH.mono {j k:Nat} {A:Around} (r:RoomH k A) (h:j≤k):RoomH j A:=⟨by have:=r.dp;lia,by have:=r.un;lia⟩
structure FnOkH (P:Program) (w:World) (K:W.Frag) (mg:Str→Option Value) (base:Heap) (k:Nat) (f:Addr) (fd:FuncData) (ps:List Str) (sp:Sp):Prop where
 len:∀ vs H Q E,sp vs H Q E→vs.length=ps.length
 run:∀ (A:Around) (outer:List Env) (s:Shared) (H:Hp) (args:Args) (us:List Value) (vs:List V) (Q:VK) (E:XK),RoomH k A→Env0 P w K mg base A outer s H→BindsTo s fd args (ps.zip us)→Vals vs us→sp vs H Q E →
  codeAny (model P w) A (.call (.ref f) args) (CR CX0 outer P w H s Q E) s
theorem FnOkH.toFn {P:Program} {w:World} {K:W.Frag} {mg:Str→Option Value} {base:Heap} {CX:CXT} {k:Nat} {f:Addr} {fd:FuncData} {ps:List Str} {sp:Sp} (F:FnOkH P w K mg base k f fd ps sp):FnOk P w K mg base CX k f fd ps sp :=
 ⟨F.len,fun A outer s H args us vs Q E hr he hb hv hs=>codeAny_mono (F.run A outer s H args us vs Q E ⟨hr.dp,hr.un⟩ he hb hv hs) fun r s' q=>by
  cases r with
  | error e=>exact False.elim q
  | ok fl=>cases fl <;> exact q⟩
abbrev cxH (P:Program) (w:World) (K:W.Frag) (mg:Str→Option Value) (base:Heap) (N:List Str) (qual:Str) (scope:Scope) (f:Addr) (cd:Value) (A:Around) (outer:List Env) (s:Shared) (H:Hp):Cx :=
 { qb CX0 P w K mg base N qual scope f cd A outer s H E0 with calm:=false,xe:=fun _ _=>False }
theorem zcc {P:Program} {w:World} {K:W.Frag} {mg:Str→Option Value} {base:Heap} {k:Nat} {f:Addr} {name qual:Str} {params:Arguments} {body:List Stmt} {scope:Scope} {dV kV doc pm cdv ct oc:Value} {an od:Option Addr}
  {osl:Array (Option Value)} {N ps:List Str} {sp:Sp} (lk:K.lookup f=some ⟨oc,od,.func (W.fnOf name qual params body scope dV kV doc pm an cdv ct),osl⟩) (hcd:W.codeIn K cdv qual=true) (S:zN N ps scope)
  (len:∀ vs H Q E,sp vs H Q E→vs.length=ps.length)
  (hbody:∀ (A:Around) (outer:List Env) (s:Shared) (H:Hp) (vs:List V) (Q:VK) (E:XK),RoomH k (A.deeper (envOfC qual scope s.heap.objs.size f cdv))→sp vs H Q E →
   ∃ t,PSs (cxH P w K mg base N qual scope f cdv A outer s H) body t∧t { nx:=fun _ H'=>Q .non H',rt:=Q } (start N vs) H) :
  FnOkH P w K mg base (k + 1) f (W.fnOf name qual params body scope dV kV doc pm an cdv ct) ps sp:=by
 refine ⟨len,fun A outer s H args us vs Q E hr e0 hb r hsp=>?_⟩
 have hl:=len _ _ _ _ hsp
 have KX:K.In s.heap:=e0.mod.kin.keeps fun b o e=>(e0.bs b o e).1
 have lim:s.heap.NoLimit:=e0.mod.nolimit.keeps fun b o e=>(e0.bs b o e).1
 have hkind:∀ y∈ps.zip us,scope.names.lookup y.1=some .local∨(scope.names.lookup y.1=some .cell∧((cellsFrom (s.heap.objs.size + 1) scope.names []).lookup y.1).isSome=true):=fun ⟨n,v⟩ hy=>by
  rcases S.par n (List.of_mem_zip hy).1 with q | q
  ·exact .inl q
  ·exact .inr ⟨q,W.cellsFrom_some _ _ _ (.inl q)⟩
 refine codeAny_call_function (by have:=hr.dp;lia) (KX _ _ lk) rfl S.co S.gen rfl (W.codeRec_of KX hcd) (hb _ _ _ _ ?_)
 refine wpAny_newFunctionEnv_cells S.kind hkind fun env he s1 x=>?_
 subst he
 refine ⟨lim.keeps x.toInCall.keep,codeAny_func ?_⟩
 obtain ⟨t,ht,hq⟩:=hbody A outer s H vs Q E (hr.deeper _) hsp
 have e1:Env0 P w K mg base { A with handled:=none } outer s H:=⟨e0.frames,e0.mod,e0.bs,e0.bsz,e0.funs,e0.frf,e0.hok,e0.bare⟩
 have I0:Inv (qb CX0 P w K mg base N qual scope f cdv { A with handled:=none } outer s H E0) [] (start N vs) H s1:=XG S rfl e1 hl r x
 have I:Inv (cxH P w K mg base N qual scope f cdv A outer s H) [] (start N vs) H s1 :=
  ⟨⟨I0.ok.mod,I0.ok.kind,I0.ok.glob,I0.ok.blt,I0.ok.above,I0.ok.inj,I0.ok.has,I0.ok.cab,(fun z=>nomatch z),Around.frames_deeper e0.frames,I0.ok.stk,I0.ok.exf,I0.ok.bs,I0.ok.bsz,I0.ok.noex,I0.ok.exfs,I0.ok.funs,I0.ok.frf⟩,I0.os,I0.bare,I0.base,I0.loc,I0.cell,I0.free,I0.freeC,I0.pin,I0.hok,I0.len⟩
 refine wpAny_mono (ht [] s1 (start N vs) H _ I hq) (fun fl s' hs=>?_) fun e s' hs=>False.elim hs
 have fin:∀ {σ':St} {H':Hp} {v:V} {u:Value},Inv (cxH P w K mg base N qual scope f cdv A outer s H) [] σ' H' s'→RelV v u→Q v H'→CE outer P w H s Q u s' :=
  fun {σ' H' v u} J rv q=>⟨v,H',J.os,J.bare,J.base,J.hok,rv,q⟩
 cases fl with
 | ret u =>
  obtain ⟨v,σ',H',J,rv,q⟩:=hs
  exact fin J rv q
 | next =>
  obtain ⟨σ',H',J,q⟩:=hs
  exact fin (v:=V.non) (u:=Value.none) J rfl q
 | brk =>
  obtain ⟨_,_,_,q⟩:=hs
  exact False.elim q
 | cont =>
  obtain ⟨_,_,_,q⟩:=hs
  exact False.elim q
theorem Fun.okH {P:Program} {w:World} {K:W.Frag} {mg:Str→Option Value} {base:Heap} {x qual:Str} {st:Stmt} {f:Addr} {fd:FuncData} {N ps:List Str} {k:Nat} {sp:Sp} (F:Fun K x qual st f fd) (S:zN N ps (zj st)) (len:∀ vs H Q E,sp vs H Q E→vs.length=ps.length)
  (hbody:∀ (cdv:Value) (A:Around) (outer:List Env) (s:Shared) (H:Hp) (vs:List V) (Q:VK) (E:XK),RoomH k (A.deeper (envOfC qual (zj st) s.heap.objs.size f cdv))→sp vs H Q E →
   ∃ t,PSs (cxH P w K mg base N qual (zj st) f cdv A outer s H) (zM st) t∧t { nx:=fun _ H'=>Q .non H',rt:=Q } (start N vs) H):FnOkH P w K mg base (k + 1) f fd ps sp:=by
 obtain ⟨oc,od,kV,doc,pm,an,cdv,ct,osl,rfl,lk,hcd⟩:=F.ex
 exact zcc lk hcd S len fun A outer s H vs Q E hr hsp=>hbody cdv A outer s H vs Q E hr hsp
section
variable {X:Cx} {k:Nat} {f:Addr} {fd:FuncData} {ps:List Str} {sp:Sp} {x:Str} {p pos:Pos} {e:Expr} {es:List Expr} {t:TA}
theorem Vz (F:FnOkH X.prog X.w X.K X.mg X.base k f fd ps sp) (hr:RoomH k X.A) (hg:Gl X x) (hm:X.mg x=some (.ref f)) (hk:W.keepIn X.K (.ref f)=true) (hb:Binds X.K fd ps [])
  (ha:PA X (e :: es) t) (hdb:(x == ("__debug__":Str))=false:=by decide) (he:starEach (e :: es) X.env=(false,eval e X.env) :: starEach es X.env:=by rfl) (hpl:(backTo pos (starEach es X.env)).any (·.1)=false:=by rfl) :
  PE X (.Call (.Name x p) (e :: es) [] pos) (zm sp [] E0 t):=by
 intro pins s σ H Q I h
 refine wpAny_Call_Name_kw (js I hg hm ?_ hdb)
 refine W.callWith_K (h₀:=X.base) I.ok.mod.kin hk (thn (ha pos pins s σ H _ I h) fun us s1 ⟨vs,H1,I1,r,q⟩=>⟨I1.kIn,?_⟩) he hpl
 have r2:Vals (vs ++ []) (us ++ []):=r.append .nil
 have hl:(us ++ []).length=ps.length:=by rw [← r2.length];exact F.len _ _ _ _ q
 refine wpAny_call (codeAny_mono (F.run X.A X.stack s1 H1 ⟨us,[]⟩ (us ++ []) (vs ++ []) Q E0 hr I1.env0 (hb s1 us I1.kIn hl) r2 q) fun r s' hq=>?_)
 cases r with
 | error e=>exact False.elim hq
 | ok fl =>
  cases fl with
  | ret u=>exact I1.after hq
  | next=>exact False.elim hq
  | brk=>exact False.elim hq
  | cont=>exact False.elim hq
end
end L2
namespace L2
open PySem
def rk (kvs:List (Key × V)) (ps:List V):Except Er Int:=match wz kvs ps [] with
 | .ok [i]=>.ok i
 | .ok _=>.error .stuck
 | .error e=>.error e
theorem Good.rk {kvs:List (Key × V)} {ps:List V} {r:Except Er Int} (h:Good kvs ps r):L2.rk kvs ps=r:=by
 unfold L2.rk
 rw [h.1 []]
 cases r <;> rfl
theorem Q8 {kvs:List (Key × V)} (hs:xy kvs) {v:V} (hv:jC v) {st st':List Int} (h:∀ x∈st,inW x=true) (e:xT kvs st v=.ok st'):∀ x∈st',inW x=true:=by
 unfold xT at e
 split at e
 ·split at e
  ·rename_i w b a r hr hj
   unfold yR at e
   by_cases c1:qh w∧b=0
   ·rw [if_pos c1] at e;cases e
   ·rw [if_neg c1] at e
    by_cases c2:inW (yD w a b)=true
    ·rw [if_pos c2] at e
     cases e
     intro x hx
     rcases List.mem_append.mp hx with hx | hx
     ·refine h x (List.mem_reverse.mp ?_)
      rw [hr]
      exact List.mem_cons_of_mem _ (List.mem_cons_of_mem _ (List.mem_reverse.mp hx))
     ·rw [List.mem_singleton.mp hx];exact c2
    ·rw [if_neg c2] at e;cases e
  ·cases e
 ·cases e
  intro x hx
  rcases List.mem_append.mp hx with hx | hx
  ·exact h x hx
  ·rw [List.mem_singleton.mp hx];exact YB hs hv
theorem Ko {kvs:List (Key × V)} (hs:xy kvs):∀ {ps:List V} {st st':List Int},(∀ v∈ps,jC v)→(∀ x∈st,inW x=true)→wz kvs ps st=.ok st'→∀ x∈st',inW x=true
 | [],st,st',_,h,e=>by cases e;exact h
 | v :: r,st,st',hp,h,e=>by
  unfold wz at e
  split at e
  ·rename_i st1 e1
   exact Ko hs (fun v hv=>hp v (List.mem_cons_of_mem _ hv)) (Q8 hs (hp v List.mem_cons_self) h e1) e
  ·cases e
theorem Q9 {kvs:List (Key × V)} (hs:xy kvs) {ps:List V} (hp:∀ v∈ps,jC v) {i:Int} (e:rk kvs ps=.ok i):inW i=true:=by
 unfold rk at e
 split at e
 ·rename_i j hj
  cases e
  exact Ko hs hp (fun _ z=>absurd z List.not_mem_nil) hj i List.mem_cons_self
 ·cases e
 ·cases e
def TermOk (e:List V):Prop:=(∀ kvs,∃ r,Good kvs e r)∧(∀ v∈e,jC v)∧e.length≤1000
theorem TermOk.good {e:List V} (h:TermOk e) (kvs:List (Key × V)):Good kvs e (rk kvs e):=by
 obtain ⟨r,g⟩:=h.1 kvs
 rw [g.rk];exact g
mutual
inductive Rw where
 | take (sh:Str) (e:List V) (sl:Str)
 | give (sh:Str) (e f:List V)
 | lt (sl:Str) (e:List V)
 | say (e:List V)
 | off (e:List V)
 | iff (e:List V) (a b:Rws)
inductive Rws where
 | nil
 | cons (r:Rw) (rs:Rws)
end
set_option genSizeOf false in
set_option genInjectivity false in
structure Sta where
 sl:List (Key × V)
 wo:List Row
 sa:List Int
inductive Res where
 | go (s:Sta)
 | off
 | er (e:Er)
mutual
def goR:Rw→Sta→Res
 | .take sh e sl,s=>match rk s.sl e with
  | .ok n=>.go { s with sl:=yT s.sl (.inr sl) (.int ((z7 s.wo (sh,n)).getD 0)) }
  | .error x=>.er x
 | .give sh e f,s=>match rk s.sl e with
  | .ok n=>(match rk s.sl f with
   | .ok w=>.go { s with wo:=s.wo ++ [((sh,n),w)] }
   | .error x=>.er x)
  | .error x=>.er x
 | .lt sl e,s=>match rk s.sl e with
  | .ok n=>.go { s with sl:=yT s.sl (.inr sl) (.int n) }
  | .error x=>.er x
 | .say e,s=>match rk s.sl e with
  | .ok n=>.go { s with sa:=s.sa ++ [n] }
  | .error x=>.er x
 | .off e,s=>match rk s.sl e with
  | .ok n=>if n=0 then .go s else .off
  | .error x=>.er x
 | .iff e a b,s=>match rk s.sl e with
  | .ok n=>if n=0 then yM b s else yM a s
  | .error x=>.er x
def yM:Rws→Sta→Res
 | .nil,s=>.go s
 | .cons r rs,s=>match goR r s with
  | .go s'=>yM rs s'
  | x=>x
end
mutual
def RwAt (F:Addr→Prop) (H:Hp) (v:V):Rw→Prop
 | .take sh e sl=>∃ r te,v=.ref r∧F r∧F te∧H r=some (.tup [.str "take",.str sh,.ref te,.str sl])∧H te=some (.tup e)
 | .give sh e f=>∃ r te tf,v=.ref r∧F r∧F te∧F tf∧H r=some (.tup [.str "give",.str sh,.ref te,.ref tf])∧H te=some (.tup e)∧H tf=some (.tup f)
 | .lt sl e=>∃ r te,v=.ref r∧F r∧F te∧H r=some (.tup [.str "let",.str sl,.ref te])∧H te=some (.tup e)
 | .say e=>∃ r te,v=.ref r∧F r∧F te∧H r=some (.tup [.str "say",.ref te])∧H te=some (.tup e)
 | .off e=>∃ r te,v=.ref r∧F r∧F te∧H r=some (.tup [.str "off",.ref te])∧H te=some (.tup e)
 | .iff e a b=>∃ r te la lb xs ys,v=.ref r∧F r∧F te∧F la∧F lb∧H r=some (.tup [.str "if",.ref te,.ref la,.ref lb])∧H te=some (.tup e)∧H la=some (.lst xs)∧RwsAt F H xs a∧H lb=some (.lst ys)∧RwsAt F H ys b
def RwsAt (F:Addr→Prop) (H:Hp) (vs:List V):Rws→Prop
 | .nil=>vs=[]
 | .cons r rs=>∃ v ws,vs=v :: ws∧RwAt F H v r∧RwsAt F H ws rs
end
mutual
theorem RwAt.to_ {F G:Addr→Prop} {H H':Hp} (g:∀ b o,F b→H b=some o→G b) (s:∀ b o,F b→H b=some o→H' b=some o):∀ {v:V} (r:Rw),RwAt F H v r→RwAt G H' v r
 | v,.take sh e sl,h=>by
  unfold RwAt at h ⊢
  obtain ⟨r,te,e1,f1,f2,e2,e3⟩:=h
  exact ⟨r,te,e1,g _ _ f1 e2,g _ _ f2 e3,s _ _ f1 e2,s _ _ f2 e3⟩
 | v,.give sh e f,h=>by
  unfold RwAt at h ⊢
  obtain ⟨r,te,tf,e1,f1,f2,f3,e2,e3,e4⟩:=h
  exact ⟨r,te,tf,e1,g _ _ f1 e2,g _ _ f2 e3,g _ _ f3 e4,s _ _ f1 e2,s _ _ f2 e3,s _ _ f3 e4⟩
 | v,.lt sl e,h=>by
  unfold RwAt at h ⊢
  obtain ⟨r,te,e1,f1,f2,e2,e3⟩:=h
  exact ⟨r,te,e1,g _ _ f1 e2,g _ _ f2 e3,s _ _ f1 e2,s _ _ f2 e3⟩
 | v,.say e,h=>by
  unfold RwAt at h ⊢
  obtain ⟨r,te,e1,f1,f2,e2,e3⟩:=h
  exact ⟨r,te,e1,g _ _ f1 e2,g _ _ f2 e3,s _ _ f1 e2,s _ _ f2 e3⟩
 | v,.off e,h=>by
  unfold RwAt at h ⊢
  obtain ⟨r,te,e1,f1,f2,e2,e3⟩:=h
  exact ⟨r,te,e1,g _ _ f1 e2,g _ _ f2 e3,s _ _ f1 e2,s _ _ f2 e3⟩
 | v,.iff e a b,h=>by
  unfold RwAt at h ⊢
  obtain ⟨r,te,la,lb,xs,ys,e1,f1,f2,f3,f4,e2,e3,e4,e5,e6,e7⟩:=h
  exact ⟨r,te,la,lb,xs,ys,e1,g _ _ f1 e2,g _ _ f2 e3,g _ _ f3 e4,g _ _ f4 e6,s _ _ f1 e2,s _ _ f2 e3,s _ _ f3 e4,RwsAt.to_ g s a e5,s _ _ f4 e6,RwsAt.to_ g s b e7⟩
theorem RwsAt.to_ {F G:Addr→Prop} {H H':Hp} (g:∀ b o,F b→H b=some o→G b) (s:∀ b o,F b→H b=some o→H' b=some o):∀ {vs:List V} (r:Rws),RwsAt F H vs r→RwsAt G H' vs r
 | vs,.nil,h=>by
  unfold RwsAt at h ⊢
  exact h
 | vs,.cons r rs,h=>by
  unfold RwsAt at h ⊢
  obtain ⟨v,ws,e1,e2,e3⟩:=h
  exact ⟨v,ws,e1,RwAt.to_ g s r e2,RwsAt.to_ g s rs e3⟩
end
theorem RwAt.to {F G:Addr→Prop} {H H':Hp} {v:V} (r:Rw) (g:∀ b o,F b→H b=some o→G b) (s:∀ b o,F b→H b=some o→H' b=some o) (h:RwAt F H v r):RwAt G H' v r:=RwAt.to_ g s r h
theorem RwsAt.to {F G:Addr→Prop} {H H':Hp} {vs:List V} (r:Rws) (g:∀ b o,F b→H b=some o→G b) (s:∀ b o,F b→H b=some o→H' b=some o) (h:RwsAt F H vs r):RwsAt G H' vs r:=RwsAt.to_ g s r h
theorem RwAt.mono {F:Addr→Prop} {H H':Hp} (s:Same H H') {v:V} {r:Rw} (h:RwAt F H v r):RwAt F H' v r:=h.to r (fun _ _ f _=>f) (fun b o _ e=>s b o e)
theorem RwsAt.mono {F:Addr→Prop} {H H':Hp} (s:Same H H') {vs:List V} {r:Rws} (h:RwsAt F H vs r):RwsAt F H' vs r:=h.to r (fun _ _ f _=>f) (fun b o _ e=>s b o e)
def RlAt (F:Addr→Prop) (H:Hp) (v:V) (r:Rws):Prop:=∃ a xs,v=.ref a∧F a∧H a=some (.lst xs)∧RwsAt F H xs r
theorem RlAt.to {F G:Addr→Prop} {H H':Hp} (g:∀ b o,F b→H b=some o→G b) (s:∀ b o,F b→H b=some o→H' b=some o) {v:V} {r:Rws} (h:RlAt F H v r):RlAt G H' v r:=by
 obtain ⟨a,xs,e,f,e1,e2⟩:=h
 exact ⟨a,xs,e,g _ _ f e1,s _ _ f e1,RwsAt.to r g s e2⟩
theorem RlAt.mono {F:Addr→Prop} {H H':Hp} (s:Same H H') {v:V} {r:Rws} (h:RlAt F H v r):RlAt F H' v r:=h.to (fun _ _ f _=>f) fun b o _ e=>s b o e
abbrev Zu:Addr→Prop:=fun _=>True
theorem RlAt.any {F:Addr→Prop} {H:Hp} {v:V} {r:Rws} (h:RlAt F H v r):RlAt Zu H v r:=h.to (fun _ _ _ _=>trivial) fun b o _ e=>e
mutual
def wW:Rw→Prop
 | .take _ e _=>TermOk e
 | .give _ e f=>TermOk e∧TermOk f
 | .lt _ e=>TermOk e
 | .say e=>TermOk e
 | .off e=>TermOk e
 | .iff e a b=>TermOk e∧yJ a∧yJ b
def yJ:Rws→Prop
 | .nil=>True
 | .cons r rs=>wW r∧yJ rs
end
mutual
def Rw.deep:Rw→Nat
 | .iff _ a b=>max a.deep b.deep + 1
 | _=>0
def Rws.deep:Rws→Nat
 | .nil=>0
 | .cons r rs=>max r.deep rs.deep
end
mutual
def Rw.cnt:Rw→Nat
 | .iff _ a b=>max a.cnt b.cnt + 1
 | _=>1
def Rws.cnt:Rws→Nat
 | .nil=>0
 | .cons r rs=>r.cnt + rs.cnt
end
end L2
namespace L2
open PySem
abbrev ItA (h:Heap) (it d:Addr) (i n ep:Nat) (o0:Value) (f:Bool) (ok ov:Value):Prop :=
 h.get? it=some { cls:=.type "dict_itemiterator",dict:=none,data:=.fields #[o0,.bool f,.ref d,.int i 0,.int n 0,.int ep 0,ok,ov],slots:=#[] }
section
variable {P:Program} {w:World} {A:Around} {E:Value→Shared→Prop} {s:Shared}
theorem VA {v d:Addr} {es:Array DictEntry} {ep:Nat} {Q:Value→Shared→Prop} (hv:s.heap.IsItemsView v d) (hm:RawD s.heap d es ep)
  (q:Q (.ref s.heap.objs.size) { s with heap:=s.heap.push { cls:=.type "dict_itemiterator",data:=.fields #[.none,.bool false,.ref d,.int 0 0,.int es.size 0,.int ep 0,.none,.none] } }):wpAny (model P w) A (pyIter (.ref v)) Q E s:=by
 obtain ⟨ov,hov,hcv,hdv⟩:=id hv;obtain ⟨o,ho,hc,hdat⟩:=id hm
 refine wpAny_pyIter_slot hv.typeIs F.slot_dict_items_iter (wpAny_call_entry F.slot_dict_items_iter hv.typeIs F.entry_dict_items_iter ?_ (F.args_dict_items_iter_1 _));unfold Builtin.«dict_items.__iter__»
 refine wpAny_bind (wpAny_pure ?_);refine wpAny_bind ?_;unfold Builtin.Dict_items.dictOf
 refine wpAny_bind (wpAny_field hov hdv (x:=.ref d) rfl (wpAny_pure ?_));refine wpAny_bind ?_;unfold Builtin.Dict_items.newIterator
 refine wpAny_bind (wpAny_dictEntries ho hdat ?_);refine wpAny_bind (wpAny_dictEpoch ho hdat ?_)
 have own:Builtin.Dict_items.ownsTuple "dict_itemiterator"=true:=by decide
 simp only [own,if_true];refine wpAny_newObj_type (wpAny_pure ⟨_,rfl,"dict_itemiterator",_,⟨_,Heap.get?_push_size _ rfl,rfl⟩,F.slot_dict_itemiterator_next.lookup,?_⟩) (by simp only [sizeOk,Builtin.Dict_items.ownedTupleFields,List.size_toArray,List.length_append,List.length_cons,List.length_nil,sizeLine_eq];lia)
 simpa [rawInt,Builtin.Dict_items.ownedTupleFields] using q
theorem zaa {it d:Addr} {i ep:Nat} {es:Array DictEntry} {e:DictEntry} {o0 ok ov:Value} {f:Bool} {Q:Option Value→Shared→Prop} (hit:ItA s.heap it d i es.size ep o0 f ok ov) (hm:RawD s.heap d es ep) (hx:es[i]?=some e)
  (ho0:(o0=.none∧f=false)∨∃ (a:Addr) (oa:Obj),o0=rawInt (a:Nat)∧s.heap.get? a=some oa∧a≠it)
  (q:∀ h' o1 f1 k1 v1,ItA h' it d (i + 1) es.size ep o1 f1 k1 v1→((o1=.none∧f1=false)∨∃ (a:Addr) (oa:Obj),o1=rawInt (a:Nat)∧h'.get? a=some oa∧a≠it)→h'.get? s.heap.objs.size=some { cls:=.type "tuple",data:=.seq #[e.key,e.val] }→h'.objs.size=s.heap.objs.size + 1 →
   (∀ b o,b≠it→s.heap.get? b=some o→h'.get? b=some o)→(∀ a:Addr,o1=rawInt (a:Nat)→a=s.heap.objs.size∨o0=rawInt (a:Nat))→Q (some (.ref s.heap.objs.size)) { s with heap:=h' }):wpAny (model P w) A (pyNext (.ref it)) Q E s:=by
 obtain ⟨hp,g,dr,tk,os⟩:=s;obtain ⟨od,hod,hcd,hdd⟩:=id hm
 have T:Shared.TypeIs ⟨hp,g,dr,tk,os⟩ (.ref it) "dict_itemiterator":=⟨_,hit,rfl⟩
 unfold pyNext;refine wpAny_bind (wpAny_attempt (wpAny_callSpecial?_slot (name:=Str.ofString "__next__") T F.slot_dict_itemiterator_next (wpAny_call_entry F.slot_dict_itemiterator_next T F.entry_dict_itemiterator_next ?_ (F.args_dict_itemiterator_next_1 _))))
 refine wpAny_bind (wpAny_pure ?_);refine wpAny_bind ?_;refine wpAny_bind ?_
 first | (refine wpAny_bind (wpAny_typeNameOfWhole_itemiter T (wpAny_pure ?_))) | (refine wpAny_bind (wpAny_typeNameOf_itemiter T (wpAny_pure ?_)))
 refine wpAny_bind (wpAny_fieldsOf hit rfl ?_);have own:Builtin.Dict_items.ownsTuple "dict_itemiterator"=true:=by decide
 simp only [own,if_true];show wpAny _ _ (if (Value.ref d == Value.none)=true then _ else _) _ _ _
 rw [if_neg (show ¬ ((Value.ref d == Value.none)=true) from Bool.false_ne_true)];refine wpAny_bind (wpAny_pure ?_);refine wpAny_bind (wpAny_dictEntries hod hdd ?_)
 rw [if_neg (by simp)];refine wpAny_bind (wpAny_pure ?_);refine wpAny_bind (wpAny_dictEpoch hod hdd ?_);rw [if_neg (by simp)];refine wpAny_pure ?_
 simp only [show ¬ ((i:Int) < 0) from by lia,if_false,Int.toNat_natCast,hx];refine wpAny_bind ?_
 first | (refine wpAny_bind (wpAny_typeNameOfWhole_itemiter T (wpAny_pure ?_))) | (refine wpAny_bind (wpAny_typeNameOf_itemiter T (wpAny_pure ?_)))
 refine wpAny_bind (wpAny_isOneOf_itemiter T ?_);show wpAny _ _ (setField (.ref it) 3 (rawInt ((i:Int) + 1)) >>= _) _ _ ⟨hp,g,dr,tk,os⟩
 refine wpAny_bind (wpAny_setField_rec hit (by simp) fun h₁ e1 s1=>?_)
 replace s1:Heap.SameBut it hp h₁:=s1
 replace e1:ItA h₁ it d (i + 1) es.size ep o0 f ok ov:=by
  have z:((i + 1:Nat):Int)=(i:Int) + 1:=by lia
  unfold ItA;rw [z];simpa [rawInt] using e1
 have T1:Shared.TypeIs ⟨h₁,g,dr,tk,os⟩ (.ref it) "dict_itemiterator":=⟨_,e1,rfl⟩
 refine wpAny_bind (wpAny_holding ?_);refine wpAny_bind (wpAny_isOneOf_itemiter T1 ?_);refine wpAny_bind (wpAny_isOneOf_itemiter T1 ?_)
 show wpAny _ _ (Builtin.Dict_items.pairFromOwner (.ref it) 6 e.key e.val) _ _ ⟨h₁,g,dr,tk,os⟩
 unfold Builtin.Dict_items.pairFromOwner;refine wpAny_bind (wpAny_newTuple ?_)
 have e2:ItA (h₁.push { cls:=.type "tuple",data:=.seq #[e.key,e.val] }) it d (i + 1) es.size ep o0 f ok ov:=Heap.get?_push_of_some _ e1
 generalize hg:h₁.push { cls:=.type "tuple",data:=.seq #[e.key,e.val] }=h₂ at e2
 have z1:h₁.objs.size=hp.objs.size:=s1.1;have il:it < hp.objs.size:=Heap.lt_size hit
 have t2:h₂.get? hp.objs.size=some { cls:=.type "tuple",data:=.seq #[e.key,e.val] }:=by rw [← hg,← z1];exact Heap.get?_push_size _ rfl
 have z2:h₂.objs.size=hp.objs.size + 1:=by rw [← hg,Heap.size_push,z1]
 have k2:∀ b o,b≠it→hp.get? b=some o→h₂.get? b=some o:=fun b o hb z=>by rw [← hg];exact Heap.get?_push_of_some _ (s1.extBut b o hb z)
 show wpAny _ _ (Builtin.Dict_items.ownedTupleIsFree (.ref it) >>= _) _ _ ⟨h₂,g,dr,tk,os⟩;rw [z1]
 clear hg e1 s1 T1 z1 h₁;refine wpAny_bind ?_;unfold Builtin.Dict_items.ownedTupleIsFree
 rcases ho0 with ⟨rfl,rfl⟩ | ⟨a,oa,rfl,ha,hai⟩
 ·refine wpAny_bind (wpAny_field e2 rfl (x:=.none) rfl (wpAny_pure ?_));simp only [if_true]
  refine wpAny_bind (wpAny_field e2 rfl (x:=ok) rfl ?_);refine wpAny_bind (wpAny_field e2 rfl (x:=ov) rfl ?_)
  refine wpAny_bind (wpAny_setField_rec e2 (by simp) fun h₃ e3 s3=>?_);replace s3:Heap.SameBut it h₂ h₃:=s3;replace e3:ItA h₃ it d (i + 1) es.size ep .none false e.key ov:=e3
  refine wpAny_bind (wpAny_setField_rec e3 (by simp) fun h₄ e4 s4=>?_);replace s4:Heap.SameBut it h₃ h₄:=s4;replace e4:ItA h₄ it d (i + 1) es.size ep .none false e.key e.val:=e4
  refine wpAny_bind (wpAny_setField_rec e4 (by simp) fun h₅ e5 s5=>?_);replace s5:Heap.SameBut it h₄ h₅:=s5;replace e5:ItA h₅ it d (i + 1) es.size ep (rawInt (hp.objs.size:Nat)) false e.key e.val:=e5
  refine wpAny_bind (wpAny_setField_rec e5 (by simp) fun h₆ e6 s6=>?_);replace s6:Heap.SameBut it h₅ h₆:=s6;replace e6:ItA h₆ it d (i + 1) es.size ep (rawInt (hp.objs.size:Nat)) false e.key e.val:=e6
  have k6:∀ b o,b≠it→h₂.get? b=some o→h₆.get? b=some o:=fun b o hb z=>s6.extBut b o hb (s5.extBut b o hb (s4.extBut b o hb (s3.extBut b o hb z)))
  have t6:=k6 _ _ (Nat.ne_of_gt il) t2
  refine wpAny_bind (wpAny_letGo (wpAny_pure (wpAny_pure ⟨_,rfl,wpAny_pure (q h₆ _ _ _ _ e6 (.inr ⟨_,_,rfl,t6,Nat.ne_of_gt il⟩) t6 ?_ (fun b o hb z=>k6 b o hb (k2 b o hb z)) fun a z=>?_)⟩)))
  ·show h₆.objs.size=hp.objs.size + 1;rw [s6.1,s5.1,s4.1,s3.1,z2]
  ·refine .inl ?_
   have z':(Value.int (hp.objs.size:Nat) 0:Value)=Value.int (a:Nat) 0:=z
   have z'':((hp.objs.size:Nat):Int)=((a:Nat):Int):=by injection z'
   exact (Int.ofNat.inj z'').symm
 ·refine wpAny_bind (wpAny_field e2 rfl (x:=rawInt (a:Nat)) rfl ?_);show wpAny _ _ (loadIfAlive (((a:Nat):Int).toNat) >>= _) _ _ _;rw [Int.toNat_natCast]
  have a2:h₂.get? a=some oa:=k2 a oa hai ha
  refine wpAny_bind (W.kdx_alive a2 ?_);simp only [Option.isNone_some,Bool.false_eq_true,if_false];refine wpAny_bind (wpAny_field e2 rfl (x:=.bool f) rfl ?_)
  cases f with
  | true =>
   rw [if_neg (show ¬ ((Value.bool true != Value.bool true)=true) from Bool.false_ne_true)];refine wpAny_pure ?_;simp only [Bool.false_eq_true,if_false]
   exact wpAny_pure (wpAny_pure ⟨_,rfl,wpAny_pure (q h₂ _ _ _ _ e2 (.inr ⟨_,_,rfl,a2,hai⟩) t2 z2 k2 fun a z=>.inr z)⟩)
  | false =>
   rw [if_pos (show (Value.bool false != Value.bool true)=true from rfl)];refine wpAny_bind (wpAny_setField_rec e2 (by simp) fun h₃ e3 s3=>?_)
   replace s3:Heap.SameBut it h₂ h₃:=s3;replace e3:ItA h₃ it d (i + 1) es.size ep (rawInt (a:Nat)) true ok ov:=e3
   refine wpAny_pure ?_;simp only [Bool.false_eq_true,if_false]
   exact wpAny_pure (wpAny_pure ⟨_,rfl,wpAny_pure (q h₃ _ _ _ _ e3 (.inr ⟨_,_,rfl,s3.extBut _ _ hai a2,hai⟩) (s3.extBut _ _ (Nat.ne_of_gt il) t2) (by show h₃.objs.size=_;rw [s3.1,z2]) (fun b o hb z=>s3.extBut b o hb (k2 b o hb z)) fun a z=>.inr z)⟩)
theorem Kq {it d:Addr} {i ep:Nat} {es:Array DictEntry} {o0 ok ov:Value} {f:Bool} {Q:Option Value→Shared→Prop} (hh:A.handled=none) (hit:ItA s.heap it d i es.size ep o0 f ok ov) (hm:RawD s.heap d es ep) (hx:es.size≤i)
  (q:∀ h',Heap.ExtBut it s.heap h'→Q none { s with heap:=h' }):wpAny (model P w) A (pyNext (.ref it)) Q E s:=by
 obtain ⟨od,hod,hcd,hdd⟩:=id hm;have T:s.TypeIs (.ref it) "dict_itemiterator":=⟨_,hit,rfl⟩
 unfold pyNext;refine wpAny_bind (wpAny_attempt (wpAny_callSpecial?_slot (name:=Str.ofString "__next__") T F.slot_dict_itemiterator_next (wpAny_call_entry F.slot_dict_itemiterator_next T F.entry_dict_itemiterator_next ?_ (F.args_dict_itemiterator_next_1 _))))
 refine wpAny_bind (wpAny_pure ?_);refine wpAny_bind ?_;refine wpAny_bind ?_
 first | (refine wpAny_bind (wpAny_typeNameOfWhole_itemiter T (wpAny_pure ?_))) | (refine wpAny_bind (wpAny_typeNameOf_itemiter T (wpAny_pure ?_)))
 refine wpAny_bind (wpAny_fieldsOf hit rfl ?_);have own:Builtin.Dict_items.ownsTuple "dict_itemiterator"=true:=by decide
 simp only [own,if_true];show wpAny _ _ (if (Value.ref d == Value.none)=true then _ else _) _ _ s
 rw [if_neg (show ¬ ((Value.ref d == Value.none)=true) from Bool.false_ne_true)];refine wpAny_bind (wpAny_pure ?_);refine wpAny_bind (wpAny_dictEntries hod hdd ?_)
 rw [if_neg (by simp)];refine wpAny_bind (wpAny_pure ?_);refine wpAny_bind (wpAny_dictEpoch hod hdd ?_);rw [if_neg (by simp)];refine wpAny_pure ?_
 simp only [show ¬ ((i:Int) < 0) from by lia,if_false,Int.toNat_natCast,Array.getElem?_eq_none hx];refine wpAny_bind ?_
 first | (refine wpAny_bind (wpAny_typeNameOfWhole_itemiter T (wpAny_pure ?_))) | (refine wpAny_bind (wpAny_typeNameOf_itemiter T (wpAny_pure ?_)))
 show wpAny _ _ (setField (.ref it) 2 .none >>= _) _ _ s;refine wpAny_bind (wpAny_setField hit rfl (by simp) ?_)
 show wpAny _ _ (newExc (.type "StopIteration") [] >>= _) _ _ _;refine wpAny_bind ?_;simp only [newExc,newTuple];refine wpAny_bind (wpAny_newObj_type ?_ (by size_fits))
 refine wpAny_bind (m:=firstArgMember _ _) (wpAny_of_eq (a:=Value.none) (by first | rfl | (simp only [firstArgMember];rfl)) ?_);refine wpAny_newObj_type ?_ (by size_fits)
 simp only [raiseNew];refine wpAny_bind (wpAny_handled ?_);rw [show A.in1.handled=none from hh];refine wpAny_bind (wpAny_pure (wpAny_throw ?_))
 refine wpAny_bind (wpAny_isInstance (T:="StopIteration") (b:=true) ⟨_,Heap.get?_push_size _ rfl,rfl⟩ isSubtype_stop ?_);exact wpAny_pure (q _ (((Heap.SameBut.update ..).extBut.push _).push _))
end
end L2
namespace L2
open PySem PySem.Spec PyProof.Rows
def qi (r d:Addr):HO:=.ext fun h=>h.IsItemsView r d
def jF (td:TE):TE:=fun σ H Q=>td σ H fun x H1=>∃ d kvs,x=.ref d∧H1 d=some (.dT kvs)∧∀ r,H1 r=none→Q (.ref r) (upd H1 r (qi r d))
section
variable {X:Cx} {o:Expr} {apos cpos:Pos} {td:TE}
theorem VB (ho:PE X o td) (hbase:attributeBase o "items" X.env (eval o X.env)=eval o X.env:=by rfl) (hline:(apos.endLine == cpos.line)=true:=by rfl):PE X (.Call (.Attribute o "items" apos) [] [] cpos) (jF td):=by
 intro pins s σ H Q I h
 refine wpAny_Call_method0_late hbase hline (thn (ho pins s σ H _ I h) fun v s1 ⟨x,H1,I1,r1,d,kvs,ex,hd,q1⟩=>?_)
 subst ex
 obtain rfl:v=Value.ref d:=r1
 obtain ⟨t1,t2,t3⟩:=Jo I1 (.inr ⟨kvs,.inl hd⟩)
 refine ⟨"dict","dict.items",F.plainAttrs_dict,F.slot_dict_items,F.type_dict_items,t1,t2,Calls.callWith_builtin rfl (PySem.evalArgs_none ?_)⟩
 refine wpAny_call_entry F.slot_dict_items t1 F.entry_dict_items ?_ (F.args_dict_items_1 _)
 unfold Builtin.«dict.items»;refine wpAny_bind ?_;unfold Builtin.Dict.noArgs;refine wpAny_bind (wpAny_notOrdered_dict t1 ?_)
 show wpAny _ _ (pure d) _ _ s1;refine wpAny_pure ?_
 show wpAny _ _ (Builtin.Dict.showsAll d >>= _) _ _ s1;unfold Builtin.Dict.showsAll
 rw [if_neg (by rw [t3];exact Bool.false_ne_true)];refine wpAny_bind (wpAny_pure ?_)
 refine wpAny_bind (wpAny_newObj_type (wpAny_pure ⟨_,rfl,?_⟩))
 have hn:H1 s1.heap.objs.size=none:=I1.hok.fresh (Nat.le_refl _)
 have at0:(s1.heap.push { cls:=.type "dict_items",data:=.fields #[.ref d] }).get? s1.heap.objs.size=some { cls:=.type "dict_items",data:=.fields #[.ref d] }:=Heap.get?_push_size _ rfl
 refine ⟨.ref s1.heap.objs.size,_,I1.laid (a:=s1.heap.objs.size) (o:=qi s1.heap.objs.size d) (t':=s1.toks) (fun b u e=>Heap.get?_push_of_some _ e) (Nat.le_refl _) ?_,rfl,q1 _ hn⟩
 exact ⟨⟨_,at0,rfl,rfl⟩,⟨_,at0⟩,fun h1 h2 ⟨o,e1,e2⟩ k=>⟨o,k o e1,e2⟩⟩
end
def Zb (H:Hp) (v:V) (kv:List Key × V):Prop:=∃ r p,v=.ref r∧H r=some (.tup [.ref p,kv.2])∧H p=some (.tup (kv.1.map kV))
theorem VC {H H':Hp} (s:∀ b ys,H b=some (.tup ys)→H' b=some (.tup ys)):∀ {vs:List V} {kvs:List (List Key × V)},Paired (Zb H) vs kvs→Paired (Zb H') vs kvs
 | _,_,.nil=>.nil
 | _,_,.cons ⟨r,p,e,h1,h2⟩ t=>.cons ⟨r,p,e,s _ _ h1,s _ _ h2⟩ (VC s t)
theorem VD {H:Hp} {v:V} {q:List Key × V}:∀ {ys:List V} {kvs:List (List Key × V)},Paired (Zb H) ys kvs→Zb H v q→Paired (Zb H) (ys ++ [v]) (kvs ++ [q])
 | _,_,.nil,h=>.cons h .nil
 | _,_,.cons a r,h=>.cons a (VD r h)
section
variable {X:Cx} {A:Around} {R:Result→Shared→Prop}
theorem zab {pins:List (Addr × Obj)} {σ:St} {H:Hp} {S it d:Addr} {kvs:List (List Key × V)} {es:Array DictEntry} {ep:Nat} {res:Value} (hh:A.handled=none) (hS:H S=none) (hd:H d=some (.dT kvs)) (Sit:S≠it) (dit:d≠it) (hz:kvs.length≤1000)
  (hes:es.size=kvs.length) (hen:∀ (i:Nat) (e:DictEntry) (kv:List Key × V),es[i]?=some e→kvs[i]?=some kv→∃ p,e.key=.ref p∧H p=some (.tup (kv.1.map kV))∧RelV kv.2 e.val) (fin:∀ s' H' ys,Inv X pins σ H' s'→Same H H'→H' S=some (.lst ys)→Paired (Zb H') ys kvs→R (.ok (.ret res)) s') :
  ∀ (k i:Nat) (s:Shared) (Hi:Hp) (ys:List V) (o0 ok ov:Value) (f:Bool),kvs.length - i=k→i≤kvs.length→Inv X pins σ Hi s→Same H Hi→Hi S=some (.lst ys)→Paired (Zb Hi) ys (kvs.take i)→RawD s.heap d es ep→ItA s.heap it d i es.size ep o0 f ok ov →
  ((o0=.none∧f=false)∨∃ (a:Addr) (oa:Obj),o0=rawInt (a:Nat)∧s.heap.get? a=some oa∧a≠it∧a≠S)→ke X pins Hi it →
  codeAny (model X.prog X.w) A (.builtin "list.extend.loop" ⟨[.ref S,.ref it,res],[]⟩) R s:=by
 intro k
 induction k with
 | zero =>
  intro i s Hi ys o0 ok ov f hk hi I sm hy pr rd hit ho0 hf
  have e:i=kvs.length:=by lia
  subst e
  refine codeAny_builtin F.entry_extend_loop ?_;rw [Around.under_plainId F.plain_extend_loop _]
  show wpAny _ A.in1 (pyNext (.ref it) >>= _) _ _ s
  obtain ⟨f0,f1,f2,f3,f4,f5⟩:=hf
  refine wpAny_bind (Kq (A:=A.in1) hh hit rd (by lia) fun h' eb=>?_)
  have I1:=I.turned (t':=s.toks) (fun b o hb e=>eb b o hb e) f0 f1 f3 f4 f5
  rw [List.take_length] at pr
  exact wpAny_pure (fin _ Hi ys I1 sm hy pr)
 | succ k ih =>
  intro i s Hi ys o0 ok ov f hk hi I sm hy pr rd hit ho0 hf
  have hlt:i < kvs.length:=by lia
  have hx:es[i]?=some es[i]:=Array.getElem?_eq_getElem (by lia)
  have hkv:kvs[i]?=some kvs[i]:=List.getElem?_eq_getElem hlt
  obtain ⟨p,ek,hp,rv⟩:=hen i _ _ hx hkv
  refine codeAny_builtin F.entry_extend_loop ?_;rw [Around.under_plainId F.plain_extend_loop _]
  show wpAny _ A.in1 (pyNext (.ref it) >>= _) _ _ s
  obtain ⟨f0,f1,f2,f3,f4,f5⟩:=id hf
  have ho0':(o0=.none∧f=false)∨∃ (a:Addr) (oa:Obj),o0=rawInt (a:Nat)∧s.heap.get? a=some oa∧a≠it:=by
   rcases ho0 with z | ⟨a,oa,z1,z2,z3,_⟩
   ·exact .inl z
   ·exact .inr ⟨a,oa,z1,z2,z3⟩
  refine wpAny_bind (zaa (A:=A.in1) hit rd hx ho0' fun h' o1 f1' k1 v1 hit' ho1 ht hz' kp own=>?_)
  have Sl:S < s.heap.objs.size:=by
   obtain ⟨_,_,_,_,e⟩:=(show ObjOk X.prog X.w Hi s.heap S (.lst ys) from I.hok S _ hy)
   exact Heap.lt_size e
  have tn:s.heap.objs.size≠it:=Nat.ne_of_gt (Heap.lt_size hit)
  have hTn:Hi s.heap.objs.size=none:=I.hok.fresh (Nat.le_refl _)
  have STn:S≠s.heap.objs.size:=Nat.ne_of_lt Sl
  generalize hT:s.heap.objs.size=T at *
  have I6:Inv X pins σ (upd Hi T (.tup [.ref p,kvs[i].2])) { s with heap:=s.heap.push { cls:=.type "tuple",data:=.seq #[es[i].key,es[i].val] } } :=
   I.laid (a:=T) (o:=.tup [.ref p,kvs[i].2]) (t':=s.toks) (fun b u e=>Heap.get?_push_of_some _ e) (by rw [hT];exact Nat.le_refl _) ⟨by show 2≤sizeLine;decide,[es[i].key,es[i].val],.cons (by rw [ek];exact rfl) (.cons rv .nil),⟨_,by rw [← hT];exact Heap.get?_push_size _ rfl,rfl,_,rfl⟩⟩
  have S6:Same Hi (upd Hi T (.tup [.ref p,kvs[i].2])):=isV T hTn
  have I7:Inv X pins σ (upd Hi T (.tup [.ref p,kvs[i].2])) { s with heap:=h' }:=I6.turned (s:={ s with heap:=s.heap.push { cls:=.type "tuple",data:=.seq #[es[i].key,es[i].val] } }) (t':=s.toks) (fun b o hb e=>by
   rcases Heap.get?_push_cases (show (s.heap.push { cls:=.type "tuple",data:=.seq #[es[i].key,es[i].val] }).get? b=some o from e) with ⟨rfl,rfl⟩ | e
   ·rw [hT];exact ht
   ·exact kp b o hb e) (by rw [zk (Ne.symm tn)];exact f0) f1 f3 f4 f5
  have hy7:(upd Hi T (.tup [.ref p,kvs[i].2])) S=some (.lst ys):=S6 _ _ hy
  obtain ⟨z,its,n,r,hl,e⟩:=I7.lstM hy7
  have yl:ys.length=i:=by
   have:=Paired.length pr
   rw [List.length_take] at this
   lia
  show wpAny _ A.in1 (updateSeq S (·.push (Value.ref T)) >>= _) _ _ _
  have e':h'.get? S=some { cls:=.type "list",data:=.seq its.toArray n }:=e
  refine wpAny_bind (wpAny_updateSeq (s:={ s with heap:=h' }) e' rfl ?_ (by rw [List.size_toArray,← r.length,yl];exact Nat.le_trans (by lia:i≤1000) (by decide)) (by rw [Array.size_push,List.size_toArray,← r.length,yl];exact Nat.le_trans (by lia:i + 1≤1001) (by decide)))
  have I8:=I7.lset (f:=fun xs=>xs.push (Value.ref T)) (t':=s.toks) (its':=its ++ [Value.ref T]) hy7 e' (by simp) (r.append (.cons (show RelV (.ref T) (.ref T) from rfl) .nil)) (by rw [List.length_append,yl];exact Nat.le_trans (by show i + 1≤1001;lia) (by decide))
  have up:∀ b o,b≠S→h'.get? b=some o→(h'.update S (Obj.mapSeq (·.push (Value.ref T)))).get? b=some o:=fun b o hb z=>(Heap.get?_update_other _ _ (Ne.symm hb)).trans z
  have dS:d≠S:=zE hd hS
  have tS:∀ b zs,Hi b=some (.tup zs)→(upd (upd Hi T (.tup [.ref p,kvs[i].2])) S (.lst (ys ++ [.ref T]))) b=some (.tup zs):=fun b zs z=>by
   rw [zk (xF z hy (by intro z;cases z))];exact S6 _ _ z
  have ri:∀ {a b:Nat},(rawInt (a:Int):Value)=rawInt (b:Int)→a=b:=fun {a b} z=>by
   have z':(Value.int (a:Int) 0:Value)=Value.int (b:Int) 0:=z
   have z'':(a:Int)=(b:Int):=by injection z'
   exact Int.ofNat.inj z''
  refine wpAny_pure ⟨plainId_quiet F.plain_extend_loop _,ih (i + 1) _ _ (ys ++ [.ref T]) o1 k1 v1 f1' (by lia) hlt I8 (fun b o z=>?_) zf ?_ (rd.at fun o z=>up d o dS (kp d o dit z)) (up it _ (Ne.symm Sit) hit') ?_ ⟨?_,f1,f2,f3,f4,f5⟩⟩
  ·rw [zk (zE z hS)];exact S6 _ _ (sm _ _ z)
  ·rw [List.take_add_one,hkv]
   exact VD (VC tS pr) ⟨T,p,rfl,by rw [zk (Ne.symm STn),zf],tS _ _ (sm _ _ hp)⟩
  ·rcases ho1 with z | ⟨a,oa,z1,z2,z3⟩
   ·exact .inl z
   ·have aS:a≠S:=by
     rcases own a z1 with z | z
     ·rw [z];exact Ne.symm STn
     ·rcases ho0 with ⟨y1,_⟩ | ⟨a',oa',y1,_,_,y4⟩
      ·rw [y1] at z;cases z
      ·rw [y1] at z
       rw [← ri z];exact y4
    exact .inr ⟨a,oa,z1,up a _ aS z2,z3,aS⟩
  ·rw [zk (Ne.symm Sit),zk (Ne.symm tn)];exact f0
end
end L2
namespace L2
open PySem PySem.Spec PyProof.Rows
abbrev VE:RC:=fun vs H Q=>∃ r d kvs,vs=[.ref r]∧H r=some (qi r d)∧H d=some (.dT kvs)∧kvs.length≤1000∧∀ l ys H',Same H H'→H l=none→H' l=some (.lst ys)→Paired (Zb H') ys kvs→Q (.ref l) H'
theorem zbg {P:Program} {w:World} {H:Hp} {h:Heap} {r d:Addr} (k:HOk P w H h) (e:H r=some (qi r d)):h.IsItemsView r d:=(k r _ e).1
theorem zbh {H:Hp}:∀ {kvs:List (List Key × V)} {xs:List (List Key × Addr × Value)},Paired (fun (p:List Key × V) (q:List Key × Addr × Value)=>p.1=q.1∧H q.2.1=some (.tup (p.1.map kV))∧RelV p.2 q.2.2) kvs xs→∀ {i:Nat} {kv:List Key × V} {x:List Key × Addr × Value},kvs[i]?=some kv→xs[i]?=some x→H x.2.1=some (.tup (kv.1.map kV))∧RelV kv.2 x.2.2 :=
 fun {_ _} h {_ _ _} e1 e2=>(yL h e1 e2).2
section
variable {X:Cx}
theorem zcd {pins:List (Addr × Obj)} {σ:St} {H:Hp} {s:Shared} {d:Addr} {kvs:List (List Key × V)} (I:Inv X pins σ H s) (e:H d=some (.dT kvs)):∃ es ep,RawD s.heap d es ep∧es.size=kvs.length ∧
  ∀ (i:Nat) (en:DictEntry) (kv:List Key × V),es[i]?=some en→kvs[i]?=some kv→∃ p,en.key=.ref p∧H p=some (.tup (kv.1.map kV))∧RelV kv.2 en.val:=by
 obtain ⟨z,hd,xs,rel,o,es,ep,h1,h2,h3,h4,_⟩:=(show ObjOk X.prog X.w H s.heap d (.dT kvs) from I.hok d _ e)
 have l1:es.size=xs.length:=by rw [← Array.length_toList,h4,List.length_map]
 refine ⟨es,ep,⟨o,h1,h2,h3⟩,by rw [l1,← Paired.length rel],fun i en kv e1 e2=>?_⟩
 have e3:es.toList[i]?=some en:=by rw [Array.getElem?_toList];exact e1
 rw [h4,List.getElem?_map] at e3
 obtain ⟨x,hx,rfl⟩:=Option.map_eq_some_iff.mp e3
 obtain ⟨g1,g2⟩:=zbh rel e2 hx
 exact ⟨x.2.1,rfl,g1,g2⟩
theorem X2 {A:Around} {R:Result→Shared→Prop} {pins:List (Addr × Obj)} {σ:St} {H:Hp} {s:Shared} {S r d:Addr} {kvs:List (List Key × V)} {res:Value} {c:Nat} (hh:A.handled=none) (hS:H S=none) (hr:H r=some (qi r d)) (hd:H d=some (.dT kvs)) (hl:kvs.length≤1000)
  (I2:Inv X pins σ (upd H S (.lst [])) s) (T2:s.heap.get? S=some { cls:=.type "list",data:=.seq #[] c }) (hR:∀ s' H' ys,Inv X pins σ H' s'→Same H H'→H' S=some (.lst ys)→Paired (Zb H') ys kvs→R (.ok (.ret res)) s') :
  wpAny (model X.prog X.w) A.in1 (Builtin.List.listExtendWith (.ref S) (.ref r) res) (fun fin s'=>match fin with | .done f=>R (.ok f) s' | .again c'=>c'.quiet=true∧codeAny (model X.prog X.w) A c' R s') (fun e s'=>R (.error e) s') s:=by
 have Sr:r≠S:=zE hr hS
 have Sd:d≠S:=zE hd hS
 have SS:Same H (upd H S (.lst [])):=isV S hS
 obtain ⟨es,ep,rd,hes,hen0⟩:=zcd I2 (SS _ _ hd)
 have hen:∀ (i:Nat) (en:DictEntry) (kv:List Key × V),es[i]?=some en→kvs[i]?=some kv→∃ p,en.key=.ref p∧H p=some (.tup (kv.1.map kV))∧RelV kv.2 en.val:=fun i en kv e1 e2=>by
  obtain ⟨p,g1,g2,g3⟩:=hen0 i en kv e1 e2
  refine ⟨p,g1,?_,g3⟩
  by_cases hp:p=S
  ·rw [hp,zf] at g2;cases g2
  ·rwa [zk hp] at g2
 have vw:=zbg I2.hok (SS _ _ hr)
 unfold Builtin.List.listExtendWith
 refine wpAny_bind (wpAny_typeOf (T:="dict_items") vw.typeIs ?_)
 have c1:Builtin.List.listSameRef (.ref S) (.ref r)=false:=by simp [Builtin.List.listSameRef,Ne.symm Sr]
 have c2:(Value.type "dict_items" == Value.type "list")=false:=by decide
 have c3:(Value.type "dict_items" == Value.type "tuple")=false:=by decide
 simp only [c1,c2,c3,Bool.or_false,Bool.false_eq_true,if_false]
 refine wpAny_bind (VA vw rd ?_)
 have ni:(upd H S (.lst [])) s.heap.objs.size=none:=I2.hok.fresh (Nat.le_refl _)
 have fp:ke X pins (upd H S (.lst [])) s.heap.objs.size:=I2.fpOk (Nat.le_refl _) ni
 have Si:S≠s.heap.objs.size:=Nat.ne_of_lt (Heap.lt_size T2)
 have di:d≠s.heap.objs.size:=Nat.ne_of_lt rd.lt
 have I3:Inv X pins σ (upd H S (.lst [])) { s with heap:=s.heap.push { cls:=.type "dict_itemiterator",data:=.fields #[.none,.bool false,.ref d,.int 0 0,.int es.size 0,.int ep 0,.none,.none] } }:=I2.kept (t':=s.toks) fun b o e=>Heap.get?_push_of_some _ e
 have T3:=Heap.get?_push_of_some { cls:=.type "dict_itemiterator",data:=.fields #[.none,.bool false,.ref d,.int 0 0,.int es.size 0,.int ep 0,.none,.none] } T2
 have it3:ItA (s.heap.push { cls:=.type "dict_itemiterator",data:=.fields #[.none,.bool false,.ref d,.int 0 0,.int es.size 0,.int ep 0,.none,.none] }) s.heap.objs.size d 0 es.size ep .none false .none .none:=Heap.get?_push_size _ rfl
 have rd3:RawD (s.heap.push { cls:=.type "dict_itemiterator",data:=.fields #[.none,.bool false,.ref d,.int 0 0,.int es.size 0,.int ep 0,.none,.none] }) d es ep:=rd.at fun o e=>Heap.get?_push_of_some _ e
 have vw3:(s.heap.push { cls:=.type "dict_itemiterator",data:=.fields #[.none,.bool false,.ref d,.int 0 0,.int es.size 0,.int ep 0,.none,.none] }).IsItemsView r d:=let ⟨o,ho,x⟩:=vw;⟨o,Heap.get?_push_of_some _ ho,x⟩
 generalize hh3:s.heap.push { cls:=.type "dict_itemiterator",data:=.fields #[.none,.bool false,.ref d,.int 0 0,.int es.size 0,.int ep 0,.none,.none] }=h3 at *
 generalize s.heap.objs.size=it at *
 refine wpAny_bind (wpAny_holding (W.kdx_hint vw3.typeIs ?_))
 have fin:∀ (h4:Heap) (tk:Nat) (R:Result→Shared→Prop),(∀ s' H' ys,Inv X pins σ H' s'→Same H H'→H' S=some (.lst ys)→Paired (Zb H') ys kvs→R (.ok (.ret res)) s')→Inv X pins σ (upd H S (.lst [])) { s with heap:=h4,toks:=tk }→RawD h4 d es ep→ItA h4 it d 0 es.size ep .none false .none .none →
   codeAny (model X.prog X.w) A (.builtin "list.extend.loop" ⟨[.ref S,.ref it,res],[]⟩) R { s with heap:=h4,toks:=tk }:=fun h4 tk R hR I4 rd4 it4 =>
  zab (A:=A) (H:=H) (es:=es) (ep:=ep) hh hS hd Si di hl hes hen hR kvs.length 0 _ (upd H S (.lst [])) [] .none .none .none false (Nat.sub_zero _) (Nat.zero_le _) I4 SS zf .nil rd4 it4 (.inl ⟨rfl,rfl⟩) fp
 refine wpAny_ite_split (fun _=>?_) (fun _=>wpAny_pure ⟨plainId_quiet F.plain_extend_loop _,fin h3 s.toks _ hR I3 rd3 it3⟩)
 refine wpAny_bind (wpAny_rule ?_);refine wpAny_bind ?_
 show wpAny _ _ (updateSeq S (·.push .none) >>= fun _=>updateSeq S (·.pop)) _ _ _;refine wpAny_bind (wpAny_updateSeq T3 rfl ?_)
 have T4:=Heap.get?_update_self (Obj.mapSeq (·.push Value.none)) T3 rfl
 refine wpAny_updateSeq (hz:=by seq_fits) T4 rfl ?_
 have I4:=I3.lset (f:=fun xs=>xs.push Value.none) (its:=[]) (its':=[Value.none]) (ys:=[V.non]) (t':=s.toks) zf T3 rfl (.cons rfl .nil) (by show 1≤sizeLine;decide)
 have I5:=I4.lset (f:=fun xs=>xs.pop) (its:=[Value.none]) (its':=[]) (ys:=[]) (t':=s.toks) zf T4 rfl .nil (Nat.zero_le _)
 rw [ZU,ZU] at I5
 have oth:∀ b o,b≠S→h3.get? b=some o→((h3.update S (Obj.mapSeq (·.push Value.none))).update S (Obj.mapSeq (·.pop))).get? b=some o:=fun b o hb e=>(Heap.get?_update_other _ _ (Ne.symm hb)).trans ((Heap.get?_update_other _ _ (Ne.symm hb)).trans e)
 exact wpAny_pure ⟨plainId_quiet F.plain_extend_loop _,fin _ s.toks _ hR I5 (rd3.at fun o e=>oth d o Sd e) (oth it _ (Ne.symm Si) it3)⟩
theorem ZN (hc:X.calm=true):je X (.type "list") VE:=by
 intro pins s σ H vs us Q I r0 h
 obtain ⟨r,d,kvs,rfl,hr,hd,hl,q⟩:=h
 obtain ⟨u,rfl,ru⟩:=qP r0
 cases ru
 have hh:X.A.handled=none:=I.ok.hd hc
 refine callType_codes (Q₁:=fun obj s₁=>obj=.ref s.heap.objs.size∧s₁={ s with heap:=s.heap.push { cls:=.type "list",data:=.seq #[] } }) F.called_list (F.typeCall_list_1 _) F.entry_list_init (code_list_new _ ⟨rfl,rfl⟩) ?_;rintro obj s₁ ⟨rfl,rfl⟩
 have hS:H s.heap.objs.size=none:=I.hok.fresh (Nat.le_refl _)
 have I1:Inv X pins σ (upd H s.heap.objs.size (.lst [])) { s with heap:=s.heap.push { cls:=.type "list",data:=.seq #[] } }:=I.lnew (its:=[]) (t':=s.toks) .nil (Nat.zero_le _)
 have T0:(s.heap.push { cls:=.type "list",data:=.seq #[] }).get? s.heap.objs.size=some { cls:=.type "list",data:=.seq #[] }:=Heap.get?_push_size _ rfl
 generalize hT:s.heap.objs.size=S at *
 refine ⟨⟨_,T0,rfl⟩,F.args_list_init_2 _ _,?_⟩
 show wpAny _ _ (do let old ← Builtin.List.listItems (.ref S);Builtin.List.listUpdate (.ref S) (fun _=>#[]);letGo old.toList.reverse;Builtin.List.listExtendWith (.ref S) (.ref r) .none) _ _ _
 refine wpAny_bind ?_;unfold Builtin.List.listItems;refine wpAny_bind (wpAny_seqItems T0 rfl (wpAny_pure ?_))
 show wpAny _ _ (updateSeq S (fun _=>#[]) >>= fun _=>letGo (#[]:Array Value).toList.reverse >>= fun _=>Builtin.List.listExtendWith (.ref S) (.ref r) .none) _ _ _
 refine wpAny_bind (wpAny_updateSeq T0 rfl ?_)
 have I2:=I1.lset (f:=fun _=>(#[]:Array Value)) (its:=[]) (its':=[]) (ys:=[]) (t':=s.toks) zf T0 rfl .nil (Nat.zero_le _)
 rw [ZU] at I2
 have T2:=Heap.get?_update_self (Obj.mapSeq (fun _=>(#[]:Array Value))) T0 rfl
 refine wpAny_bind (wpAny_letGo ?_)
 generalize hh2:(s.heap.push { cls:=.type "list",data:=.seq #[] }).update S (Obj.mapSeq (fun _=>(#[]:Array Value)))=h2 at *
 exact X2 (A:=X.A.in1) (H:=H) hh hS hr hd hl I2 T2 fun s' H' ys I' sm hy pr=>⟨rfl,.ref S,H',I',rfl,q S ys H' sm hS hy pr⟩
end
end L2
namespace L2
open PySem PySem.Spec PyProof.Rows PySem.W
section
variable {X:Cx}
theorem Jy {A:Around} {E:Value→Shared→Prop} {R:List Value→Shared→Prop} {pins:List (Addr × Obj)} {σ:St} {H:Hp} {s:Shared} {r d:Addr} {kvs:List (List Key × V)} (hh:A.handled=none) (hr:H r=some (qi r d)) (hd:H d=some (.dT kvs)) (hl:kvs.length≤1000) (I:Inv X pins σ H s)
  (h:∀ s1 H' ys us,Inv X pins σ H' s1→Same H H'→Paired (Zb H') ys kvs→Vals ys us→R us s1):wpAny (model X.prog X.w) A (collect (.ref r)) R E s:=by
 have hS:H s.heap.objs.size=none:=I.hok.fresh (Nat.le_refl _)
 have I1:Inv X pins σ (upd H s.heap.objs.size (.lst [])) { s with heap:=s.heap.push { cls:=.type "list",data:=.seq ([]:List Value).toArray } }:=I.lnew (its:=[]) (t':=s.toks) .nil (Nat.zero_le _)
 have T1:(s.heap.push { cls:=.type "list",data:=.seq ([]:List Value).toArray }).get? s.heap.objs.size=some { cls:=.type "list",data:=.seq #[] }:=Heap.get?_push_size _ rfl
 unfold collect;refine wpAny_bind (wpAny_runValue (codeAny_builtin entry_proto_collect' ?_));rw [Around.under_plainId F.plain_proto_collect _]
 show wpAny _ A.in1 (newList [] >>= fun l=>again (.builtin "list.__iadd__" ⟨[l,.ref r],[]⟩)) _ _ s;refine wpAny_bind (wpAny_newObj_type ?_)
 refine wpAny_pure ⟨plainId_quiet F.plain_list_iadd _,codeAny_builtin entry_list_iadd' ?_⟩;rw [Around.under_plainId F.plain_list_iadd _]
 generalize s.heap.objs.size=S at *
 show wpAny _ A.in1 (Builtin.List.listExtendWith (.ref S) (.ref r) (.ref S)) _ _ _
 have key:=X2 (A:=A) (R:=fun (q:Result) (s':Shared)=>∃ H' ys,q=.ok (.ret (.ref S))∧Inv X pins σ H' s'∧Same H H'∧H' S=some (.lst ys)∧Paired (Zb H') ys kvs) (res:=.ref S) hh hS hr hd hl I1 T1 fun s' H' ys I' sm hy pr=>⟨H',ys,rfl,I',sm,hy,pr⟩
 have fin:∀ s':Shared,(∃ H' ys,Inv X pins σ H' s'∧Same H H'∧H' S=some (.lst ys)∧Paired (Zb H') ys kvs)→wpAny (model X.prog X.w) A (load S >>= fun o=>match o.data with | .seq xs _=>pure xs.toList | _=>unsupported "internal:collect") R E s':=fun s' ⟨H',ys,I',sm,hy,pr⟩=>by
  obtain ⟨z,its,n,rv,hl',e⟩:=I'.lstM hy
  refine wpAny_bind (wpAny_load e ?_)
  refine wpAny_pure ?_
  exact h s' H' ys its I' sm pr rv
 refine wpAny_mono key (fun f s' x=>?_) fun e s' x=>?_
 ·cases f with
  | done f =>
   obtain ⟨H',ys,e,x⟩:=x
   cases e
   exact fin s' ⟨H',ys,x⟩
  | again c₁ =>
   refine ⟨x.1,codeAny_mono x.2 fun q s₂ y=>?_⟩
   obtain ⟨H',ys,rfl,y⟩:=y
   exact fin s₂ ⟨H',ys,y⟩
 ·obtain ⟨_,_,e',_⟩:=x
  cases e'
end
section
variable {P:Program} {w:World} {A:Around} {E:Value→Shared→Prop} {s:Shared}
theorem zac {x y:Addr} {a b:Str × Int} {Q:Bool→Shared→Prop} (hu:A.units < cLine) (hx:PlAt s.heap (.ref x) a) (hy:PlAt s.heap (.ref y) b) (h:Q (z5 a b) s):wpAny (model P w) A (oneLt' false (.ref x) (.ref y)) Q E s:=by
 obtain ⟨p,o,t,u,n,e1,ho,hc,hd⟩:=hx
 obtain ⟨p2,o2,t2,u2,n2,e2,ho2,hc2,hd2⟩:=hy
 cases e1
 cases e2
 obtain ⟨c,dd,dat,sl⟩:=o
 obtain ⟨c2,dd2,dat2,sl2⟩:=o2
 simp only at hc hd hc2 hd2
 subst hc hd hc2 hd2
 have T1:s.TypeIs (.ref x) "tuple":=⟨_,ho,rfl⟩
 have T2:s.TypeIs (.ref y) "tuple":=⟨_,ho2,rfl⟩
 refine kat_one _ _ ?_
 show wpAny _ _ (richCompare .Lt (.ref x) (.ref y)) _ _ _
 refine wpAny_richCompare_same_room T1 T2 F.slot_tuple_lt ?_ hu
 exact call_meets F.slot_tuple_lt T1 F.entry_tuple_lt (F.args_tuple_lt_2 _ _) (YI x y a.1 b.1 a.2 b.2 t u t2 u2 n n2 dd dd2 sl sl2) ⟨ho,ho2,by simp,h⟩
theorem zad {h:Heap} {x:Addr} {a:Str × Int} (hx:PlAt h (.ref x) a):IsTupleKey (yv P w) h (zV a) x:=by
 obtain ⟨p,o,t,u,n,e1,ho,hc,hd⟩:=hx
 cases e1
 exact ⟨o,_,n,ho,hc,hd,Zn (ks:=zV a) (.cons ⟨t,rfl⟩ (.cons ⟨u,rfl⟩ .nil))⟩
def RvAt (h:Heap) (v:Value) (q:Row):Prop:=∃ a o p t n,v=.ref a∧h.get? a=some o∧o.cls=.type "tuple"∧o.data=.seq #[.ref p,.int q.2 t] n∧PlAt h (.ref p) q.1
theorem RvAt.keep {h h':Heap} {v:Value} {q:Row} (x:RvAt h v q) (k:∀ b o,h.get? b=some o→h'.get? b=some o):RvAt h' v q:=by
 obtain ⟨a,o,p,t,n,e,ho,hc,hd,hp⟩:=x
 exact ⟨a,o,p,t,n,e,k _ _ ho,hc,hd,hp.keep k⟩
theorem Kr {x y:Value} {a b:Row} {Q:Bool→Shared→Prop} (hu:A.units < cLine) (hx:RvAt s.heap x a) (hy:RvAt s.heap y b) (h:Q (z5 a.1 b.1) s) (hn:a.1≠b.1):wpAny (model P w) A (keyLt' (tuples' false) x y) Q E s:=by
 obtain ⟨p,o,pp,t,n,rfl,ho,hc,hd,hp⟩:=hx
 obtain ⟨p2,o2,pp2,t2,n2,rfl,ho2,hc2,hd2,hp2⟩:=hy
 refine kat_lt ho hd ho2 hd2 (kat_cons (wpAny_eqBool_tuple (knd:=yv P w) hu (zad hp) (zad hp2) (kat_go (fun e=>?_) fun e=>kat_no ?_)))
 ·exact absurd (xZ (of_decide_eq_true e)) hn
 ·exact zac hu hp hp2 h
theorem VF {vs:List Value} {qs:List Row} {Q:SortKind→Shared→Prop} (hl:vs.length=qs.length) (hv:∀ (i:Nat) (v:Value) (q:Row),vs[i]?=some v→qs[i]?=some q→RvAt s.heap v q) (h2:0 < vs.length) (h:Q (tuples' false) s) :
  wpAny (model P w) A (keyKind' vs.toArray) Q E s:=by
 have T:∀ (vs:List Value) (qs:List Row),vs.length=qs.length→(∀ (i:Nat) (v:Value) (q:Row),vs[i]?=some v→qs[i]?=some q→RvAt s.heap v q)→∃ fs,KatTups s.heap vs fs∧fs.length=vs.length∧∀ v∈fs,∃ p o,v=Value.ref p∧s.heap.get? p=some o∧o.cls=.type "tuple":=by
  intro vs
  induction vs with
  | nil=>exact fun qs _ _=>⟨[],trivial,rfl,fun _ z=>nomatch z⟩
  | cons v r ih =>
   intro qs hl hv
   match qs,hl with
   | q :: qr,hl =>
    obtain ⟨fs,k,kl,kf⟩:=ih qr (by simpa using hl) fun i v' q' e1 e2=>hv (i + 1) v' q' (by simpa using e1) (by simpa using e2)
    obtain ⟨a,o,p,t,n,rfl,ho,hc,hd,hp⟩:=hv 0 v q rfl rfl
    refine ⟨.ref p :: fs,KatTups.cons ho hc hd rfl k,by simp [kl],fun z hz=>?_⟩
    rcases List.mem_cons.mp hz with rfl | hz
    ·obtain ⟨p',o',_,_,_,e,g1,g2,_⟩:=hp
     cases e
     exact ⟨_,o',rfl,g1,g2⟩
    ·exact kf z hz
 obtain ⟨fs,k,kl,kf⟩:=T vs qs hl hv
 refine kat_kind (T:=.type "tuple") k (by lia) (fun v hv=>?_) (by decide) h
 obtain ⟨p,o,rfl,g1,g2⟩:=kf v hv
 exact g2 ▸ (W.Looks.ld g1).andThen .now
theorem WB {l:Addr} {κ:SortKind} {Q:Value→Shared→Prop} (G:List Value→(Nat→Nat→Bool)→Shared→Prop)
  (coll:∀ R:List Value→Shared→Prop,(∀ vs lt s1,G vs lt s1→R vs s1)→wpAny (model P w) A.in1 (collect (.ref l)) R E s)
  (h64:∀ vs lt s1,G vs lt s1→vs.length < 1000∧SO lt vs.length)
  (hk:∀ vs lt s1,G vs lt s1→2≤vs.length→∀ (h:Heap) (Q:SortKind→Shared→Prop),(∀ b o,s1.heap.get? b=some o→h.get? b=some o)→Q κ { s1 with heap:=h }→wpAny (model P w) A.in1.in1 (keyKind' vs.toArray) Q (fun _ _=>False) { s1 with heap:=h })
  (hc:∀ vs lt s1,G vs lt s1→∀ (h:Heap) i j C,(∀ b o,s1.heap.get? b=some o→h.get? b=some o)→i < vs.length→j < vs.length→i≠j→C (lt i j) { s1 with heap:=h }→kas_ask P w A.in1.in1 κ vs i j C { s1 with heap:=h })
  (fin:∀ vs lt s1,G vs lt s1→∀ (h':Heap) (p:Array Nat) (c:Nat),(∀ b o,s1.heap.get? b=some o→h'.get? b=some o)→h'.get? s1.heap.objs.size=some (seqObj "list" (wV vs p).toArray c)→PP vs.length p→YC lt p vs.length→Q (.ref s1.heap.objs.size) { s1 with heap:=h' }) :
  wpAny (model P w) A (call (.builtin "sorted") [.ref l]) Q E s:=by
 refine Calls.call_function_entry kind_sorted plain_sorted entry_sorted (args_sorted1 _) ?_;unfold Builtin.«sorted»
 refine wpAny_bind (m:=checkCount "sorted" 1 1 _) (wpAny_pure ?_);refine wpAny_bind (coll _ fun vs lt s1 g=>?_)
 obtain ⟨l64,S⟩:=h64 vs lt s1 g
 refine wpAny_bind (wpAny_newList ?_ (by rw [sizeLine_eq];lia))
 have hoL:(s1.heap.push (seqObj "list" vs.toArray 0)).get? s1.heap.objs.size=some (seqObj "list" vs.toArray 0):=Heap.get?_push_size _ rfl
 have kept:∀ h',Kp s1.heap.objs.size (s1.heap.push (seqObj "list" vs.toArray 0)) h'→∀ b o,s1.heap.get? b=some o→h'.get? b=some o:=fun h' k b o e=>k b o (Nat.ne_of_lt (Heap.lt_size e)) (Heap.get?_push_of_some _ e)
 refine wpAny_bind (wpAny_holding (wpAny_call_entry slot_list_sort ⟨_,hoL,rfl⟩ entry_list_sort (YH (s:={ s1 with heap:=s1.heap.push (seqObj "list" vs.toArray 0) }) hoL l64 (κ:=κ) (lt:=lt) (fun h2 h' Q' k q=>?_) (fun h' i j C k hi hj hij q=>?_) S fun h' p c k ho hp hr=>?_) (args_list_sort _)))
 ·exact hk vs lt s1 g h2 h' Q' (kept h' k) q
 ·exact hc vs lt s1 g h' i j C (kept h' k) hi hj hij q
 ·exact ⟨_,rfl,wpAny_pure ⟨_,rfl,fin vs lt s1 g h' p c (kept h' k) ho hp hr⟩⟩
end
end L2
namespace L2
open PySem PySem.Spec PyProof.Rows PySem.W
def d0:Row:=(("",0),0)
theorem zae (rows:List Row):∃ its:List Row,dOf rows=its.map (fun q=>(zV q.1,V.int q.2))∧(its.map (·.1)).Nodup∧∀ p w,(p,w)∈its↔z7 rows p=some w:=by
 have h:=vo rows
 have:∀ (kvs:List (List Key × V)),(∀ kv∈kvs,∃ (p:Pl) (w:Int),kv=(zV p,.int w))→∃ its:List Row,kvs=its.map (fun q=>(zV q.1,V.int q.2)):=fun kvs=>by
  induction kvs with
  | nil=>exact fun _=>⟨[],rfl⟩
  | cons kv r ih =>
   intro hk
   obtain ⟨qs,e⟩:=ih fun z hz=>hk z (List.mem_cons_of_mem _ hz)
   obtain ⟨p,w,e2⟩:=hk kv List.mem_cons_self
   exact ⟨(p,w) :: qs,by rw [List.map_cons,← e,e2]⟩
 obtain ⟨its,e⟩:=this _ h.2
 refine ⟨its,e,?_,fun p w=>?_⟩
 ·have:=h.1
  rw [e,List.map_map] at this
  refine xH (f:=zV) ?_
  rw [List.map_map]
  exact this
 ·have m:=mem_dOf (rows:=rows) (kv:=(zV p,V.int w))
  constructor
  ·intro hm
   obtain ⟨p',w',e1,e2⟩:=m.mp (by rw [e];exact List.mem_map.mpr ⟨_,hm,rfl⟩)
   have e3:=xZ (Prod.mk.inj e1).1
   have e4:=V.int.inj (Prod.mk.inj e1).2
   rw [e3,e4];exact e2
  ·intro hw
   have hm:=m.mpr ⟨p,w,rfl,hw⟩
   rw [e] at hm
   obtain ⟨q,hq,e1⟩:=List.mem_map.mp hm
   have e3:=xZ (Prod.mk.inj e1).1
   have e4:=V.int.inj (Prod.mk.inj e1).2
   rw [← e3,← e4];exact hq
theorem YN {α:Type} (l:List α) (d:α):(List.range l.length).map (fun i=>l.getD i d)=l:=by
 apply List.ext_getElem?
 intro i
 rw [List.getElem?_map]
 by_cases hi:i < l.length
 ·rw [List.getElem?_range hi,List.getElem?_eq_getElem hi]
  simp [List.getD_eq_getElem?_getD,List.getElem?_eq_getElem hi]
 ·rw [List.getElem?_eq_none (by simpa using hi),List.getElem?_eq_none (by lia)]
  rfl
theorem PP.list {n:Nat} {p:Array Nat} (h:PP n p):p.toList.Perm (List.range n):=by
 have:=Array.perm_iff_toList_perm.mp h
 simpa using this
theorem PP.lt {n:Nat} {p:Array Nat} (h:PP n p):∀ i∈p.toList,i < n:=fun i hi=>by
 have:=h.list.mem_iff.mp hi
 simpa using this
theorem YO {α:Type} {F:α→α→Bool} {l:List α} {d:α} {n:Nat} {p:Array Nat} (hp:PP n p) (hr:YC (fun i j=>F (l.getD i d) (l.getD j d)) p n):(p.toList.map fun i=>l.getD i d).Pairwise fun a b=>F a b=true:=by
 rw [List.pairwise_map,List.pairwise_iff_getElem]
 intro i j hi hj hij
 rw [Array.length_toList] at hi hj
 have g1:=wT hi
 have g2:=wT hj
 have sz:=hp.size
 have r:=hr i j hij (by lia)
 have x1:p.toList[i]=gt p i:=by
  rw [Array.getElem?_eq_getElem hi] at g1
  simpa using g1
 have x2:p.toList[j]=gt p j:=by
  rw [Array.getElem?_eq_getElem hj] at g2
  simpa using g2
 rw [x1,x2];exact r
theorem wX {α β:Type} {F:α→β→Prop} {l₁:List α} {l₂:List β} (h:Paired F l₁ l₂) (a:α) (b:β):∀ {is:List Nat},(∀ i∈is,i < l₁.length)→Paired F (is.map fun i=>l₁.getD i a) (is.map fun i=>l₂.getD i b)
 | [],_=>.nil
 | i :: r,hi=>by
  have l:=Paired.length h
  have h1:=hi i List.mem_cons_self
  refine .cons ?_ (wX h a b fun j hj=>hi j (List.mem_cons_of_mem _ hj))
  show F (l₁.getD i a) (l₂.getD i b)
  have e1:=List.getElem?_eq_getElem h1
  have e2:l₂[i]?=some l₂[i]:=List.getElem?_eq_getElem (by lia)
  rw [List.getD_eq_getElem?_getD,List.getD_eq_getElem?_getD,e1,e2]
  exact yL h e1 e2
abbrev VG:RC:=fun vs H Q=>∃ r d rows,vs=[.ref r]∧H r=some (qi r d)∧H d=some (.dT (dOf rows))∧(dOf rows).length < 1000 ∧
 ∀ l ys srt H',Same H H'→H l=none→H' l=some (.lst ys)→Paired (jE H') ys srt→Rising srt→(∀ p w,(p,w)∈srt↔z7 rows p=some w)→Q (.ref l) H'
theorem zaf {H:Hp}:∀ {ys:List V} {its:List Row},Paired (Zb H) ys (its.map fun q=>(zV q.1,V.int q.2))→Paired (jE H) ys its
 | _,[],h=>by cases h;exact .nil
 | _,q :: r,h=>by
  rw [List.map_cons] at h
  cases h with
  | cons a t=>exact .cons a (zaf t)
section
variable {X:Cx}
theorem zbO {pins:List (Addr × Obj)} {σ:St} {H:Hp} {s:Shared} {v:V} {u:Value} {q:Row} (I:Inv X pins σ H s) (h:jE H v q) (r:RelV v u):RvAt s.heap u q:=by
 obtain ⟨a,p,rfl,h1,h2⟩:=h
 cases r
 obtain ⟨_,its,rv,o,o1,o2,n,o3⟩:=(show ObjOk X.prog X.w H s.heap a (.tup [.ref p,.int q.2]) from I.hok a _ h1)
 cases rv with
 | cons r1 rr =>
  cases rr with
  | cons r2 rn =>
   cases rn
   cases r1
   obtain ⟨t,rfl⟩:=r2
   exact ⟨a,o,p,t,n,rfl,o1,o2,o3,Vw I h2⟩
theorem Zc (hc:X.calm=true) (hu:X.A.units + 3 < cLine):je X (.builtin "sorted") VG:=by
 intro pins s σ H vs us Q I r0 h
 obtain ⟨r,d,rows,rfl,hr,hd,h64,q⟩:=h
 obtain ⟨u,rfl,ru⟩:=qP r0
 cases ru
 have hh:X.A.handled=none:=I.ok.hd hc
 obtain ⟨its,ei,nd,mi⟩:=zae rows
 have li:(dOf rows).length=its.length:=by rw [ei,List.length_map]
 have so:=qx nd
 have vat:∀ {s1:Shared} {H':Hp} {ys:List V} {vs:List Value},Inv X pins σ H' s1→Paired (jE H') ys its→Vals ys vs→∀ (i:Nat) (q:Row),its[i]?=some q→∃ v,vs[i]?=some v∧RvAt s1.heap v q:=fun {s1 H' ys vs} I' pr rv i q hq=>by
  have hi:=(List.getElem?_eq_some_iff.mp hq).1
  have l1:=Paired.length pr
  obtain ⟨y,hy⟩:∃ y,ys[i]?=some y:=⟨_,List.getElem?_eq_getElem (by lia)⟩
  obtain ⟨u,hu',ru⟩:=rv.get hy
  exact ⟨u,hu',zbO I' (yL pr hy hq) ru⟩
 refine WB (κ:=tuples' false) (fun vs lt s1=>∃ H' ys,Inv X pins σ H' s1∧Same H H'∧Paired (jE H') ys its∧Vals ys vs∧lt=fun i j=>z5 ((its.map (·.1)).getD i (("",0):Pl)) ((its.map (·.1)).getD j (("",0):Pl)))
  (fun R hR=>Jy (A:=X.A.in1) hh hr hd (by lia) I fun s1 H' ys us I' sm pr rv=>hR us _ s1 ⟨H',ys,I',sm,zaf (by rw [← ei];exact pr),rv,rfl⟩) ?_ ?_ ?_ ?_
 ·rintro vs lt s1 ⟨H',ys,I',sm,pr,rv,rfl⟩
  have l1:=Paired.length pr
  have l2:=rv.length
  refine ⟨by lia,?_⟩
  rw [show vs.length=(its.map (·.1)).length by rw [List.length_map];lia]
  exact so
 ·rintro vs lt s1 ⟨H',ys,I',sm,pr,rv,rfl⟩ h2 h Q' k q'
  have l1:=Paired.length pr
  have l2:=rv.length
  refine VF (s:={ s1 with heap:=h }) (qs:=its) (by lia) (fun i v q hv hq=>?_) (by lia) q'
  obtain ⟨v',hv',rr⟩:=vat I' pr rv i q hq
  rw [hv] at hv'
  cases hv'
  exact rr.keep k
 ·rintro vs lt s1 ⟨H',ys,I',sm,pr,rv,rfl⟩ h i j C k hi hj hij q'
  have l1:=Paired.length pr
  have l2:=rv.length
  have e1:its[i]?=some its[i]:=List.getElem?_eq_getElem (by lia)
  have e2:its[j]?=some its[j]:=List.getElem?_eq_getElem (by lia)
  obtain ⟨v1,g1,r1⟩:=vat I' pr rv i _ e1
  obtain ⟨v2,g2,r2⟩:=vat I' pr rv j _ e2
  have n1:(its.map (·.1)).getD i (("",0):Pl)=its[i].1:=by rw [List.getD_eq_getElem?_getD,List.getElem?_map,e1];rfl
  have n2:(its.map (·.1)).getD j (("",0):Pl)=its[j].1:=by rw [List.getD_eq_getElem?_getD,List.getElem?_map,e2];rfl
  have m1:vs.getD i Value.none=v1:=by rw [List.getD_eq_getElem?_getD,g1];rfl
  have m2:vs.getD j Value.none=v2:=by rw [List.getD_eq_getElem?_getD,g2];rfl
  simp only [n1,n2] at q'
  have key:=Kr (P:=X.prog) (w:=X.w) (A:=X.A.in1.in1) (E:=fun _ _=>False) (s:={ s1 with heap:=h }) (Q:=C) (by have e:X.A.in1.in1.units=X.A.units + 2:=rfl;lia) (r1.keep k) (r2.keep k) q' fun z=>hij (by
   have e3:(its.map (·.1))[i]?=some its[i].1:=by rw [List.getElem?_map,e1];rfl
   have e4:(its.map (·.1))[j]?=some its[j].1:=by rw [List.getElem?_map,e2];rfl
   rw [z] at e3
   exact (List.getElem?_inj (by rw [List.length_map];lia) nd).mp (e3.trans e4.symm))
  rw [← m1,← m2] at key
  exact key
 ·rintro vs lt s1 ⟨H',ys,I',sm,pr,rv,rfl⟩ h' p c k hD hp hr
  have l1:=Paired.length pr
  have l2:=rv.length
  have hp':PP its.length p:=by rw [show its.length=vs.length by lia];exact hp
  have fr:H' s1.heap.objs.size=none:=I'.hok.fresh (Nat.le_refl _)
  have sz:=hp'.size
  have pk:=wX pr V.non d0 (is:=p.toList) fun i hi=>by have:=hp'.lt i hi;lia
  have vk:Vals (p.toList.map fun i=>ys.getD i V.non) (wV vs p):=wX rv V.non Value.none (is:=p.toList) fun i hi=>by have:=hp'.lt i hi;lia
  have I2:Inv X pins σ (upd H' s1.heap.objs.size (.lst (p.toList.map fun i=>ys.getD i V.non))) { s1 with heap:=h' }:=I'.laid (a:=s1.heap.objs.size) (o:=.lst (p.toList.map fun i=>ys.getD i V.non)) (t':=s1.toks) k (Nat.le_refl _)
   ⟨by rw [List.length_map,Array.length_toList];exact Nat.le_trans (by lia:_≤1000) (by decide),wV vs p,c,vk,hD⟩
  have S2:Same H' (upd H' s1.heap.objs.size (.lst (p.toList.map fun i=>ys.getD i V.non))):=isV _ fr
  have hn:H s1.heap.objs.size=none:=by
   cases e:H s1.heap.objs.size with
   | none=>rfl
   | some o=>rw [sm _ _ e] at fr;cases fr
  have mono:∀ {us:List V} {ws:List Row},Paired (jE H') us ws→Paired (jE (upd H' s1.heap.objs.size (.lst (p.toList.map fun i=>ys.getD i V.non)))) us ws:=fun {us ws} h=>by
   induction h with
   | nil=>exact .nil
   | cons a _ ih =>
    obtain ⟨r,p,e,h1,h2⟩:=a
    exact .cons ⟨r,p,e,S2 _ _ h1,S2 _ _ h2⟩ ih
  refine ⟨.ref s1.heap.objs.size,_,I2,rfl,q _ _ (p.toList.map fun i=>its.getD i d0) _ (sm.trans S2) hn zf (mono pk) ?_ fun pl wv=>?_⟩
  ·have hr':YC (fun i j=>z5 ((its.map (·.1)).getD i (("",0):Pl)) ((its.map (·.1)).getD j (("",0):Pl))) p its.length:=by rw [show its.length=vs.length by lia];exact hr
   have pw:=YO (F:=z5) hp' hr'
   have eq:(p.toList.map fun i=>its.getD i d0).map (·.1)=p.toList.map fun i=>(its.map (·.1)).getD i (("",0):Pl):=by
    rw [List.map_map]
    refine List.map_congr_left fun i hi=>?_
    have hi:=hp'.lt i hi
    simp [List.getD_eq_getElem?_getD,List.getElem?_map,List.getElem?_eq_getElem hi]
   rw [← eq,List.pairwise_map] at pw
   exact pw
  ·have pm:(p.toList.map fun i=>its.getD i d0).Perm its:=by
    refine (hp'.list.map _).trans ?_
    rw [YN]
   rw [pm.mem_iff]
   exact mi pl wv
end
end L2
namespace L2
open PySem PySem.Spec PyProof.Rows
def zag (lo c:Int) (n:Nat):It:=⟨fun i _=>i < n,fun i H x H'=>H'=H∧x=.int (lo + i * c),fun i _=>n≤i⟩
theorem VH {P:Program} {w:World} {K:W.Frag} {tg:Expr} (it:Addr) (lo c:Int) (n:Nat):KG P w K tg (zag lo c n) [it] it (fun i h=>IsRangeIter h it (lo + (i:Nat) * c) ((n:Int) - (i:Nat)) c) where
 mem:=by simp
 obj:=fun i h st b hb=>by
  have e:b=it:=by simpa using hb
  subst e
  refine ⟨_,st,fun v z=>?_⟩
  have z':Data.fields _=Data.cell v:=z
  cases z'
 keep:=fun i h h' st k=>k it (by simp) _ st
 item:=by
  intro X hP hw hK hc i pins s σ H E I hf st hg;subst hP hw hK
  obtain ⟨f0,f1,f2,f3,f4,f5⟩:=hf it (by simp)
  refine (Walks.range (prog:=X.prog) (w:=X.w) (I.ok.hd hc) it lo c n).item i s _ _ hg st fun v h' tk hv st' kk=>?_
  obtain ⟨t,rfl⟩:=hv
  have I1:Inv X pins σ H { s with heap:=h',toks:=tk }:=I.turned (fun b o hb e=>kk b o (by simpa using hb) e) f0 f1 f3 f4 f5
  exact ⟨_,rfl,JQ (s:={ s with heap:=h',toks:=tk }) (n:="range_iterator") st' rfl rfl (by decide) ⟨.int (lo + i * c),H,I1,⟨t,rfl⟩,⟨rfl,rfl⟩,st',fun b hb=>(hf b hb).1⟩⟩
 done:=by
  intro X hP hw hK hc i pins s σ H E I hf st hg;subst hP hw hK
  obtain ⟨f0,f1,f2,f3,f4,f5⟩:=hf it (by simp)
  exact wpAny_pyNext_range_end (I.ok.hd hc) st (by have:n≤i:=hg;lia) fun h' eb=>⟨rfl,I.turned (t':=s.toks) (fun b o hb e=>eb b o hb e) f0 f1 f3 f4 f5⟩
 self:=fun _ _ _ _ _ st h=>wpAny_pyIter_rangeiter st h
def WC (i j c:Int):Nat:=if i < j then ((j - i - 1) / c + 1).toNat else 0
def VI (ta:TA):TI:=fun σ H R=>ta σ H fun vs H1=>∃ i j c:Int,vs=[.int i,.int j,.int c]∧(0≤i∧i < 1073741824∧0≤j∧j < 1073741824∧0 < c∧c < 1073741824)∧R (zag i c (WC i j c)) H1
section
variable {X:Cx} {tg:Expr}
theorem K7 {a b c:Expr} {ta:TA} {p pos:Pos} (hg:Gl X "range") (hm:X.mg "range"=none) (ha:PA X [a,b,c] ta) (hs:starEach [a,b,c] X.env=[(false,eval a X.env),(false,eval b X.env),(false,eval c X.env)]:=by rfl) (hs2:starEach [b,c] X.env=[(false,eval b X.env),(false,eval c X.env)]:=by rfl) :
  PI X tg (.Call (.Name "range" p) [a,b,c] [] pos) (VI ta):=by
 intro pins s σ H R I h
 refine Call_ (Yb I hg hm boot_range (PyProof.Rows.callWith_type1 (thn (ha pos pins s σ H _ I h) fun us s1 ⟨vs,H1,I1,r1,q1⟩=>?_) (by rw [hs,hs2]) (by rw [hs2];rfl)))
 obtain ⟨i,j,c,e,⟨q1,q2,q3,q4,q5,q6⟩,q⟩:=q1
 subst e
 cases r1 with
 | cons r rr =>
  cases rr with
  | cons r' rr =>
   cases rr with
   | cons r'' rr =>
    cases rr
    obtain ⟨t,rfl⟩:=r
    obtain ⟨t',rfl⟩:=r'
    obtain ⟨t'',rfl⟩:=r''
    refine call_range_3 (by lia) ?_ (.inl (PyProof.noPylong_small (by lia)))
    have hz:Builtin.Range.rangeSize i j c=(WC i j c:Int):=by
     unfold Builtin.Range.rangeSize WC
     rw [if_pos q5]
     split
     ·rename_i h
      have:=Int.ediv_nonneg (a:=j - i - 1) (b:=c) (by lia) (by lia)
      lia
     ·rfl
    have hb:(WC i j c:Int)≤1073741824∧(WC i j c:Int) * c≤2147483648:=by
     unfold WC
     split
     ·rename_i h
      have h1:=Int.ediv_nonneg (a:=j - i - 1) (b:=c) (by lia) (by lia)
      have h2:=Int.ediv_le_self (a:=j - i - 1) c (by lia)
      have h3:=Int.ediv_mul_le (j - i - 1) (b:=c) (by lia)
      rw [Int.toNat_of_nonneg (by lia),Int.add_mul]
      lia
     ·simp
    generalize WC i j c=n at *
    have sm:Builtin.Range.small i j c=true:=by
     unfold Builtin.Range.small
     rw [hz]
     simp only [Builtin.Range.rangeFitsLong,Bool.and_eq_true,Bool.or_eq_true,decide_eq_true_eq,beq_iff_eq,show c > 0 from q5,if_true]
     lia
    refine wpAny_pyIter_range (IsRange.new ..) sm ?_
    rw [hz]
    have I2:Inv X pins σ H1 { s1 with heap:=s1.heap.push { cls:=.type "range",data:=.fields #[.int i t,.int j t',.int c t''] },toks:=s1.toks }:=I1.kept fun b o e=>Heap.get?_push_of_some _ e
    refine ⟨(s1.heap.push { cls:=.type "range",data:=.fields #[.int i t,.int j t',.int c t''] }).objs.size,[(s1.heap.push { cls:=.type "range",data:=.fields #[.int i t,.int j t',.int c t''] }).objs.size],_,_,H1,rfl,I2.kept (t':=s1.toks) fun b o e=>Heap.get?_push_of_some _ e,VH _ i c n,?_,fun b hb=>?_,q⟩
    ·show IsRangeIter _ _ (i + ((0:Nat):Int) * c) ((n:Int) - ((0:Nat):Int)) c
     rw [show i + ((0:Nat):Int) * c=i by simp,show (n:Int) - ((0:Nat):Int)=n by simp]
     exact Heap.get?_push_size _ rfl
    ·have e:b=(s1.heap.push { cls:=.type "range",data:=.fields #[.int i t,.int j t',.int c t''] }).objs.size:=by simpa using hb
     subst e
     exact I2.fpOk (Nat.le_refl _) (I2.hok.fresh (Nat.le_refl _))
end
end L2
namespace L2
open PySem
structure StOk (n:Nat) (s:Sta):Prop where
 so:xy s.sl
 wo:∀ r∈s.wo,inW r.2=true
 l1:s.sl.length≤n
 l2:s.wo.length≤n
 l3:s.sa.length≤n
theorem StOk.mono {n m:Nat} {s:Sta} (h:StOk n s) (l:n≤m):StOk m s:=⟨h.so,h.wo,Nat.le_trans h.l1 l,Nat.le_trans h.l2 l,Nat.le_trans h.l3 l⟩
theorem X3 {kvs:List (Key × V)} (h:xy kvs) (k:Key) {i:Int} (hi:inW i=true):xy (yT kvs k (.int i)):=fun k' v e=>by
 rw [W6] at e
 by_cases c:k'=k
 ·rw [if_pos c] at e
  exact ⟨i,(Option.some.inj e).symm,hi⟩
 ·rw [if_neg c] at e
  exact h k' v e
theorem Ks {P:Row→Prop} {p:Pl} {w:Int}:∀ {l:List Row},(∀ r∈l,P r)→z7 l p=some w→P (p,w)
 | [],_,h=>by cases h
 | r :: t,hp,h=>by
  rw [z7] at h
  cases e:z7 t p with
  | some w' =>
   rw [e] at h
   have:w'=w:=by simpa using h
   subst this
   exact Ks (fun r hr=>hp r (List.mem_cons_of_mem _ hr)) e
  | none =>
   rw [e] at h
   by_cases c:r.1=p
   ·rw [if_pos c] at h
    have:r.2=w:=by simpa using h
    rw [← c,← this];exact hp r List.mem_cons_self
   ·rw [if_neg c] at h;cases h
theorem zah {l:List Row} (h:∀ r∈l,inW r.2=true) (p:Pl):inW ((z7 l p).getD 0)=true:=by
 cases e:z7 l p with
 | none=>rfl
 | some w=>exact Ks (P:=fun r=>inW r.2=true) h e
theorem zbi {n:Nat} {s:Sta} (h:StOk n s) (x:Str) (p:Pl):StOk (n + 1) { s with sl:=yT s.sl (.inr x) (.int ((z7 s.wo p).getD 0)) } :=
 ⟨X3 h.so _ (zah h.wo p),h.wo,Nat.le_trans (xS _ _ _) (Nat.succ_le_succ h.l1),Nat.le_succ_of_le h.l2,Nat.le_succ_of_le h.l3⟩
theorem zbj {n:Nat} {s:Sta} (h:StOk n s) (p:Pl) {w:Int} (hw:inW w=true):StOk (n + 1) { s with wo:=s.wo ++ [(p,w)] } :=
 ⟨h.so,fun r hr=>by
  rcases List.mem_append.mp hr with hr | hr
  ·exact h.wo r hr
  ·rw [List.mem_singleton.mp hr];exact hw,Nat.le_succ_of_le h.l1,by show (s.wo ++ [(p,w)]).length≤n + 1;rw [List.length_append];exact Nat.succ_le_succ h.l2,Nat.le_succ_of_le h.l3⟩
theorem zce {n:Nat} {s:Sta} (h:StOk n s) (x:Str) {w:Int} (hw:inW w=true):StOk (n + 1) { s with sl:=yT s.sl (.inr x) (.int w) } :=
 ⟨X3 h.so _ hw,h.wo,Nat.le_trans (xS _ _ _) (Nat.succ_le_succ h.l1),Nat.le_succ_of_le h.l2,Nat.le_succ_of_le h.l3⟩
theorem zcf {n:Nat} {s:Sta} (h:StOk n s) (w:Int):StOk (n + 1) { s with sa:=s.sa ++ [w] } :=
 ⟨h.so,h.wo,Nat.le_succ_of_le h.l1,Nat.le_succ_of_le h.l2,by show (s.sa ++ [w]).length≤n + 1;rw [List.length_append];exact Nat.succ_le_succ h.l3⟩
mutual
theorem Jz:∀ (r:Rw) {n:Nat} {s s':Sta},StOk n s→wW r→goR r s=.go s'→StOk (n + r.cnt) s'
 | .take sh e sl,n,s,s',h,k,g=>by
  unfold goR at g
  unfold wW at k
  split at g
  ·cases g;exact zbi h _ _
  ·cases g
 | .give sh e f,n,s,s',h,k,g=>by
  unfold goR at g
  unfold wW at k
  split at g
  ·split at g
   ·rename_i w hw
    cases g
    exact zbj h _ (Q9 h.so k.2.2.1 hw)
   ·cases g
  ·cases g
 | .lt sl e,n,s,s',h,k,g=>by
  unfold goR at g
  unfold wW at k
  split at g
  ·rename_i w hw
   cases g
   exact zce h _ (Q9 h.so k.2.1 hw)
  ·cases g
 | .say e,n,s,s',h,k,g=>by
  unfold goR at g
  split at g
  ·cases g;exact zcf h _
  ·cases g
 | .off e,n,s,s',h,k,g=>by
  unfold goR at g
  split at g
  ·split at g
   ·cases g;exact h.mono (Nat.le_add_right _ _)
   ·cases g
  ·cases g
 | .iff e a b,n,s,s',h,k,g=>by
  unfold goR at g
  unfold wW at k
  have c:(Rw.iff e a b).cnt=max a.cnt b.cnt + 1:=by rw [Rw.cnt]
  rw [c]
  split at g
  ·split at g
   ·exact (kX b h k.2.2 g).mono (by lia)
   ·exact (kX a h k.2.1 g).mono (by lia)
  ·cases g
theorem kX:∀ (r:Rws) {n:Nat} {s s':Sta},StOk n s→yJ r→yM r s=.go s'→StOk (n + r.cnt) s'
 | .nil,n,s,s',h,k,g=>by
  unfold yM at g
  cases g
  exact h.mono (Nat.le_add_right _ _)
 | .cons r rs,n,s,s',h,k,g=>by
  unfold yM at g
  unfold yJ at k
  have c:(Rws.cons r rs).cnt=r.cnt + rs.cnt:=by rw [Rws.cnt]
  rw [c]
  split at g
  ·rename_i s1 e1
   exact (kX rs (Jz r h k.1 e1) k.2 g).mono (by lia)
  ·rename_i x hx
   exact absurd g (hx s')
end
mutual
def qA (P:Pl→Prop):Rw→Prop
 | .give sh e _=>∀ kvs n,rk kvs e=.ok n→P (sh,n)
 | .iff _ a b=>x0 P a∧x0 P b
 | _=>True
def x0 (P:Pl→Prop):Rws→Prop
 | .nil=>True
 | .cons r rs=>qA P r∧x0 P rs
end
mutual
theorem zcg {P:Pl→Prop}:∀ (r:Rw) {s s':Sta},(∀ q∈s.wo,P q.1)→qA P r→goR r s=.go s'→∀ q∈s'.wo,P q.1
 | .take sh e sl,s,s',h,k,g=>by
  unfold goR at g
  split at g
  ·cases g;exact h
  ·cases g
 | .give sh e f,s,s',h,k,g=>by
  unfold goR at g
  unfold qA at k
  split at g
  ·rename_i n hn
   split at g
   ·cases g
    intro q hq
    rcases List.mem_append.mp hq with hq | hq
    ·exact h q hq
    ·rw [List.mem_singleton.mp hq];exact k _ _ hn
   ·cases g
  ·cases g
 | .lt sl e,s,s',h,k,g=>by
  unfold goR at g
  split at g
  ·cases g;exact h
  ·cases g
 | .say e,s,s',h,k,g=>by
  unfold goR at g
  split at g
  ·cases g;exact h
  ·cases g
 | .off e,s,s',h,k,g=>by
  unfold goR at g
  split at g
  ·split at g
   ·cases g;exact h
   ·cases g
  ·cases g
 | .iff e a b,s,s',h,k,g=>by
  unfold goR at g
  unfold qA at k
  split at g
  ·split at g
   ·exact Z6 b h k.2 g
   ·exact Z6 a h k.1 g
  ·cases g
theorem Z6 {P:Pl→Prop}:∀ (r:Rws) {s s':Sta},(∀ q∈s.wo,P q.1)→x0 P r→yM r s=.go s'→∀ q∈s'.wo,P q.1
 | .nil,s,s',h,k,g=>by
  unfold yM at g
  cases g
  exact h
 | .cons r rs,s,s',h,k,g=>by
  unfold yM at g
  unfold x0 at k
  split at g
  ·rename_i s1 e1
   exact Z6 rs (zcg r h k.1 e1) k.2 g
  ·rename_i x hx
   exact absurd g (hx s')
end
inductive Oc where
 | done (sa:List Int)
 | off (why:Str)
def YQ:Er→Str
 | .great=>"great"
 | _=>"nought"
def AloneR (rws:Rws) (tab:List Row) (oc:Oc) (out:List Row):Prop:=match yM rws ⟨[],tab,[]⟩ with
 | .go s=>oc=.done s.sa∧kq s.wo out
 | .off=>oc=.off "told"∧out=tab
 | .er e=>oc=.off (YQ e)∧out=tab
theorem AloneR.uniq {rws:Rws} {tab out out':List Row} {oc oc':Oc} (h:AloneR rws tab oc out) (h':AloneR rws tab oc' out'):oc=oc'∧out=out':=by
 unfold AloneR at h h'
 split at h
 ·rename_i s e
  rw [e] at h'
  exact ⟨h.1.trans h'.1.symm,Q4 h.2 h'.2⟩
 ·rename_i e
  rw [e] at h'
  exact ⟨h.1.trans h'.1.symm,h.2.trans h'.2.symm⟩
 ·rename_i e1 e
  rw [e] at h'
  exact ⟨h.1.trans h'.1.symm,h.2.trans h'.2.symm⟩
inductive zch:List Rws→List Row→List Oc→List Row→Prop
 | nil {tab:List Row}:zch [] tab [] tab
 | cons {d:Rws} {ds:List Rws} {tab mid out:List Row} {oc:Oc} {ocs:List Oc}:AloneR d tab oc mid→zch ds mid ocs out→zch (d :: ds) tab (oc :: ocs) out
theorem zbk {rows its out:List Row} (nd:(its.map (·.1)).Nodup) (hi:∀ p w,(p,w)∈its↔z7 rows p=some w) (t:kq its out):kq rows out:=by
 refine ⟨t.1,fun p w=>(t.2 p w).trans ?_⟩
 rw [Kn nd,hi]
def ZI:V→PyData
 | .int i=>.int i
 | .str x=>.str x
 | _=>.none
def plV (v:V):Prop:=(∃ i,v=.int i)∨∃ x,v=.str x∧PyData.strOk x=true
def jU (e:List V):PyData:=.tuple (e.map ZI)
mutual
def rwD:Rw→PyData
 | .take sh e sl=>.tuple [.str "take",.str sh,jU e,.str sl]
 | .give sh e f=>.tuple [.str "give",.str sh,jU e,jU f]
 | .lt sl e=>.tuple [.str "let",.str sl,jU e]
 | .say e=>.tuple [.str "say",jU e]
 | .off e=>.tuple [.str "off",jU e]
 | .iff e a b=>.tuple [.str "if",jU e,.list (qB a),.list (qB b)]
def qB:Rws→List PyData
 | .nil=>[]
 | .cons r rs=>rwD r :: qB rs
end
def tmP (e:List V):Prop:=∀ v∈e,plV v
mutual
def wZ:Rw→Prop
 | .take sh e sl=>PyData.strOk sh=true∧tmP e∧PyData.strOk sl=true
 | .give sh e f=>PyData.strOk sh=true∧tmP e∧tmP f
 | .lt sl e=>PyData.strOk sl=true∧tmP e
 | .say e=>tmP e
 | .off e=>tmP e
 | .iff e a b=>tmP e∧yX a∧yX b
def yX:Rws→Prop
 | .nil=>True
 | .cons r rs=>wZ r∧yX rs
end
section
variable {K:W.Frag} {H:Hp} {F:Addr→Prop}
theorem zai {v:V} (h:plV v):Dat K H v (ZI v):=by
 rcases h with ⟨i,rfl⟩ | ⟨x,rfl,_⟩
 ·exact .int i
 ·exact .str x
theorem X4:∀ {e:List V},tmP e→DatAll K H e (e.map ZI)
 | [],_=>.nil
 | v :: r,h=>.cons (zai (h v List.mem_cons_self)) (X4 fun u hu=>h u (List.mem_cons_of_mem _ hu))
theorem vp {a:Addr} {e:List V} (h:H a=some (.tup e)) (p:tmP e):Dat K H (.ref a) (jU e):=.tup (SqT.of h) (X4 p)
mutual
theorem zci:∀ (r:Rw) {v:V},RwAt F H v r→wZ r→Dat K H v (rwD r)
 | .take sh e sl,v,h,p=>by
  unfold RwAt at h
  unfold wZ at p
  obtain ⟨r,te,rfl,f1,f2,e2,e3⟩:=h
  rw [rwD]
  exact .tup (SqT.of e2) (.cons (.str _) (.cons (.str _) (.cons (vp e3 p.2.1) (.cons (.str _) .nil))))
 | .give sh e f,v,h,p=>by
  unfold RwAt at h
  unfold wZ at p
  obtain ⟨r,te,tf,rfl,f1,f2,f3,e2,e3,e4⟩:=h
  rw [rwD]
  exact .tup (SqT.of e2) (.cons (.str _) (.cons (.str _) (.cons (vp e3 p.2.1) (.cons (vp e4 p.2.2) .nil))))
 | .lt sl e,v,h,p=>by
  unfold RwAt at h
  unfold wZ at p
  obtain ⟨r,te,rfl,f1,f2,e2,e3⟩:=h
  rw [rwD]
  exact .tup (SqT.of e2) (.cons (.str _) (.cons (.str _) (.cons (vp e3 p.2) .nil)))
 | .say e,v,h,p=>by
  unfold RwAt at h
  unfold wZ at p
  obtain ⟨r,te,rfl,f1,f2,e2,e3⟩:=h
  rw [rwD]
  exact .tup (SqT.of e2) (.cons (.str _) (.cons (vp e3 p) .nil))
 | .off e,v,h,p=>by
  unfold RwAt at h
  unfold wZ at p
  obtain ⟨r,te,rfl,f1,f2,e2,e3⟩:=h
  rw [rwD]
  exact .tup (SqT.of e2) (.cons (.str _) (.cons (vp e3 p) .nil))
 | .iff e a b,v,h,p=>by
  unfold RwAt at h
  unfold wZ at p
  obtain ⟨r,te,la,lb,xs,ys,rfl,f1,f2,f3,f4,e2,e3,e4,e5,e6,e7⟩:=h
  rw [rwD]
  exact .tup (SqT.of e2) (.cons (.str _) (.cons (vp e3 p.1) (.cons (.lst (SqL.of e4) (Z7 a e5 p.2.1)) (.cons (.lst (SqL.of e6) (Z7 b e7 p.2.2)) .nil))))
theorem Z7:∀ (r:Rws) {vs:List V},RwsAt F H vs r→yX r→DatAll K H vs (qB r)
 | .nil,vs,h,p=>by
  unfold RwsAt at h
  subst h
  rw [qB];exact .nil
 | .cons r rs,vs,h,p=>by
  unfold RwsAt at h
  unfold yX at p
  obtain ⟨v,ws,rfl,e2,e3⟩:=h
  rw [qB]
  exact .cons (zci r e2 p.1) (Z7 rs e3 p.2)
end
theorem RlAt.dat {v:V} {r:Rws} (h:RlAt F H v r) (p:yX r):Dat K H v (.list (qB r)):=by
 obtain ⟨a,xs,rfl,f,e1,e2⟩:=h
 exact .lst (SqL.of e1) (Z7 r e2 p)
end
theorem ZJ:∀ {e:List V},tmP e→zY (e.map ZI)=true
 | [],_=>by simp [zY]
 | v :: r,h=>by
  rw [List.map_cons,zY,ZJ fun u hu=>h u (List.mem_cons_of_mem _ hu),Bool.and_true]
  rcases h v List.mem_cons_self with ⟨i,rfl⟩ | ⟨x,rfl,hx⟩
  ·rw [ZI,zK]
  ·rw [ZI,zK];exact hx
theorem xO {e:List V} (h:tmP e):zK (jU e)=true:=by rw [jU,zK];exact ZJ h
theorem YR:∀ (e:List V),PyData.depthAll (e.map ZI)=0
 | []=>by simp [PyData.depthAll]
 | v :: r=>by
  rw [List.map_cons,PyData.depthAll,YR r]
  cases v <;> simp [ZI,PyData.depth]
theorem wA (e:List V):(jU e).depth≤1:=by rw [jU,PyData.depth,YR];lia
theorem zaj:PyData.strOk "take"=true:=by decide +kernel
theorem zak:PyData.strOk "give"=true:=by decide +kernel
theorem zbl:PyData.strOk "let"=true:=by decide +kernel
theorem zbm:PyData.strOk "say"=true:=by decide +kernel
theorem Kt:PyData.strOk "off"=true:=by decide +kernel
theorem zcj:PyData.strOk "if"=true:=by decide +kernel
mutual
theorem zal:∀ (r:Rw),wZ r→zK (rwD r)=true
 | .take sh e sl,p=>by unfold wZ at p;rw [rwD];simp [zK,zY,zaj,xO p.2.1,p.1,p.2.2]
 | .give sh e f,p=>by unfold wZ at p;rw [rwD];simp [zK,zY,zak,xO p.2.1,p.1,xO p.2.2]
 | .lt sl e,p=>by unfold wZ at p;rw [rwD];simp [zK,zY,zbl,xO p.2,p.1]
 | .say e,p=>by unfold wZ at p;rw [rwD];simp [zK,zY,zbm,xO p]
 | .off e,p=>by unfold wZ at p;rw [rwD];simp [zK,zY,Kt,xO p]
 | .iff e a b,p=>by unfold wZ at p;rw [rwD];simp [zK,zY,zcj,xO p.1,kY a p.2.1,kY b p.2.2]
theorem kY:∀ (r:Rws),yX r→zY (qB r)=true
 | .nil,_=>by rw [qB,zY]
 | .cons r rs,p=>by unfold yX at p;rw [qB,zY,zal r p.1,kY rs p.2];rfl
end
mutual
theorem zbn:∀ (r:Rw),(rwD r).depth≤2 * r.deep + 2
 | .take sh e sl=>by have:=wA e;rw [rwD];simp [PyData.depth,PyData.depthAll];lia
 | .give sh e f=>by have:=wA e;have:=wA f;rw [rwD];simp [PyData.depth,PyData.depthAll];lia
 | .lt sl e=>by have:=wA e;rw [rwD];simp [PyData.depth,PyData.depthAll];lia
 | .say e=>by have:=wA e;rw [rwD];simp [PyData.depth,PyData.depthAll];lia
 | .off e=>by have:=wA e;rw [rwD];simp [PyData.depth,PyData.depthAll];lia
 | .iff e a b=>by
  have:=wA e
  have h1:=Zd a
  have h2:=Zd b
  have c:(Rw.iff e a b).deep=max a.deep b.deep + 1:=by rw [Rw.deep]
  rw [rwD,c];simp [PyData.depth,PyData.depthAll];lia
theorem Zd:∀ (r:Rws),PyData.depthAll (qB r)≤2 * r.deep + 2
 | .nil=>by rw [qB];simp [PyData.depthAll]
 | .cons r rs=>by
  have h1:=zbn r
  have h2:=Zd rs
  have c:(Rws.cons r rs).deep=max r.deep rs.deep:=by rw [Rws.deep]
  rw [qB,c,PyData.depthAll];lia
end
def Rws.snoc:Rws→Rw→Rws
 | .nil,x=>.cons x .nil
 | .cons r rs,x=>.cons r (rs.snoc x)
def Rws.app:Rws→Rws→Rws
 | .nil,x=>x
 | .cons r rs,x=>.cons r (rs.app x)
theorem Rws.snoc_app:∀ (a:Rws) (r:Rw) (b:Rws),(a.snoc r).app b=a.app (.cons r b)
 | .nil,r,b=>rfl
 | .cons x a,r,b=>by
  show Rws.cons x ((a.snoc r).app b)=Rws.cons x (a.app (.cons r b))
  rw [Rws.snoc_app a]
theorem Rws.app_nil:∀ (a:Rws),a.app .nil=a
 | .nil=>rfl
 | .cons x a=>by
  show Rws.cons x (a.app .nil)=Rws.cons x a
  rw [Rws.app_nil a]
theorem RwsAt.snoc {F:Addr→Prop} {H:Hp} {v:V} {x:Rw} (hx:RwAt F H v x):∀ (r:Rws) {vs:List V},RwsAt F H vs r→RwsAt F H (vs ++ [v]) (r.snoc x)
 | .nil,vs,h=>by
  unfold RwsAt at h
  subst h
  show RwsAt F H [v] (.cons x .nil)
  unfold RwsAt
  exact ⟨v,[],rfl,hx,by unfold RwsAt;rfl⟩
 | .cons r rs,vs,h=>by
  unfold RwsAt at h
  obtain ⟨u,ws,rfl,e2,e3⟩:=h
  show RwsAt F H (u :: (ws ++ [v])) (.cons r (rs.snoc x))
  unfold RwsAt
  exact ⟨u,ws ++ [v],rfl,e2,RwsAt.snoc hx rs e3⟩
theorem RwsAt.len {F:Addr→Prop} {H:Hp}:∀ (r:Rws) {vs:List V},RwsAt F H vs r→vs.length≤r.cnt
 | .nil,vs,h=>by
  unfold RwsAt at h
  subst h
  exact Nat.zero_le _
 | .cons r rs,vs,h=>by
  unfold RwsAt at h
  obtain ⟨u,ws,rfl,e2,e3⟩:=h
  have:=RwsAt.len rs e3
  have c:(Rws.cons r rs).cnt=r.cnt + rs.cnt:=by rw [Rws.cnt]
  have:1≤r.cnt:=by cases r <;> simp [Rw.cnt]
  rw [c,List.length_cons];lia
theorem RwsAt.get {F:Addr→Prop} {H:Hp}:∀ {r:Rws} {vs:List V} {i:Nat} {v:V},RwsAt F H (vs.drop i) r→vs[i]?=some v→∃ x rs,r=.cons x rs∧RwAt F H v x∧RwsAt F H (vs.drop (i + 1)) rs
 | .nil,vs,i,v,h,e=>by
  unfold RwsAt at h
  have:=(List.getElem?_eq_some_iff.mp e).1
  have:=congrArg List.length h
  rw [List.length_drop] at this
  simp at this
  lia
 | .cons x rs,vs,i,v,h,e=>by
  unfold RwsAt at h
  obtain ⟨u,ws,e1,e2,e3⟩:=h
  have hi:=(List.getElem?_eq_some_iff.mp e).1
  have d:=List.drop_eq_getElem_cons hi
  rw [e1] at d
  have e4:vs[i]=v:=(List.getElem?_eq_some_iff.mp e).2
  rw [e4] at d
  injection d with d1 d2
  subst d1 d2
  exact ⟨x,rs,rfl,e2,e3⟩
theorem RwsAt.none {F:Addr→Prop} {H:Hp} {r:Rws} {vs:List V} (h:RwsAt F H (vs.drop vs.length) r):r=.nil:=by
 rw [List.drop_length] at h
 cases r with
 | nil=>rfl
 | cons x rs =>
  unfold RwsAt at h
  obtain ⟨_,_,e,_⟩:=h
  cases e
theorem WD {x:Rw} (hx:wW x):∀ (r:Rws),yJ r→yJ (r.snoc x)
 | .nil,_=>by show yJ (.cons x .nil);unfold yJ;exact ⟨hx,by unfold yJ;trivial⟩
 | .cons y r,h=>by
  unfold yJ at h
  show yJ (.cons y (r.snoc x))
  unfold yJ
  exact ⟨h.1,WD hx r h.2⟩
theorem WE {x:Rw} (hx:wZ x):∀ (r:Rws),yX r→yX (r.snoc x)
 | .nil,_=>by show yX (.cons x .nil);unfold yX;exact ⟨hx,by unfold yX;trivial⟩
 | .cons y r,h=>by
  unfold yX at h
  show yX (.cons y (r.snoc x))
  unfold yX
  exact ⟨h.1,WE hx r h.2⟩
theorem WF {P:Pl→Prop} {x:Rw} (hx:qA P x):∀ (r:Rws),x0 P r→x0 P (r.snoc x)
 | .nil,_=>by show x0 P (.cons x .nil);unfold x0;exact ⟨hx,by unfold x0;trivial⟩
 | .cons y r,h=>by
  unfold x0 at h
  show x0 P (.cons y (r.snoc x))
  unfold x0
  exact ⟨h.1,WF hx r h.2⟩
theorem Zv (x:Rw):∀ (r:Rws),(r.snoc x).deep=max r.deep x.deep
 | .nil=>by show (Rws.cons x .nil).deep=_;simp [Rws.deep]
 | .cons y r=>by
  show (Rws.cons y (r.snoc x)).deep=_
  rw [Rws.deep,Rws.deep,Zv x r];lia
theorem zam {v:V} (h:jC v) (j:isJ v=false):TermOk [v] :=
 ⟨fun kvs=>⟨_,KS j⟩,fun u hu=>by rw [List.mem_singleton.mp hu];exact h,by simp⟩
theorem Paired.snocP {α β:Type} {F:α→β→Prop} {x:α} {y:β}:∀ {a:List α} {b:List β},Paired F a b→F x y→Paired F (a ++ [x]) (b ++ [y])
 | _,_,.nil,h=>.cons h .nil
 | _,_,.cons a r,h=>.cons a (Paired.snocP r h)
theorem Paired.getP {α β:Type} {F:α→β→Prop} {a:List α} {b:List β} {i:Nat} {x:α} (h:Paired F a b) (e:a[i]?=some x):∃ y,b[i]?=some y∧F x y:=by
 have hi:=(List.getElem?_eq_some_iff.mp e).1
 have l:=Paired.length h
 exact ⟨b[i],List.getElem?_eq_getElem (by lia),yL h e (List.getElem?_eq_getElem (by lia))⟩
theorem RwAt.up {F:Addr→Prop} {H1:Hp} {R:Addr} {o:HO} {v:V} {r:Rw} (h:RwAt F H1 v r) (hF:∀ b,F b→b≠R):RwAt F (upd H1 R o) v r:=h.to r (fun _ _ f _=>f) fun b u f e=>by rw [zk (hF b f)];exact e
theorem RwsAt.up {F:Addr→Prop} {H1:Hp} {R:Addr} {o:HO} {vs:List V} {r:Rws} (h:RwsAt F H1 vs r) (hF:∀ b,F b→b≠R):RwsAt F (upd H1 R o) vs r:=h.to r (fun _ _ f _=>f) fun b u f e=>by rw [zk (hF b f)];exact e
theorem FnOkH.mono {P:Program} {w:World} {K:W.Frag} {mg:Str→Option Value} {base:Heap} {j k:Nat} {f:Addr} {fd:FuncData} {ps:List Str} {sp:Sp} (F:FnOkH P w K mg base j f fd ps sp) (h:j≤k):FnOkH P w K mg base k f fd ps sp :=
 ⟨F.len,fun A outer s H args us vs Q E hr he hb hv hs=>F.run A outer s H args us vs Q E (hr.mono h) he hb hv hs⟩
end L2
namespace L2
open PySem PySem.Spec PyProof.Rows
abbrev zck:RM:=fun x xs H Q=>∃ a b,x=.str a∧xs=[.str b]∧(b.length == 0)=false∧a.length≤100000∧(Txt.split a b).length≤100000∧∀ l,H l=none→Q (.ref l) (upd H l (.lst ((Txt.split a b).map V.str)))
section
variable {X:Cx}
end
def zdg (K:W.Frag) (p:Addr) (xs:List V):It:=⟨fun i H=>i < xs.length∧SqL K H p xs,fun i H x H'=>∃ T u,x=.ref T∧H T=none∧H'=upd H T (.tup [.int i,u])∧xs[i]?=some u,fun i H=>xs.length≤i∧SqL K H p xs⟩
def zeb (K:W.Frag) (ta:TA):TI:=fun σ H R=>ta σ H fun vs H1=>∃ p xs,vs=[.ref p]∧SqL K H1 p xs∧R (zdg K p xs) H1
section
variable {X:Cx}
end
section
variable {σ:St} {H:Hp} {nx:St→Hp→Prop} {B:V→St→Hp→(St→Hp→Prop)→Prop}
end
end L2
namespace L2
open PySem PySem.Spec PyProof.Rows
theorem zcl {c:Nat}:∀ {a b r s:List Nat},c ∉ a→c ∉ b→a ++ c :: r=b ++ c :: s→a=b∧r=s
 | [],[],r,s,_,_,h=>by simpa using h
 | [],y :: b,r,s,_,hb,h=>by
  simp only [List.nil_append,List.cons_append,List.cons.injEq] at h
  exact absurd h.1 (fun z=>hb (by rw [z];exact List.mem_cons_self))
 | x :: a,[],r,s,ha,_,h=>by
  simp only [List.nil_append,List.cons_append,List.cons.injEq] at h
  exact absurd h.1.symm (fun z=>ha (by rw [z];exact List.mem_cons_self))
 | x :: a,y :: b,r,s,ha,hb,h=>by
  simp only [List.cons_append,List.cons.injEq] at h
  obtain ⟨e1,e2⟩:=zcl (fun z=>ha (List.mem_cons_of_mem _ z)) (fun z=>hb (List.mem_cons_of_mem _ z)) h.2
  exact ⟨by rw [h.1,e1],e2⟩
end L2
namespace L2
open PySem PySem.Spec PyProof.Rows
abbrev Ku (K:W.Frag):RC:=fun xs H Q=>∃ (x:V) (p:Addr) (t:Value) (Ts:List String) (b:Bool),xs=[x,.ref p]∧qR K H x t∧H p=some (.tup (Ts.map V.ty))∧W.kitAny K t (Ts.map Value.type)=some b∧Q (.bl b) H
theorem VJ:∀ {Ts:List String} {us:List Value},Vals (Ts.map V.ty) us→us=Ts.map Value.type
 | [],_,h=>by cases h;rfl
 | T :: r,_,h=>by
  cases h with
  | cons a t =>
   have a:_=Value.type T:=a
   rw [a,VJ t];rfl
section
variable {X:Cx}
theorem X5:je X (.builtin "isinstance") (Ku X.K):=by
 intro pins s σ H xs us Q I r h
 obtain ⟨x,p,t,Ts,b,rfl,ty,hp,e,q⟩:=h
 obtain ⟨u,w',rfl,rx,r2⟩:=zbG r
 cases r2
 obtain ⟨_,its,rv,o,o1,o2,n,o3⟩:=(show ObjOk X.prog X.w H s.heap p (.tup (Ts.map V.ty)) from I.hok p _ hp)
 obtain rfl:=VJ rv
 obtain ⟨oc,od,oda,osl⟩:=o
 obtain rfl:oc=.type "tuple":=o2
 obtain rfl:oda=.seq (Ts.map Value.type).toArray n:=o3
 have fin:∀ tk,EP X pins σ Q (.bool b) { s with toks:=tk }:=fun tk=>⟨.bl b,H,I.tok tk,rfl,q⟩
 cases ty with
 | non=>cases (show u=Value.none from rx);exact W.kia_tup W.kitx_none I.kIn True.intro o1 e (fun z=>nomatch z) fin
 | bl y=>cases (show u=Value.bool y from rx);exact W.kia_tup W.kitx_bool I.kIn True.intro o1 e (fun z=>nomatch z) fin
 | int i=>obtain ⟨t,q⟩:=(show ∃ t,u=Value.int i t from rx);cases q;exact W.kia_tup W.kitx_int I.kIn True.intro o1 e (fun z=>nomatch z) fin
 | str y=>obtain ⟨t,q⟩:=(show ∃ t,u=Value.str y t from rx);cases q;exact W.kia_tup W.kitx_str I.kIn True.intro o1 e (fun z=>nomatch z) fin
 | flt y=>obtain ⟨t,q⟩:=(show ∃ t,u=Value.float y t from rx);cases q;exact W.kia_tup W.kitx_float I.kIn True.intro o1 e (fun z=>nomatch z) fin
 | @lst a xs ea =>
  cases (show u=Value.ref a from rx)
  obtain ⟨_,_,n,_,h1⟩:=(show ObjOk X.prog X.w H s.heap a (.lst xs) from I.hok a _ ea)
  exact W.kia_tup W.kitx_list I.kIn ⟨_,h1,rfl⟩ o1 e (fun z=>nomatch z) fin
 | @frz a ob xs ea =>
  cases (show u=Value.ref a from rx)
  obtain ⟨h1,h2⟩:=(show ObjOk X.prog X.w H s.heap a (.frz ob (.lst xs)) from I.hok a _ ea)
  obtain ⟨_,_,n,_,h1⟩:=h2
  exact W.kia_tup W.kitx_list I.kIn ⟨_,h1,rfl⟩ o1 e (fun z=>nomatch z) fin
 | @tup a xs ea =>
  cases (show u=Value.ref a from rx)
  obtain ⟨_,its,_,o,h1,h2,_⟩:=(show ObjOk X.prog X.w H s.heap a (.tup xs) from I.hok a _ ea)
  exact W.kia_tup W.kitx_tuple I.kIn ⟨_,h1,h2⟩ o1 e (fun z=>nomatch z) fin
 | @dK a kvs ea =>
  cases (show u=Value.ref a from rx)
  obtain ⟨_,_,vs,_,p⟩:=(show ObjOk X.prog X.w H s.heap a (.dK kvs) from I.hok a _ ea)
  obtain ⟨o,es,ep,h1,h2,_⟩:=p
  exact W.kia_tup W.kitx_dict I.kIn ⟨o,h1,h2.1⟩ o1 e (fun z=>nomatch z) fin
 | @dT a kvs ea =>
  cases (show u=Value.ref a from rx)
  obtain ⟨_,_,xs,_,o,es,ep,h1,h2,_⟩:=(show ObjOk X.prog X.w H s.heap a (.dT kvs) from I.hok a _ ea)
  exact W.kia_tup W.kitx_dict I.kIn ⟨o,h1,h2.1⟩ o1 e (fun z=>nomatch z) fin
 | @ins a C dx fs ea cl ha hn htk hm =>
  cases (show u=Value.ref a from rx)
  obtain ⟨mA,O,_⟩:=qQ I.hok ea
  obtain ⟨od,J,_⟩:=O.look
  exact W.kia_tup (W.kitx_own (cl.get _) cl.hd ha hn htk hm) I.kIn J o1 e (fun z=>nomatch z) fin
end
section
variable {prog:Program} {w:World} {A:Around} {E:Value→Shared→Prop} {s:Shared}
theorem VL {l:Addr} {items:Array Value} {n:Nat} {k:Int} {t:Tok} {v:Value} {Q:Unit→Shared→Prop} (hl:s.heap.get? l=some { cls:=.type "list",data:=.seq items n })
  (h0:k < 0) (h1:-(items.size:Int)≤k) (hfit:-(2 ^ 63)≤k) (hQ:Q () { s with heap:=s.heap.update l (Obj.mapSeq (·.setIfInBounds (k + items.size).toNat v)) }) :
  wpAny (model prog w) A (setItem (.ref l) (.int k t) v) Q E s:=by
 have hL:s.heap.IsList l items:=⟨_,hl,rfl,n,rfl⟩
 unfold setItem
 try with_reducible refine wpAny_holding ?_
 first | refine wpAny_bind (wpAny_pure ?_) | skip
 refine wpAny_bind (wpAny_sequenceKey hL.typeIs (by decide) ?_)
 refine wpAny_bind (wpAny_callSpecial?_slot (name:=Str.ofString "__setitem__") hL.typeIs slot_list_setitem
  (wpAny_call_entry slot_list_setitem hL.typeIs entry_list_setitem ?_ (args_list_setitem _ _ _)))
 show wpAny _ _ (Builtin.List.listSubscript? (.int k t) >>= _) _ _ s
 refine wpAny_bind (wpAny_listSubscript_int (fitsIndex_neg h0 hfit) ?_)
 clear hfit
 have hidx:=seqIndex_neg h0 h1
 have hx:items[(k + items.size).toNat]?=some (items[(k + items.size).toNat]'(by lia)):=Array.getElem?_eq_getElem (by lia)
 obtain ⟨j,rfl⟩:∃ j:Nat,k=Int.negSucc j:=by
  cases k with
  | ofNat n=>exact absurd h0 (Int.not_lt.mpr (Int.ofNat_nonneg n))
  | negSucc n=>exact ⟨n,rfl⟩
 show wpAny _ _ ((Builtin.List.listItems (.ref l) >>= fun xs=>pure ((seqIndex? (Int.negSucc j) xs.size).bind fun i=>xs[i]?.map (i,·))) >>= _) _ _ s
 refine wpAny_bind (wpAny_bind ?_)
 show wpAny _ _ (seqItems? (.ref l) >>= _) _ _ s
 refine wpAny_bind (wpAny_seqItems hl rfl (wpAny_pure (wpAny_pure ?_)))
 rw [hidx]
 simp only [Option.bind_some,hx,Option.map_some]
 refine wpAny_bind (wpAny_setSeqItemAt hl rfl ?_)
 first
  | exact wpAny_bind (wpAny_pure (wpAny_pure ⟨.none,rfl,wpAny_pure hQ⟩))
  | exact wpAny_pure ⟨.none,rfl,wpAny_pure hQ⟩
theorem VM {l:Addr} {items:Array Value} {n j:Nat} {k:Int} {t:Tok} {v:Value} {Q:Unit→Shared→Prop} (hl:s.heap.get? l=some { cls:=.type "list",data:=.seq items n })
  (h0:0≤k) (hfit:k < 2 ^ 63) (hkj:k.toNat=j) (hn:j < items.size) (hQ:Q () { s with heap:=s.heap.update l (Obj.mapSeq (·.setIfInBounds j v)) }) :
  wpAny (model prog w) A (setItem (.ref l) (.int k t) v) Q E s:=by
 have hL:s.heap.IsList l items:=⟨_,hl,rfl,n,rfl⟩
 unfold setItem
 try with_reducible refine wpAny_holding ?_
 first | refine wpAny_bind (wpAny_pure ?_) | skip
 refine wpAny_bind (wpAny_sequenceKey hL.typeIs (by decide) ?_)
 refine wpAny_bind (wpAny_callSpecial?_slot (name:=Str.ofString "__setitem__") hL.typeIs slot_list_setitem
  (wpAny_call_entry slot_list_setitem hL.typeIs entry_list_setitem ?_ (args_list_setitem _ _ _)))
 show wpAny _ _ (Builtin.List.listSubscript? (.int k t) >>= _) _ _ s
 refine wpAny_bind (wpAny_listSubscript_int (fitsIndex_of h0 hfit) ?_)
 clear hfit
 obtain ⟨j',rfl⟩:=Int.eq_ofNat_of_zero_le h0
 have hkj:j'=j:=hkj
 subst hkj
 have hx':items[j']?=some items[j']:=Array.getElem?_eq_getElem hn
 show wpAny _ _ ((seqItemAt l j' >>= fun r=>pure (r.map (j',·))) >>= _) _ _ s
 refine wpAny_bind (wpAny_bind (wpAny_seqItemAt hl rfl (wpAny_pure ?_)))
 rw [hx']
 refine wpAny_bind (wpAny_setSeqItemAt hl rfl ?_)
 first
  | exact wpAny_bind (wpAny_pure (wpAny_pure ⟨.none,rfl,wpAny_pure hQ⟩))
  | exact wpAny_pure ⟨.none,rfl,wpAny_pure hQ⟩
end
def ZK (td ty tv:TE):TS:=fun D σ H=>tv σ H fun v H1=>td σ H1 fun x H2=>ty σ H2 fun y H3=>∃ a xs i j,x=.ref a∧y=.int i∧H3 a=some (.lst xs)∧ixN xs.length i=some j∧(-1000≤i∧i≤1000)∧D.nx σ (upd H3 a (.lst (xs.set j v)))
theorem VN {v:V} {u:Value} (r:RelV v u):∀ {xs:List V} {us:List Value},Vals xs us→∀ j:Nat,Vals (xs.set j v) (us.set j u)
 | _,_,.nil,_=>.nil
 | _,_,.cons _ t,0=>.cons r t
 | _,_,.cons a t,j + 1=>.cons a (VN r t j)
section
variable {X:Cx} {o i value:Expr} {pos pos':Pos} {td ty tv:TE}
theorem Kv (ho:PE X o td) (hi:PE X i ty) (hv:PE X value tv) (hs:swapsWith value (some (.Subscript o i pos')) pos.line X.env=pure false) :
  PS X (.Assign [.Subscript o i pos'] value pos) (ZK td ty tv):=by
 intro pins s σ H D I h
 refine wpAny_Assign_Subscript (thn (hv pins s σ H _ I h) fun r s1 ⟨v,H1,I1,rv,q1⟩=>thn (ho pins s1 σ H1 _ I1 q1) fun u s2 ⟨x,H2,I2,rx,q2⟩=>thn (hi pins s2 σ H2 _ I2 q2) fun iv s3 ⟨y,H3,I3,ry,a,xs,k,j,ex,ey,ea,hj,hk,q3⟩=>?_) hs
 subst ex ey
 obtain rfl:u=Value.ref a:=rx
 obtain ⟨t,rfl⟩:=ry
 obtain ⟨z,its,n,rl,hl,e⟩:=I3.lstM ea
 have fin:SP X pins D .next { s3 with heap:=s3.heap.update a (Obj.mapSeq (·.setIfInBounds j r)) }:=⟨σ,_,I3.lset (its':=its.set j r) (t':=s3.toks) ea e (by simp) (VN rv rl _) (by rw [List.length_set];exact z),q3⟩
 unfold ixN at hj
 by_cases h0:0≤k
 ·rw [if_pos h0] at hj
  split at hj
  ·rename_i h1
   cases hj
   exact VM e h0 (by lia) rfl (by rw [List.size_toArray,← hl];lia) fin
  ·cases hj
 ·rw [if_neg h0] at hj
  split at hj
  ·rename_i h1
   cases hj
   refine VL e (by lia) (by rw [List.size_toArray,← hl];exact h1) (by lia) ?_
   rw [List.size_toArray,← hl]
   exact fin
  ·cases hj
end
section
variable {X:Cx} {st:Stmt} {hs:List ExceptHandler} {pos:Pos} {tb:TS}
end
end L2
namespace L2
open PySem PySem.Spec PyProof.Rows
def zdA (K:W.Frag) (ta:TA):TI:=fun σ H R=>ta σ H fun vs H1=>∃ p q xs ys,vs=[.ref p,.ref q]∧xs.length=ys.length∧((SqL K H1 p xs∧SqL K H1 q ys∧R (zcR K p q xs ys) H1)∨(SqT K H1 p xs∧SqT K H1 q ys∧R (Itz K p q xs ys) H1))
section
variable {X:Cx}
abbrev zdh (K:W.Frag):R2:=fun x y H Q=>∃ a b xs,x=.ref a∧y=.ref b∧SqL K H a xs∧SqL K H b []∧Q (.bl (!decide (xs=[]))) H
end
mutual
inductive zan (H:Hp):V→PyData→Prop
 | int (i:Int):zan H (.int i) (.int i)
 | str (x:Str):zan H (.str x) (.str x)
 | lst {a:Addr} {xs:List V} {ds:List PyData}:H a=some (.lst xs)→VO H xs ds→zan H (.ref a) (.list ds)
 | tup {a:Addr} {xs:List V} {ds:List PyData}:H a=some (.tup xs)→VO H xs ds→zan H (.ref a) (.tuple ds)
inductive VO (H:Hp):List V→List PyData→Prop
 | nil:VO H [] []
 | cons {x:V} {d:PyData} {xs:List V} {ds:List PyData}:zan H x d→VO H xs ds→VO H (x :: xs) (d :: ds)
end
end L2
namespace L2
open PySem
end L2
namespace L2
open PySem
abbrev zbP:RM:=zaS
end L2
namespace L2
open PySem PySem.Spec PyProof.Rows
abbrev zcm:RM:=zb6
abbrev zdB (K:W.Frag):RC:=fun xs H Q=>∃ a,∃ ns:List Int,xs=[.ref a]∧SqL K H a (ns.map V.int)∧Q (.int ns.sum) H
abbrev zdC (K:W.Frag):RC:=fun xs H Q=>∃ a,∃ ns:List Int,xs=[.ref a]∧SqL K H a (ns.map V.int)∧0 < ns.length∧∀ M,M∈ns→(∀ x∈ns,x≤M)→Q (.int M) H
section
variable {X:Cx}
end
end L2
namespace L2
open PySem PySem.Spec PyProof.Rows
abbrev zdD:RC:=fun xs H Q=>∃ i j,xs=[.int i,.int j]∧Q (.int (if j > i then j else i)) H
abbrev zec (K:W.Frag) (neg:Bool):R2:=fun x y H Q=>∃ (p:Addr) (xs:List V) (d:PyData) (ds:List PyData),y=.ref p∧(SqL K H p xs∨SqT K H p xs)∧Dat K H x d∧DatAll K H xs ds∧(zK d=true∧d.depth≤50∧∀ e∈ds,zK e=true) ∧
 ∀ b:Bool,(b=true↔d∈ds)→Q (.bl (if neg then !b else b)) H
section
variable {X:Cx}
open Classical in
noncomputable def zed (K:PySem.W.Frag) (H:Hp) (d:PyData) (u:Value):Bool:=decide (∃ x,RelV x u∧Dat K H x d)
open Classical in
end
abbrev jV (K:W.Frag):RC:=fun vs H Q=>∃ r xs its,vs=[.ref r]∧SqL K H r xs∧Paired (jE H) xs its∧(its.map (·.1)).Nodup∧its.length < 1000 ∧
 ∀ l ys srt H',Same H H'→H l=none→H' l=some (.lst ys)→Paired (jE H') ys srt→Rising srt→srt.Perm its→Q (.ref l) H'
section
variable {X:Cx}
theorem WG (hc:X.calm=true) (hu:X.A.units + 3 < cLine):je X (.builtin "sorted") (jV X.K):=by
 intro pins s σ H vs us Q I r0 h
 obtain ⟨r,xs,its,rfl,hq,pr,nd,h64,q⟩:=h
 obtain ⟨u,rfl,ru⟩:=qP r0
 cases ru
 obtain ⟨vs,rv,⟨o,n,ho,oc,_,od⟩,hz⟩:=I.list hq
 have so:=qx nd
 have l1:=Paired.length pr
 have l2:=rv.length
 have vat:∀ {h:Heap},(∀ b o,s.heap.get? b=some o→h.get? b=some o)→∀ (i:Nat) (q:Row),its[i]?=some q→∃ v,vs[i]?=some v∧RvAt h v q:=fun {h} k i q hq=>by
  have hi:=(List.getElem?_eq_some_iff.mp hq).1
  obtain ⟨y,hy⟩:∃ y,xs[i]?=some y:=⟨_,List.getElem?_eq_getElem (by lia)⟩
  obtain ⟨u,hu',ru⟩:=rv.get hy
  exact ⟨u,hu',(zbO I (yL pr hy hq) ru).keep k⟩
 refine ZF (vs:=vs) (κ:=tuples' false) (lt:=fun i j=>z5 ((its.map (·.1)).getD i (("",0):Pl)) ((its.map (·.1)).getD j (("",0):Pl))) (by lia) (by rw [show vs.length=(its.map (·.1)).length by rw [List.length_map];lia];exact so) (fun R hR=>?_) (fun h2 h tk Q' k q'=>?_) (fun h tk i j C k hi hj hij q'=>?_) fun h tk h' p c k1 k2 hD hp hr=>?_
 ·refine wpAny_collect_seq r (.inl rfl) ho oc od (fun h' k=>?_) (by rw [List.size_toArray];exact Nat.le_trans (by lia:_≤1000) (by decide))
  have e:({ s with heap:=h' }:Shared)={ s with heap:=h',toks:=s.toks }:=rfl
  rw [e]
  exact hR h' s.toks k
 ·refine VF (s:={ s with heap:=h,toks:=tk }) (qs:=its) (by lia) (fun i v q hv hq=>?_) (by lia) q'
  obtain ⟨v',hv',rr⟩:=vat k i q hq
  rw [hv] at hv'
  cases hv'
  exact rr
 ·have e1:its[i]?=some its[i]:=List.getElem?_eq_getElem (by lia)
  have e2:its[j]?=some its[j]:=List.getElem?_eq_getElem (by lia)
  obtain ⟨v1,g1,r1⟩:=vat k i _ e1
  obtain ⟨v2,g2,r2⟩:=vat k j _ e2
  have n1:(its.map (·.1)).getD i (("",0):Pl)=its[i].1:=by rw [List.getD_eq_getElem?_getD,List.getElem?_map,e1];rfl
  have n2:(its.map (·.1)).getD j (("",0):Pl)=its[j].1:=by rw [List.getD_eq_getElem?_getD,List.getElem?_map,e2];rfl
  have m1:vs.getD i Value.none=v1:=by rw [List.getD_eq_getElem?_getD,g1];rfl
  have m2:vs.getD j Value.none=v2:=by rw [List.getD_eq_getElem?_getD,g2];rfl
  simp only [n1,n2] at q'
  have key:=Kr (P:=X.prog) (w:=X.w) (A:=X.A.in1.in1) (E:=fun _ _=>False) (s:={ s with heap:=h,toks:=tk }) (Q:=C) (by have e:X.A.in1.in1.units=X.A.units + 2:=rfl;lia) r1 r2 q' fun z=>hij (by
   have e3:(its.map (·.1))[i]?=some its[i].1:=by rw [List.getElem?_map,e1];rfl
   have e4:(its.map (·.1))[j]?=some its[j].1:=by rw [List.getElem?_map,e2];rfl
   rw [z] at e3
   exact (List.getElem?_inj (by rw [List.length_map];lia) nd).mp (e3.trans e4.symm))
  rw [← m1,← m2] at key
  exact key
 ·have I1:Inv X pins σ H { s with heap:=h,toks:=tk }:=I.kept k1
  have hp':PP its.length p:=by rw [show its.length=vs.length by lia];exact hp
  have fr:H h.objs.size=none:=I1.hok.fresh (Nat.le_refl _)
  have sz:=hp'.size
  have pk:=wX pr V.non d0 (is:=p.toList) fun i hi=>by have:=hp'.lt i hi;lia
  have vk:Vals (p.toList.map fun i=>xs.getD i V.non) (wV vs p):=wX rv V.non Value.none (is:=p.toList) fun i hi=>by have:=hp'.lt i hi;lia
  have I2:Inv X pins σ (upd H h.objs.size (.lst (p.toList.map fun i=>xs.getD i V.non))) { s with heap:=h',toks:=tk }:=I1.laid (s:={ s with heap:=h,toks:=tk }) (a:=h.objs.size) (o:=.lst (p.toList.map fun i=>xs.getD i V.non)) (t':=tk) k2 (Nat.le_refl _)
   ⟨by rw [List.length_map,Array.length_toList];exact Nat.le_trans (by lia:_≤1000) (by decide),wV vs p,c,vk,hD⟩
  have S2:Same H (upd H h.objs.size (.lst (p.toList.map fun i=>xs.getD i V.non))):=isV _ fr
  have mono:∀ {us:List V} {ws:List Row},Paired (jE H) us ws→Paired (jE (upd H h.objs.size (.lst (p.toList.map fun i=>xs.getD i V.non)))) us ws:=fun {us ws} h=>by
   induction h with
   | nil=>exact .nil
   | cons a _ ih =>
    obtain ⟨r,p,e,h1,h2⟩:=a
    exact .cons ⟨r,p,e,S2 _ _ h1,S2 _ _ h2⟩ ih
  refine ⟨.ref h.objs.size,_,I2,rfl,q _ _ (p.toList.map fun i=>its.getD i d0) _ S2 fr zf (mono pk) ?_ ?_⟩
  ·have hr':YC (fun i j=>z5 ((its.map (·.1)).getD i (("",0):Pl)) ((its.map (·.1)).getD j (("",0):Pl))) p its.length:=by rw [show its.length=vs.length by lia];exact hr
   have pw:=YO (F:=z5) hp' hr'
   have eq:(p.toList.map fun i=>its.getD i d0).map (·.1)=p.toList.map fun i=>(its.map (·.1)).getD i (("",0):Pl):=by
    rw [List.map_map]
    refine List.map_congr_left fun i hi=>?_
    have hi:=hp'.lt i hi
    simp [List.getD_eq_getElem?_getD,List.getElem?_map,List.getElem?_eq_getElem hi]
   rw [← eq,List.pairwise_map] at pw
   exact pw
  ·refine (hp'.list.map _).trans ?_
   rw [YN]
end
def Cb (i:Int):Prop:=Builtin.Int.intBits i≤1048576
section
variable {X:Cx}
end
open Att PySem.W PySem.Calls in
theorem zao {l:W.OpenLaw} {n k:Nat} {q:Program} {loose:List Str} {XP:(Str→Option Value)→Heap→Prop} {YP:World→Heap→Prop} {d:DefRec} {K:Params→W.Frag} {CX:World→CXT} {sp:World→Sp} {x:Str}
  (hn:l.most=some n) (hn2:n≤sizeLine) (hdf:d.params.defaults=[]) (hr:Room k callerA) (hY:∀ (w:World) (h:Heap),YP w h→(K w.params).In h)
  (F:∀ (w:World) (mg:Str→Option Value) (fa:Addr) (h:Heap),(K w.params).In h→h.Ns mainGlobals mg→mg d.name=some (.ref fa) →
   ∃ fd:FuncData,(∀ (s:Shared) (u:Value),BindsTo s fd ⟨[u],[]⟩ [(x,u)]) ∧
    ∀ base:Heap,(K w.params).In base→base.Ns mainGlobals mg→FnOk l.prog w (K w.params) mg base (CX w) k fa fd [x] (sp w))
  (hsp:∀ (w:World) (H:Hp) (a:Addr) (ns:List Int),ns.length≤n→(∀ i∈ns,Cb i)→Jp H→SqL (K w.params) H a (ns.map V.int)→sp w [.ref a] H (fun v _=>v=.bl true) fun _ _ _=>False)
  (hCX:∀ (w:World) (H:Hp) (s:Shared) (e:Value) (s':Shared),CX w [] H s (fun _ _ _=>False) e s'→False) :
  W.WalkO q loose XP YP l.row.toRowW d [] (fun f vs=>PySem.call f vs):=by
 intro w s₀ s₁ mg mb G Y fa o pm cd doc dV kV ho hd hcd hD hmg hg args vals as hpre hlay hrd hwl hlo
 obtain rfl:dV=.none:=Dflts.none hD hdf
 obtain rfl:kV=.none:=Dflts.noKw hD
 obtain ⟨a,vs,ns,rfl,rfl,hobj,hints,hlen⟩:=XL hn hpre hwl
 have hb:∀ i∈ns,Cb i:=fun i hi=>intBits_le_of_layable (layable_of_mem (lay0_int (layableW_item (layableW_arg hlay _ List.mem_cons_self) _ (List.mem_map.mpr ⟨i,hi,rfl⟩))) List.mem_cons_self)
 have KX:=hY w _ Y
 obtain ⟨fd,hbd,hF⟩:=F w mg fa _ KX G.T.g hmg
 refine enter_call (codeAny_mono (Vf KX G.T.g G.T.b G.T.builtins G.T.nolimit hg hobj hints (Nat.le_trans hlen hn2) hr hF hbd (fun H hO hS=>hsp w H a ns hlen hb hO hS) fun H e s'=>hCX w H s₁ e s') fun r s' hq=>?_)
 obtain ⟨rfl,h2,h3,h4⟩:=hq
 exact ⟨.inl ⟨.bool true,.bool true,[],rfl,fun _=>rfl,.bool true,XM l _,fun _=>⟨List.Pairwise.nil,fun _ hm=>(nomatch hm)⟩⟩,h2,h3,h4⟩
theorem zcD {l:W.OpenLaw} {n k:Nat} {q:Program} {loose:List Str} {XP:(Str→Option Value)→Heap→Prop} {YP:World→Heap→Prop} {d:DefRec} {K:Params→W.Frag} {sp:W.Frag→Sp} {x:Str}
  (hn:l.most=some n) (hn2:n≤sizeLine) (hdf:d.params.defaults=[]) (hr:Room k callerA) (hY:∀ (w:World) (h:Heap),YP w h→(K w.params).In h)
  (F:∀ (w:World) (mg:Str→Option Value) (fa:Addr) (h:Heap),(K w.params).In h→h.Ns mainGlobals mg→mg d.name=some (.ref fa) →
   ∃ fd:FuncData,(∀ (s:Shared) (u:Value),BindsTo s fd ⟨[u],[]⟩ [(x,u)]) ∧
    ∀ base:Heap,(K w.params).In base→base.Ns mainGlobals mg→FnOk l.prog w (K w.params) mg base (CX1 l.prog w) k fa fd [x] (sp (K w.params)))
  (hsp:∀ (K:W.Frag) (H:Hp) (a:Addr) (ns:List Int),ns.length≤n→(∀ i∈ns,Cb i)→Jp H→SqL K H a (ns.map V.int)→sp K [.ref a] H (fun v _=>v=.bl true) fun _ _ _=>False) :
  W.WalkO q loose XP YP l.row.toRowW d [] (fun f vs=>PySem.call f vs) :=
 zao (K:=K) (CX:=fun w=>CX1 l.prog w) (sp:=fun w=>sp (K w.params)) hn hn2 hdf hr hY F (fun w H a ns h1 hb h2 h3=>hsp (K w.params) H a ns h1 hb h2 h3) fun _ _ _ _ _ z=>by
  obtain ⟨_,_,_,_,_,_,_,_,_,y⟩:=z
  exact y
end L2
namespace L2
open PySem PySem.Spec PyProof.Rows
def Itk (a:Addr) (o:Obj) (kvs:List (Key × V)):It :=
 ⟨fun i H=>H a=some (.frz o (.dK kvs))∧i < kvs.length,fun i H x H'=>H'=H∧∃ k v,kvs[i]?=some (k,v)∧x=kV k,fun i H=>H a=some (.frz o (.dK kvs))∧kvs.length≤i⟩
section
variable {X:Cx}
def iDK (tl:TE):TI:=fun σ H R=>tl σ H fun x H1=>∃ a o kvs,x=.ref a∧H1 a=some (.frz o (.dK kvs))∧R (Itk a o kvs) H1
end
section
variable {σ:St} {H:Hp} {nx:St→Hp→Prop} {B:V→St→Hp→(St→Hp→Prop)→Prop}
end
end L2
namespace L2
open PySem PySem.Spec PyProof.Rows
def zcS (H:Hp) (v:V) (q:Pl):Prop:=∃ p,v=.ref p∧H p=some (.tup [.str q.1,.int q.2])
abbrev zdE (K:W.Frag):RC:=fun vs H Q=>∃ r xs its,vs=[.ref r]∧SqL K H r xs∧Paired (zcS H) xs its∧its.Nodup∧its.length < 1000 ∧
 ∀ l ys srt H',Same H H'→H l=none→H' l=some (.lst ys)→Paired (zcS H') ys srt→srt.Pairwise (fun a b=>z5 a b=true)→srt.Perm its→Q (.ref l) H'
section
variable {X:Cx}
end
end L2
namespace L2
open PySem PySem.Spec PyProof.Rows
section
variable {K:Type} [DecidableEq K]
end
section
variable {prog:Program} {w:World} {K:Type} [DecidableEq K] {knd:HeapKind prog w K} {A:Around} {E:Value→Shared→Prop} {s:Shared} {d a:Addr} {xs:List (K × Addr × Value)} {k:K}
end
section
variable {X:Cx} {pins:List (Addr × Obj)} {σ:St} {H:Hp} {s:Shared} {a b:Addr} {kvs:List (List Key × V)} {k:List Key} {A:Around} {E:Value→Shared→Prop}
end
def zdi (td ty:TE):TE:=fun σ H Q=>td σ H fun x H1=>∃ a,x=.ref a∧IsD H1 a∧ty σ H1 fun y H2=>∃ kvs k b v,H2 a=some (.dT kvs)∧y=.ref b∧H2 b=some (.tup (k.map kV))∧yB kvs k=some v∧Q v (upd H2 a (.dT (XI kvs k)))
def zdj (td ty tx:TE):TE:=fun σ H Q=>td σ H fun x H1=>∃ a,x=.ref a∧IsD H1 a∧ty σ H1 fun y H2=>tx σ H2 fun z H3=>∃ kvs k b,H3 a=some (.dT kvs)∧y=.ref b∧H3 b=some (.tup (k.map kV))∧kvs.length < sizeLine ∧
 (∀ v,yB kvs k=some v→Q v H3)∧(yB kvs k=none→Q z (upd H3 a (.dT (yT kvs k z))))
section
variable {X:Cx} {o e f:Expr} {apos cpos:Pos} {td ty tx:TE}
end
abbrev zbQ:RM:=fun x vs H Q=>∃ (l:Addr) (xs:List V) (k:Nat) (y:V),x=.ref l∧vs=[.int k,y]∧H l=some (.lst xs)∧k≤xs.length∧xs.length < 1000000∧Q .non (upd H l (.lst (xs.take k ++ y :: xs.drop k)))
abbrev zbR:RM:=fun x vs H Q=>∃ (l:Addr) (ns:List Int) (i:Int),x=.ref l∧vs=[.int i]∧H l=some (.lst (ns.map V.int))∧i∈ns∧Q .non (upd H l (.lst ((ns.erase i).map V.int)))
section
variable {X:Cx}
end
def zdk (H:Hp) (y:V) (kv:List Key × V):Prop:=∃ p,y=.ref p∧H p=some (.tup (kv.1.map kV))
abbrev zdF:RC:=fun vs H Q=>∃ a kvs,vs=[.ref a]∧H a=some (.dT kvs)∧∀ l ys,H l=none→Paired (zdk H) ys kvs→Q (.ref l) (upd H l (.lst ys))
abbrev zdG:RC:=fun vs H Q=>∃ a kvs,vs=[.ref a]∧H a=some (.dT kvs)∧Q (.int (kvs.length:Nat)) H
section
variable {X:Cx}
end
end L2
namespace L2
open PySem PySem.Spec PyProof.Rows
section
variable {X:Cx} {c:Expr} {s₁ s₂:Stmt} {tc:TT} {t1 t2:EXK→TS} {pos:Pos}
end
section
variable {X:Cx} {e:Expr} {te:TE} {a b:Str} {j k:Nat} {p1 p2 p3 p4:Pos}
end
end L2
namespace L2
open PySem PySem.Spec PyProof.Rows
section
variable {P:Program} {w:World} {K:W.Frag} {mg:Str→Option Value} {base:Heap} {x qual:Str} {st:Stmt} {f:Addr} {fd:FuncData} {N ps:List Str} {k:Nat} {sp:Sp}
end
section
variable {X:Cx} {o value:Expr} {f:Str} {pos pos':Pos} {ta:TE} {tx:EXK→TE}
def zdH (K:W.Frag) (ta:TE) (tx:EXK→TE) (f:Str) (EX:EXK):TS:=KL K ta (tx EX) f
end
def zdI (K:W.Frag) (tb:EXK→TS) (C1 C2:Addr) (th:TS):TS:=fun D σ H=>tb (fun cls σ1 H1=>∃ C,cls=.ref C∧W.exmAny K (.ref C) [.ref C1,.ref C2]=some true∧th D σ1 H1) D σ H
section
variable {X:Cx} {st b₀:Stmt} {suite:List Stmt} {tb:EXK→TS} {th:TS} {c1 c2:Str} {C1 C2:Addr} {np np2 hpos tpos pos:Pos} {x1:Nat}
end
section
variable {X:Cx} {CX:CXT} {k:Nat} {f C:Addr} {fd:FuncData} {ps:List Str} {sp:Sp} {dvs:List V} {E:XK} {m:Str} {pos apos:Pos} {o:Expr} {ta:TE}
end
end L2
namespace L2
open PySem PySem.Spec PyProof.Rows
abbrev zee:R2:=fun x y H Q=>∃ a b p r,x=.ref a∧y=.ref b∧H a=some (.tup [.str p.1,.int p.2])∧H b=some (.tup [.str r.1,.int r.2])∧Q (.bl (z5 p r)) H
section
variable {X:Cx}
open PySem.SeqAt
open PySem.AutoSeq1 (wpAny_loadPart')
open PySem.MeetsSeq PySem.MeetsSeq2 PySem.MeetsSeq3
end
end L2
namespace L2
open PySem PySem.Spec PyProof.Rows
def zdl (C:Addr):TE:=fun _ H Q=>∀ x dx,H x=none→H dx=none→dx≠x→Q (.ref x) (upd (upd H dx (.own x)) x (.ins C dx []))
section
variable {X:Cx} {C:Addr} {x:Str} {p pos:Pos}
end
def zdm (L:List (Addr × Sp)) (m:Str) (E:XK) (ta:TE) (t:TA):TE:=fun σ H Q=>ta σ H fun x H1=>∃ a dx fs C sp,x=.ref a∧H1 a=some (.ins C dx fs)∧fs.lookup m=none∧(C,sp)∈L∧t σ H1 fun vs H2=>sp (x :: vs) H2 Q E
section
variable {X:Cx} {CX:CXT} {E:XK} {m:Str} {pos apos:Pos} {e o:Expr} {es:List Expr} {ta:TE} {t:TA} {L:List (Addr × Sp)} {C:Addr} {sp:Sp}
end
structure zdn (K:W.Frag) (C:Addr):Prop where
 cl:Cls K C
 ha:W.findIn K (.ref C) "__class__"=some (some (.builtin "object.__class__"))
 hn:W.specialIn K (.builtin "object.__class__") "__get__"=some (some (.builtin "getset_descriptor.__get__"))
 tk:W.takesIn K (.builtin "object.__class__")=some true
 hm:W.mroIn K C (.type "object")=some true
abbrev zef (K:W.Frag):RC:=fun xs H Q=>∃ a C dx fs D b,xs=[.ref a,.ref D]∧H a=some (.ins C dx fs)∧zdn K C∧W.kitOne K (.ref C) (.ref D)=some b∧Q (.bl b) H
section
variable {X:Cx}
end
end L2
namespace L2
open PySem PySem.Spec PyProof.Rows
abbrev zeg (K:W.Frag):RC:=fun xs H Q=>∃ (a:Addr) (bs:List Bool),xs=[.ref a]∧SqL K H a (bs.map V.bl)∧Q (.bl (bs.any id)) H
section
variable {X:Cx}
end
def zdJ (te ts:TE):TE:=fun σ H Q=>te σ H fun x H1=>ts σ H1 fun k H2=>∃ z y,x=.str z∧k=.int (-1)∧z.length≤sizeLine∧(∀ u,Txt.sliceBy z none none (-1,u)=y)∧Q (.str y) H2
section
variable {X:Cx} {e st:Expr} {p2 pos:Pos} {te ts:TE}
end
section
variable {P:Program} {w:World} {A:Around} {E:Value→Shared→Prop} {s:Shared}
end
def zdK (K:W.Frag) (ta:TA):TE:=fun σ H Q=>ta σ H fun vs H1=>∃ a xs,vs=[.ref a]∧SqL K H1 a xs∧∀ l,H1 l=none→Q (.ref l) (upd H1 l (.lst xs.reverse))
section
variable {X:Cx} {a:Expr} {ta:TA} {p p2 pos pos2:Pos}
end
end L2
namespace L2
open PySem PySem.Spec PyProof.Rows
abbrev zdL:RC:=fun vs H Q=>∃ a kvs,vs=[.ref a]∧H a=some (.dK kvs)∧Q (.int (kvs.length:Nat)) H
section
variable {X:Cx}
end
end L2
namespace L2
open PySem PySem.Spec PyProof.Rows
section
variable {X:Cx} {CX:CXT} {k:Nat} {f C:Addr} {fd:FuncData} {ps:List Str} {sp:Sp} {dvs:List V} {E:XK} {x:Str} {p pos:Pos} {e:Expr} {es:List Expr} {t:TA}
end
section
variable {X:Cx} {e:Expr} {te:TE} {a:Str} {j:Nat} {p1 p2 p3:Pos}
end
section
variable {X:Cx} {st b₀:Stmt} {suite:List Stmt} {tb:EXK→TS} {th1:TS} {c1:Str} {C1:Addr} {np hpos pos:Pos}
end
end L2
namespace L2
open PySem PySem.Spec PyProof.Rows
section
variable {X:Cx} {tg:Expr}
def zcn (K:W.Frag) (tl:TE):TI:=fun σ H R=>tl σ H fun x H1=>∃ a,x=.ref a∧(((∃ xs,SqL K H1 a xs)∧R (Itl K a) H1)∨((∃ xs,SqT K H1 a xs)∧R (Itt K a) H1))
theorem zco {l:Expr} {tl:TE} (hl:PE X l tl):PI X tg l (zcn X.K tl):=by
 intro pins s σ H R I h
 refine thn (hl pins s σ H _ I h) fun v s1 ⟨x,H1,I1,r1,q1⟩=>?_
 obtain ⟨a,e,q⟩:=q1
 subst e
 cases r1
 rcases q with ⟨⟨xs,hq⟩,q⟩ | ⟨⟨xs,hq⟩,q⟩
 ·obtain ⟨its,rv,p,hz⟩:=I1.list hq
  refine wpAny_pyIter_list p.isList ?_
  refine ⟨s1.heap.objs.size,[s1.heap.objs.size],_,_,H1,rfl,I1.kept (t':=s1.toks) fun b o e=>Heap.get?_push_of_some _ e,Xz a _,⟨_,Heap.get?_push_size _ rfl,rfl,rfl⟩,fun b hb=>?_,q⟩
  have e:b=s1.heap.objs.size:=by simpa using hb
  subst e
  exact I1.fpOk (Nat.le_refl _) (I1.hok.fresh (Nat.le_refl _))
 ·obtain ⟨its,rv,p,hz⟩:=I1.tuple hq
  refine wpAny_pyIter_tuple (show s1.heap.IsTuple a its.toArray from p) ?_
  refine ⟨s1.heap.objs.size,[s1.heap.objs.size],_,_,H1,rfl,I1.kept (t':=s1.toks) fun b o e=>Heap.get?_push_of_some _ e,Yf a _,⟨_,Heap.get?_push_size _ rfl,rfl,rfl⟩,fun b hb=>?_,q⟩
  have e:b=s1.heap.objs.size:=by simpa using hb
  subst e
  exact I1.fpOk (Nat.le_refl _) (I1.hok.fresh (Nat.le_refl _))
end
end L2
namespace HT
open PySem PySem.Spec PyProof.Rows
section
variable {prog:Program} {w:World} {A:Around} {E:Value→Shared→Prop} {s:Shared}
end
end HT
namespace L2
open PySem PySem.Spec PyProof.Rows
section
variable {X:Cx}
def zdM (K:W.Frag):V→Option Int→Option Int→Hp→VK→Prop:=fun x lo hi H Q=>∃ a xs,x=.ref a∧SqT K H a xs ∧
 ((HT.sIx xs.length 0 lo=0∧HT.sIx xs.length xs.length hi=xs.length)→Q (.ref a) H)∧(¬ (HT.sIx xs.length 0 lo=0∧HT.sIx xs.length xs.length hi=xs.length)→∀ p,H p=none→Q (.ref p) (upd H p (.tup (Wg xs lo hi))))
end
end L2
namespace L2
open PySem PySem.Spec PyProof.Rows
def zdo (K:W.Frag) (te ts:TE):TE:=fun σ H Q=>te σ H fun x H1=>ts σ H1 fun k H2=>∃ a xs,x=.ref a∧k=.int (-1)∧SqL K H2 a xs∧∀ p,H2 p=none→Q (.ref p) (upd H2 p (.lst xs.reverse))
section
variable {X:Cx} {e st:Expr} {p2 pos:Pos} {te ts:TE}
end
end L2
namespace L2
open PySem PySem.Spec PySem.W PyProof.Rows
abbrev zdN:RC:=fun xs H Q=>∃ (a:Addr) (kvs:List (Key × V)) (rs:List Int),xs=[.ref a]∧H a=some (.dK kvs)∧kvs.map (·.1)=rs.map Sum.inl∧kvs.length < 1000 ∧
 ∀ (l:Addr) (srt:List Int),H l=none→srt.Perm rs→srt.Pairwise (· < ·)→Q (.ref l) (upd H l (.lst (srt.map V.int)))
section
variable {X:Cx}
end
end L2
namespace L2
open PySem
section
variable {P:Program} {w:World} {A:Around} {E:Value→Shared→Prop} {s:Shared}
theorem K8 {it d:Addr} {i ep:Nat} {es:Array DictEntry} {e:DictEntry} {ok ov:Value} {Q:Option Value→Shared→Prop} (hit:ItA s.heap it d i es.size ep .none false ok ov) (hm:RawD s.heap d es ep) (hx:es[i]?=some e)
  (q:∀ h',IsItemIterOut h' it d (i + 1) es.size ep e.key e.val s.heap.objs.size→h'.get? s.heap.objs.size=some { cls:=.type "tuple",data:=.seq #[e.key,e.val] }→h'.objs.size=s.heap.objs.size + 1 →
   (∀ b o,b≠it→s.heap.get? b=some o→h'.get? b=some o)→Q (some (.ref s.heap.objs.size)) { s with heap:=h' }):wpAny (model P w) A (pyNext (.ref it)) Q E s:=by
 obtain ⟨hp,g,dr,tk,os⟩:=s;obtain ⟨od,hod,hcd,hdd⟩:=id hm
 have T:Shared.TypeIs ⟨hp,g,dr,tk,os⟩ (.ref it) "dict_itemiterator":=⟨_,hit,rfl⟩
 unfold pyNext;refine wpAny_bind (wpAny_attempt (wpAny_callSpecial?_slot (name:=Str.ofString "__next__") T F.slot_dict_itemiterator_next (wpAny_call_entry F.slot_dict_itemiterator_next T F.entry_dict_itemiterator_next ?_ (F.args_dict_itemiterator_next_1 _))))
 refine wpAny_bind (wpAny_pure ?_);refine wpAny_bind ?_;refine wpAny_bind ?_
 first | (refine wpAny_bind (wpAny_typeNameOfWhole_itemiter T (wpAny_pure ?_))) | (refine wpAny_bind (wpAny_typeNameOf_itemiter T (wpAny_pure ?_)))
 refine wpAny_bind (wpAny_fieldsOf hit rfl ?_);have own:Builtin.Dict_items.ownsTuple "dict_itemiterator"=true:=by decide
 simp only [own,if_true];show wpAny _ _ (if (Value.ref d == Value.none)=true then _ else _) _ _ _
 rw [if_neg (show ¬ ((Value.ref d == Value.none)=true) from Bool.false_ne_true)];refine wpAny_bind (wpAny_pure ?_);refine wpAny_bind (wpAny_dictEntries hod hdd ?_)
 rw [if_neg (by simp)];refine wpAny_bind (wpAny_pure ?_);refine wpAny_bind (wpAny_dictEpoch hod hdd ?_);rw [if_neg (by simp)];refine wpAny_pure ?_
 simp only [show ¬ ((i:Int) < 0) from by lia,if_false,Int.toNat_natCast,hx];refine wpAny_bind ?_
 first | (refine wpAny_bind (wpAny_typeNameOfWhole_itemiter T (wpAny_pure ?_))) | (refine wpAny_bind (wpAny_typeNameOf_itemiter T (wpAny_pure ?_)))
 refine wpAny_bind (wpAny_isOneOf_itemiter T ?_);show wpAny _ _ (setField (.ref it) 3 (rawInt ((i:Int) + 1)) >>= _) _ _ ⟨hp,g,dr,tk,os⟩
 refine wpAny_bind (wpAny_setField_rec hit (by simp) fun h₁ e1 s1=>?_)
 replace s1:Heap.SameBut it hp h₁:=s1
 replace e1:ItA h₁ it d (i + 1) es.size ep .none false ok ov:=by
  have z:((i + 1:Nat):Int)=(i:Int) + 1:=by lia
  unfold ItA;rw [z];simpa [rawInt] using e1
 have T1:Shared.TypeIs ⟨h₁,g,dr,tk,os⟩ (.ref it) "dict_itemiterator":=⟨_,e1,rfl⟩
 refine wpAny_bind (wpAny_holding ?_);refine wpAny_bind (wpAny_isOneOf_itemiter T1 ?_);refine wpAny_bind (wpAny_isOneOf_itemiter T1 ?_)
 show wpAny _ _ (Builtin.Dict_items.pairFromOwner (.ref it) 6 e.key e.val) _ _ ⟨h₁,g,dr,tk,os⟩
 unfold Builtin.Dict_items.pairFromOwner;refine wpAny_bind (wpAny_newTuple ?_)
 have e2:ItA (h₁.push { cls:=.type "tuple",data:=.seq #[e.key,e.val] }) it d (i + 1) es.size ep .none false ok ov:=Heap.get?_push_of_some _ e1
 generalize hg:h₁.push { cls:=.type "tuple",data:=.seq #[e.key,e.val] }=h₂ at e2
 have z1:h₁.objs.size=hp.objs.size:=s1.1;have il:it < hp.objs.size:=Heap.lt_size hit
 have t2:h₂.get? hp.objs.size=some { cls:=.type "tuple",data:=.seq #[e.key,e.val] }:=by rw [← hg,← z1];exact Heap.get?_push_size _ rfl
 have z2:h₂.objs.size=hp.objs.size + 1:=by rw [← hg,Heap.size_push,z1]
 have k2:∀ b o,b≠it→hp.get? b=some o→h₂.get? b=some o:=fun b o hb z=>by rw [← hg];exact Heap.get?_push_of_some _ (s1.extBut b o hb z)
 show wpAny _ _ (Builtin.Dict_items.ownedTupleIsFree (.ref it) >>= _) _ _ ⟨h₂,g,dr,tk,os⟩;rw [z1]
 clear hg e1 s1 T1 z1 h₁;refine wpAny_bind ?_;unfold Builtin.Dict_items.ownedTupleIsFree
 refine wpAny_bind (wpAny_field e2 rfl (x:=.none) rfl (wpAny_pure ?_));simp only [if_true]
 refine wpAny_bind (wpAny_field e2 rfl (x:=ok) rfl ?_);refine wpAny_bind (wpAny_field e2 rfl (x:=ov) rfl ?_)
 refine wpAny_bind (wpAny_setField_rec e2 (by simp) fun h₃ e3 s3=>?_);replace s3:Heap.SameBut it h₂ h₃:=s3;replace e3:ItA h₃ it d (i + 1) es.size ep .none false e.key ov:=e3
 refine wpAny_bind (wpAny_setField_rec e3 (by simp) fun h₄ e4 s4=>?_);replace s4:Heap.SameBut it h₃ h₄:=s4;replace e4:ItA h₄ it d (i + 1) es.size ep .none false e.key e.val:=e4
 refine wpAny_bind (wpAny_setField_rec e4 (by simp) fun h₅ e5 s5=>?_);replace s5:Heap.SameBut it h₄ h₅:=s5;replace e5:ItA h₅ it d (i + 1) es.size ep (rawInt (hp.objs.size:Nat)) false e.key e.val:=e5
 refine wpAny_bind (wpAny_setField_rec e5 (by simp) fun h₆ e6 s6=>?_);replace s6:Heap.SameBut it h₅ h₆:=s6;replace e6:ItA h₆ it d (i + 1) es.size ep (rawInt (hp.objs.size:Nat)) false e.key e.val:=e6
 have k6:∀ b o,b≠it→h₂.get? b=some o→h₆.get? b=some o:=fun b o hb z=>s6.extBut b o hb (s5.extBut b o hb (s4.extBut b o hb (s3.extBut b o hb z)))
 have t6:=k6 _ _ (Nat.ne_of_gt il) t2
 refine wpAny_bind (wpAny_letGo (wpAny_pure (wpAny_pure ⟨_,rfl,wpAny_pure (q h₆ e6 t6 ?_ (fun b o hb z=>k6 b o hb (k2 b o hb z)))⟩)))
 show h₆.objs.size=hp.objs.size + 1;rw [s6.1,s5.1,s4.1,s3.1,z2]
theorem YS:entryFor table "dict_itemiterator.__iter__"=some Builtin.«dict_keyiterator.__iter__» :=
 entryFor_alias (id':="dict_keyiterator.__iter__") (by kernel_rfl) rfl (by decide +kernel) (by kernel_rfl)
theorem JA {it d:Addr} {i n ep:Nat} {ok ov:Value} {Q:Value→Shared→Prop} (hit:IsItemIter s.heap it d i n ep ok ov) (h:Q (.ref it) s):wpAny (model P w) A (pyIter (.ref it)) Q E s:=by
 have T:s.TypeIs (.ref it) "dict_itemiterator":=⟨_,hit,rfl⟩
 refine wpAny_pyIter_slot T F.slot_dict_itemiterator_iter (wpAny_call_entry F.slot_dict_itemiterator_iter T YS ?_ (F.args_dict_itemiterator_iter_1 _))
 show wpAny _ _ (ret (.ref it)) _ _ s
 exact wpAny_pure ⟨_,rfl,"dict_itemiterator",_,T,F.slot_dict_itemiterator_next.lookup,h⟩
end
end L2
namespace L2
open PySem PySem.Spec PyProof.Rows
def Itm (a:Addr) (o:Obj) (kvs:List (List Key × V)):It :=
 ⟨fun i H=>H a=some (.frz o (.dT kvs))∧i < kvs.length,fun i H x H'=>∃ T k v p,kvs[i]?=some (k,v)∧x=.ref T∧H T=none∧H p=some (.tup (k.map kV))∧H'=upd H T (.tup [.ref p,v]),fun i H=>H a=some (.frz o (.dT kvs))∧kvs.length≤i⟩
section
variable {X:Cx}
theorem YT {pins:List (Addr × Obj)} {σ:St} {H:Hp} {s:Shared} {a:Addr} {o:Obj} {kvs:List (List Key × V)} (I:Inv X pins σ H s) (ha:H a=some (.frz o (.dT kvs))) :
  (a == sysModules)=false∧∃ (es:Array DictEntry) (ep:Nat),o.data=.dict es ep∧RawD s.heap a es ep∧es.size=kvs.length∧∀ (i:Nat) (e:DictEntry),es[i]?=some e→∃ (k:List Key) (v:V) (p:Addr),kvs[i]?=some (k,v)∧e.key=Value.ref p∧H p=some (.tup (k.map kV))∧RelV v e.val:=by
 obtain ⟨hg,hz,lo,xs,rel,o',es,ep,ho,hx,hd,he,hn⟩:=(show ObjOk X.prog X.w H s.heap a (.frz o (.dT kvs)) from I.hok a _ ha)
 rw [hg] at ho
 cases ho
 have lx:kvs.length=xs.length:=Paired.length rel
 have les:es.size=xs.length:=by rw [← Array.length_toList,he,List.length_map]
 refine ⟨lo,es,ep,hd,⟨o,hg,hx,hd⟩,by lia,fun i e hi=>?_⟩
 have e2:es.toList[i]?=some e:=by rw [Array.getElem?_toList];exact hi
 rw [he,List.getElem?_map] at e2
 obtain ⟨x,hxx,ex⟩:=Option.map_eq_some_iff.mp e2
 have hl:=(List.getElem?_eq_some_iff.mp hxx).1
 have hk:kvs[i]?=some kvs[i]:=List.getElem?_eq_getElem (by lia)
 have rl:=yL rel hk hxx
 refine ⟨kvs[i].1,kvs[i].2,x.2.1,hk,by rw [← ex];rfl,rl.2.1,by rw [← ex];exact rl.2.2⟩
theorem JB {P:Program} {w:World} {K:W.Frag} {elts:List Expr} {x1} {pos:Pos} {a it:Addr} {o:Obj} {kvs:List (List Key × V)} {es:Array DictEntry} {ep:Nat} (hd:o.data=.dict es ep) :
  KG P w K (.Tuple elts x1 pos) (Itm a o kvs) [it] it (fun i h=>∃ ok ov,IsItemIter h it a i es.size ep ok ov) where
 mem:=by simp
 obj:=fun i h st b hb=>by
  have e:b=it:=by simpa using hb
  subst e
  obtain ⟨ok,ov,st⟩:=st
  exact ⟨_,st,fun v z=>by cases z⟩
 keep:=fun i h h' ⟨ok,ov,st⟩ k=>⟨ok,ov,k it (by simp) _ st⟩
 item:=by
  intro X hP hw hK hc i pins s σ H E I hf st hg
  subst hP hw hK
  obtain ⟨ha,hi⟩:=hg
  obtain ⟨lo,es',ep',hd',raw,hs,key⟩:=YT I ha
  rw [hd] at hd'
  cases hd'
  obtain ⟨ok,ov,st⟩:=st
  have hx:es[i]?=some es[i]:=Array.getElem?_eq_getElem (by lia)
  obtain ⟨k,v,p,hk,ek,hp,rv⟩:=key i _ hx
  refine K8 st raw hx fun h e8 t8 sz k8=>?_
  have I6:Inv X pins σ (upd H s.heap.objs.size (.tup [.ref p,v])) { s with heap:=s.heap.push { cls:=.type "tuple",data:=.seq #[es[i].key,es[i].val] } } :=
   I.laid (a:=s.heap.objs.size) (o:=.tup [.ref p,v]) (t':=s.toks) (fun b u e=>Heap.get?_push_of_some _ e) (Nat.le_refl _) ⟨by show 2≤sizeLine;decide,[es[i].key,es[i].val],.cons (by rw [ek];rfl) (.cons rv .nil),⟨_,Heap.get?_push_size _ rfl,rfl,_,rfl⟩⟩
  have old:∀ c∈[it],c≠s.heap.objs.size:=fun c hc=>by
   rw [List.mem_singleton.mp hc];exact Nat.ne_of_lt (Heap.lt_size st)
  have free:∀ c∈[it],upd H s.heap.objs.size (HO.tup [.ref p,v]) c=none:=fun c hc=>by rw [zk (old c hc)];exact (hf c hc).1
  have fz:∀ c∈[it],ke X pins (upd H s.heap.objs.size (HO.tup [.ref p,v])) c:=fun c hc=>⟨free c hc,(hf c hc).2⟩
  refine ⟨.ref s.heap.objs.size,rfl,wpAny_letOwnedTupleGo_items e8 fun h2 z9 sb2=>?_⟩
  have up:∀ c o,c≠it→h.get? c=some o→h2.get? c=some o:=fun c o hc e=>by
   rw [show h2.get? c=h.get? c from sb2.2 c hc];exact e
  have I7:Inv X pins σ (upd H s.heap.objs.size (.tup [.ref p,v])) { s with heap:=h2 }:=I6.turnedL (s:={ s with heap:=s.heap.push { cls:=.type "tuple",data:=.seq #[es[i].key,es[i].val] } }) (t':=s.toks) (ch:=[it]) (fun c o hc e=>by
   have hc:c≠it:=fun z=>hc (List.mem_singleton.mpr z)
   refine up c o hc ?_
   rcases Heap.get?_push_cases (show (s.heap.push { cls:=.type "tuple",data:=.seq #[es[i].key,es[i].val] }).get? c=some o from e) with ⟨rfl,rfl⟩ | e
   ·exact t8
   ·exact k8 c o hc e) fun c hc=>fz c hc
  exact ⟨.ref s.heap.objs.size,_,I7,rfl,⟨_,k,v,p,hk,rfl,I.hok.fresh (Nat.le_refl _),hp,rfl⟩,⟨_,_,z9⟩,free⟩
 done:=by
  intro X hP hw hK hc i pins s σ H E I hf st hg
  subst hP hw hK
  obtain ⟨ha,hi⟩:=hg
  obtain ⟨lo,es',ep',hd',raw,hs,key⟩:=YT I ha
  rw [hd] at hd'
  cases hd'
  obtain ⟨ok,ov,st⟩:=st
  obtain ⟨f0,f1,f2,f3,f4,f5⟩:=hf it (by simp)
  exact Kq (I.ok.hd hc) st raw (by lia) fun h' eb=>⟨rfl,I.turned (t':=s.toks) (fun b o hb e=>eb b o hb e) f0 f1 f3 f4 f5⟩
 self:=fun _ _ _ _ _ st h=>by
  obtain ⟨ok,ov,st⟩:=st
  exact JA st h
def YU (td:TE):TI:=fun σ H R=>td σ H fun x H1=>∃ a o kvs,x=.ref a∧H1 a=some (.frz o (.dT kvs))∧R (Itm a o kvs) H1
theorem zap {elts:List Expr} {x1} {tp:Pos} {o:Expr} {apos cpos:Pos} {td:TE} (ho:PE X o td) (hbase:attributeBase o "items" X.env (eval o X.env)=eval o X.env:=by rfl) (hline:(apos.endLine == cpos.line)=true:=by rfl):PI X (.Tuple elts x1 tp) (.Call (.Attribute o "items" apos) [] [] cpos) (YU td):=by
 intro pins s σ H R I h
 refine wpAny_Call_method0_late hbase hline (thn (ho pins s σ H _ I h) fun v s1 ⟨x,H1,I1,r1,d,ob,kvs,ex,hd,q1⟩=>?_)
 subst ex
 obtain rfl:v=Value.ref d:=r1
 obtain ⟨lo,es,ep,hdd,raw,hs,key⟩:=YT I1 hd
 obtain ⟨t1,t2,t3⟩:=Jo I1 (.inr ⟨kvs,.inr ⟨ob,hd⟩⟩)
 refine ⟨"dict","dict.items",F.plainAttrs_dict,F.slot_dict_items,F.type_dict_items,t1,t2,Calls.callWith_builtin rfl (PySem.evalArgs_none ?_)⟩
 refine wpAny_call_entry F.slot_dict_items t1 F.entry_dict_items ?_ (F.args_dict_items_1 _)
 unfold Builtin.«dict.items»;refine wpAny_bind ?_;unfold Builtin.Dict.noArgs;refine wpAny_bind (wpAny_notOrdered_dict t1 ?_)
 show wpAny _ _ (pure d) _ _ s1;refine wpAny_pure ?_
 show wpAny _ _ (Builtin.Dict.showsAll d >>= _) _ _ s1;unfold Builtin.Dict.showsAll
 rw [if_neg (by rw [t3];exact Bool.false_ne_true)];refine wpAny_bind (wpAny_pure ?_)
 refine wpAny_bind (wpAny_newObj_type (wpAny_pure ⟨_,rfl,?_⟩))
 have at0:(s1.heap.push { cls:=.type "dict_items",data:=.fields #[.ref d] }).get? s1.heap.objs.size=some { cls:=.type "dict_items",data:=.fields #[.ref d] }:=Heap.get?_push_size _ rfl
 have I2:Inv X pins σ H1 { s1 with heap:=s1.heap.push { cls:=.type "dict_items",data:=.fields #[.ref d] } }:=I1.kept (t':=s1.toks) fun b u e=>Heap.get?_push_of_some _ e
 have raw2:RawD (s1.heap.push { cls:=.type "dict_items",data:=.fields #[.ref d] }) d es ep:=raw.at fun o e=>Heap.get?_push_of_some _ e
 refine VA (s:={ s1 with heap:=s1.heap.push { cls:=.type "dict_items",data:=.fields #[.ref d] } }) ⟨_,at0,rfl,rfl⟩ raw2 ?_
 generalize hg:(s1.heap.push { cls:=.type "dict_items",data:=.fields #[.ref d] }:Heap)=h2 at *
 refine ⟨h2.objs.size,[h2.objs.size],_,_,H1,rfl,I2.kept (s:={ s1 with heap:=h2 }) (t':=s1.toks) fun b o e=>Heap.get?_push_of_some _ e,JB hdd,⟨.none,.none,Heap.get?_push_size _ rfl⟩,fun b hb=>?_,q1⟩
 have e:b=h2.objs.size:=by simpa using hb
 subst e
 exact I2.fpOk (Nat.le_refl _) (I2.hok.fresh (Nat.le_refl _))
end
end L2
namespace K23
open PySem L2
theorem jqa {α:Type} {a:α} {l m:List α}:a :: l ++ m=a :: (l ++ m):=rfl
theorem jqb {α:Type} (l:List α):[] ++ l=l:=rfl
theorem jqc {α:Type} (l:List α):l ++ []=l:=List.append_nil l
theorem jqd {α:Type} {a:α} {l:List α}:(a :: l)[0]?=some a:=rfl
theorem jqe {α:Type} {a:α} {l:List α} {i:Nat}:(a :: l)[i + 1]?=l[i]?:=rfl
theorem jqf {α:Type} (a b:α):(some a=some b)=(a=b):=Option.some.injEq a b
theorem jqg {α:Sort _} {p:α→Prop} {a:α}:(∃ x,a=x∧p x)↔p a:=exists_eq_left'
theorem jqh {α:Sort _} {p:α→Prop} {a:α}:(∃ x,x=a∧p x)↔p a:=exists_eq_left
theorem jqi (a b:Int):(V.int a=V.int b)=(a=b):=V.int.injEq a b
theorem jqj (a b:Addr):(V.ref a=V.ref b)=(a=b):=V.ref.injEq a b
theorem jqk (a b:Str):(V.str a=V.str b)=(a=b):=V.str.injEq a b
theorem jql (a b:Bool):(V.bl a=V.bl b)=(a=b):=V.bl.injEq a b
theorem jqm (a b:String):(V.ty a=V.ty b)=(a=b):=V.ty.injEq a b
theorem jqn {α:Type} (a:α) (l:List α) (b:α) (m:List α):(a :: l=b :: m)=(a=b∧l=m):=List.cons.injEq a l b m
theorem jqo {α:Sort _} {p:α→Prop} {b:Prop}:(∃ x,b∧p x)↔b∧(∃ x,p x):=exists_and_left
theorem jqp {α:Type} {x:α} {l:List α} {a:α}:(x :: l).set 0 a=a :: l:=rfl
theorem jqq {α:Type} {x:α} {l:List α} {i:Nat} {a:α}:(x :: l).set (i + 1) a=x :: l.set i a:=rfl
theorem jqr {p:Prop} [Decidable p]:(decide p=true)=p:=decide_eq_true_eq
theorem jqs (b:Bool):((!b)=true)=(b=false):=Bool.not_eq_true' b
theorem jqt {p:Prop} {_:Decidable p}:decide p=false↔¬p:=decide_eq_false_iff_not
theorem jqu:(false=true)=False:=Bool.false_eq_true
def top (i:Nat):Stmt:=PySem.Challenge.pw_forerun_k23_whole_rows_done.main.body.getD i (.Pass ⟨0,0,0,0⟩)
abbrev x5:Stmt:=top 20
abbrev yK:Stmt:=top 21
abbrev xm:Stmt:=top 22
abbrev xz:Stmt:=top 30
abbrev yY:Stmt:=top 19
abbrev xo:Stmt:=top 28
abbrev x6:Stmt:=top 23
abbrev x8:Stmt:=top 24
abbrev x9:Stmt:=top 25
abbrev wc:Stmt:=top 26
abbrev wB:Stmt:=top 27
abbrev we:Stmt:=top 29
abbrev wC:Stmt:=top 31
abbrev xA:Stmt:=top 32
abbrev wD:Stmt:=top 33
abbrev yZ:Stmt:=top 34
abbrev yO:Stmt:=top 35
abbrev xp:Stmt:=top 36
abbrev xB:Stmt:=ZX (top 15) 0
abbrev vi:Stmt:=top 10
abbrev vj:Stmt:=top 11
abbrev wE:Stmt:=top 7
abbrev jm:Stmt:=top 12
abbrev wF:Stmt:=top 13
abbrev yy:Stmt:=ZX (top 15) 1
abbrev xC:Stmt:=ZX (top 15) 3
abbrev yg:Stmt:=ZX (top 15) 2
abbrev xD:Stmt:=top 16
abbrev xP:Stmt:=top 5
abbrev kZ:Stmt:=top 17
abbrev xE:Stmt:=top 37
abbrev X6:Stmt:=top 38
theorem sc__law_draw:zN ["cell","j","far"] ["cell","j"] (zj x5):=⟨rfl,rfl,rfl,by decide +kernel,rfl,by decide +kernel,by decide +kernel⟩
theorem sc__law_names:zN ["cell","many","size","signs","shorter","stem","k","at","turn"] ["cell","many"] (zj yK):=⟨rfl,rfl,rfl,by decide +kernel,rfl,by decide +kernel,by decide +kernel⟩
theorem YV:zN ["cell","j"] ["cell","j"] (zj xm):=⟨rfl,rfl,rfl,by decide +kernel,rfl,by decide +kernel,by decide +kernel⟩
theorem sc__law_table:zN ["cell","shelves","worths","k","worth"] ["cell","shelves"] (zj xz):=⟨rfl,rfl,rfl,by decide +kernel,rfl,by decide +kernel,by decide +kernel⟩
theorem ZO:zN ["script","k"] ["script","k"] (zj yY):=⟨rfl,rfl,rfl,by decide +kernel,rfl,by decide +kernel,by decide +kernel⟩
theorem sc__law_closed:zN ["frames","frame"] ["frames"] (zj xo):=⟨rfl,rfl,rfl,by decide +kernel,rfl,by decide +kernel,by decide +kernel⟩
theorem WH:zN ["cell","j","slots"] ["cell","j","slots"] (zj x6):=⟨rfl,rfl,rfl,by decide +kernel,rfl,by decide +kernel,by decide +kernel⟩
theorem sc__law_word:zN ["cell","j","words"] ["cell","j"] (zj x8):=⟨rfl,rfl,rfl,by decide +kernel,rfl,by decide +kernel,by decide +kernel⟩
theorem sc__law_term:zN ["cell","j","slots","kind","one","two","three","long","k","word"] ["cell","j","slots"] (zj x9):=⟨rfl,rfl,rfl,by decide +kernel,rfl,by decide +kernel,by decide +kernel⟩
theorem WI:zN ["cell","j","slots"] ["cell","j","slots"] (zj wc):=⟨rfl,rfl,rfl,by decide +kernel,rfl,by decide +kernel,by decide +kernel⟩
theorem sc__law_row:zN ["cell","slots","shelves","kind","shelf","slot"] ["cell","slots","shelves"] (zj wB):=⟨rfl,rfl,rfl,by decide +kernel,rfl,by decide +kernel,by decide +kernel⟩
theorem sc__law_rows:zN ["cells","slots","shelves","frames","cell","kind"] ["cells","slots","shelves"] (zj we):=⟨rfl,rfl,rfl,by decide +kernel,rfl,by decide +kernel,by decide +kernel⟩
theorem sc__law_two:zN ["one","other","word","made"] ["one","other","word"] (zj wC):=⟨rfl,rfl,rfl,by decide +kernel,rfl,by decide +kernel,by decide +kernel⟩
theorem sc__law_worth:zN ["term","state","parts","part","other","made"] ["term","state"] (zj xA):=⟨rfl,rfl,rfl,by decide +kernel,rfl,by decide +kernel,by decide +kernel⟩
theorem sc__law_one:zN ["row","state","first","second"] ["row","state"] (zj wD):=⟨rfl,rfl,rfl,by decide +kernel,rfl,by decide +kernel,by decide +kernel⟩
theorem sc__law_through:zN ["rows","state","row"] ["rows","state"] (zj yZ):=⟨rfl,rfl,rfl,by decide +kernel,rfl,by decide +kernel,by decide +kernel⟩
theorem sc__law_walked:zN ["rows","table","state","behind"] ["rows","table"] (zj yO):=⟨rfl,rfl,rfl,by decide +kernel,rfl,by decide +kernel,by decide +kernel⟩
theorem sc__law_copied:zN ["rows","found","row"] ["rows"] (zj xp):=⟨rfl,rfl,rfl,by decide +kernel,rfl,by decide +kernel,by decide +kernel⟩
theorem Xh:zN ["self","table"] ["self","table"] (zj xB):=⟨rfl,rfl,rfl,by decide +kernel,rfl,by decide +kernel,by decide +kernel⟩
theorem JC:zN ["word","first","second"] ["word","first","second"] (zj vi):=⟨rfl,rfl,rfl,by decide +kernel,rfl,by decide +kernel,by decide +kernel⟩
theorem JD:zN ["word","first","second"] ["word","first","second"] (zj vj):=⟨rfl,rfl,rfl,by decide +kernel,rfl,by decide +kernel,by decide +kernel⟩
theorem VP:zN ["thing"] ["thing"] (zj wE):=⟨rfl,rfl,rfl,by decide +kernel,rfl,by decide +kernel,by decide +kernel⟩
theorem sc_joined:zN ["word","first","second","worth"] ["word","first","second"] (zj jm):=⟨rfl,rfl,rfl,by decide +kernel,rfl,by decide +kernel,by decide +kernel⟩
theorem sc_reckoned:zN ["term","slots","worths","part","second","first"] ["term","slots"] (zj wF):=⟨rfl,rfl,rfl,by decide +kernel,rfl,by decide +kernel,by decide +kernel⟩
theorem Ze:zN ["self","term"] ["self","term"] (zj yy):=⟨rfl,rfl,rfl,by decide +kernel,rfl,by decide +kernel,by decide +kernel⟩
theorem sc_Doing_does:zN ["self","row","place"] ["self","row"] (zj xC):=⟨rfl,rfl,rfl,by decide +kernel,rfl,by decide +kernel,by decide +kernel⟩
theorem sc_Doing_goes_through:zN ["self","rows","row"] ["self","rows"] (zj yg):=⟨rfl,rfl,rfl,by decide +kernel,rfl,by decide +kernel,by decide +kernel⟩
theorem Xi:zN ["why","table"] ["why","table"] (zj xD):=⟨rfl,rfl,rfl,by decide +kernel,rfl,by decide +kernel,by decide +kernel⟩
theorem sc_table_of:zN ["rows","worths"] ["rows"] (zj xP):=⟨rfl,rfl,rfl,by decide +kernel,rfl,by decide +kernel,by decide +kernel⟩
theorem sc_alone:zN ["rows","table","doing","came_through"] ["rows","table"] (zj kZ):=⟨rfl,rfl,rfl,by decide +kernel,rfl,by decide +kernel,by decide +kernel⟩
theorem sc__law_plain:zN ["found","part"] ["found"] (zj xE):=⟨rfl,rfl,rfl,by decide +kernel,rfl,by decide +kernel,by decide +kernel⟩
theorem sc_law:zN ["script","slots","shelves","table","many","cells","at","rows","due","handed","given","told"] ["script"] (zj X6):=⟨rfl,rfl,rfl,by decide +kernel,rfl,by decide +kernel,by decide +kernel⟩
set_option genSizeOf false in
set_option genInjectivity false in
structure Adr where
 a__law_draw:Addr
 d__law_draw:FuncData
 a__law_names:Addr
 d__law_names:FuncData
 a__law_number:Addr
 d__law_number:FuncData
 a__law_table:Addr
 d__law_table:FuncData
 a__law_cell_at:Addr
 d__law_cell_at:FuncData
 a__law_closed:Addr
 d__law_closed:FuncData
 a__law_part:Addr
 d__law_part:FuncData
 a__law_word:Addr
 d__law_word:FuncData
 a__law_term:Addr
 d__law_term:FuncData
 a__law_spot:Addr
 d__law_spot:FuncData
 a__law_row:Addr
 d__law_row:FuncData
 a__law_rows:Addr
 d__law_rows:FuncData
 a__law_two:Addr
 d__law_two:FuncData
 a__law_worth:Addr
 d__law_worth:FuncData
 a__law_one:Addr
 d__law_one:FuncData
 a__law_through:Addr
 d__law_through:FuncData
 a__law_walked:Addr
 d__law_walked:FuncData
 a__law_copied:Addr
 d__law_copied:FuncData
 a_Doing_init:Addr
 d_Doing_init:FuncData
 a_divided:Addr
 d_divided:FuncData
 a_come_to:Addr
 d_come_to:FuncData
 a_is_worth:Addr
 d_is_worth:FuncData
 a_joined:Addr
 d_joined:FuncData
 a_reckoned:Addr
 d_reckoned:FuncData
 a_Doing_worth_of:Addr
 d_Doing_worth_of:FuncData
 a_Doing_does:Addr
 d_Doing_does:FuncData
 a_Doing_goes_through:Addr
 d_Doing_goes_through:FuncData
 a_broken_off:Addr
 d_broken_off:FuncData
 a_table_of:Addr
 d_table_of:FuncData
 a_alone:Addr
 d_alone:FuncData
 a__law_plain:Addr
 d__law_plain:FuncData
 a_law:Addr
 d_law:FuncData
 c_JOINING:Addr
 c_Doing:Addr
 c_Great:Addr
 c_Nought:Addr
structure Txt (K:W.Frag) (mg:Str→Option Value) (t:Adr):Prop where
 f__law_draw:Fun K "_law_draw" "_law_draw" x5 t.a__law_draw t.d__law_draw
 b__law_draw:Binds K t.d__law_draw ["cell","j"] []
 m__law_draw:mg "_law_draw"=some (.ref t.a__law_draw)
 f__law_names:Fun K "_law_names" "_law_names" yK t.a__law_names t.d__law_names
 b__law_names:Binds K t.d__law_names ["cell","many"] []
 m__law_names:mg "_law_names"=some (.ref t.a__law_names)
 f__law_number:Fun K "_law_number" "_law_number" xm t.a__law_number t.d__law_number
 b__law_number:Binds K t.d__law_number ["cell","j"] []
 m__law_number:mg "_law_number"=some (.ref t.a__law_number)
 f__law_table:Fun K "_law_table" "_law_table" xz t.a__law_table t.d__law_table
 b__law_table:Binds K t.d__law_table ["cell","shelves"] []
 m__law_table:mg "_law_table"=some (.ref t.a__law_table)
 f__law_cell_at:Fun K "_law_cell_at" "_law_cell_at" yY t.a__law_cell_at t.d__law_cell_at
 b__law_cell_at:Binds K t.d__law_cell_at ["script","k"] []
 m__law_cell_at:mg "_law_cell_at"=some (.ref t.a__law_cell_at)
 f__law_closed:Fun K "_law_closed" "_law_closed" xo t.a__law_closed t.d__law_closed
 b__law_closed:Binds K t.d__law_closed ["frames"] []
 m__law_closed:mg "_law_closed"=some (.ref t.a__law_closed)
 f__law_part:Fun K "_law_part" "_law_part" x6 t.a__law_part t.d__law_part
 b__law_part:Binds K t.d__law_part ["cell","j","slots"] []
 m__law_part:mg "_law_part"=some (.ref t.a__law_part)
 f__law_word:Fun K "_law_word" "_law_word" x8 t.a__law_word t.d__law_word
 b__law_word:Binds K t.d__law_word ["cell","j"] []
 m__law_word:mg "_law_word"=some (.ref t.a__law_word)
 f__law_term:Fun K "_law_term" "_law_term" x9 t.a__law_term t.d__law_term
 b__law_term:Binds K t.d__law_term ["cell","j","slots"] []
 m__law_term:mg "_law_term"=some (.ref t.a__law_term)
 f__law_spot:Fun K "_law_spot" "_law_spot" wc t.a__law_spot t.d__law_spot
 b__law_spot:Binds K t.d__law_spot ["cell","j","slots"] []
 m__law_spot:mg "_law_spot"=some (.ref t.a__law_spot)
 f__law_row:Fun K "_law_row" "_law_row" wB t.a__law_row t.d__law_row
 b__law_row:Binds K t.d__law_row ["cell","slots","shelves"] []
 m__law_row:mg "_law_row"=some (.ref t.a__law_row)
 f__law_rows:Fun K "_law_rows" "_law_rows" we t.a__law_rows t.d__law_rows
 b__law_rows:Binds K t.d__law_rows ["cells","slots","shelves"] []
 m__law_rows:mg "_law_rows"=some (.ref t.a__law_rows)
 f__law_two:Fun K "_law_two" "_law_two" wC t.a__law_two t.d__law_two
 b__law_two:Binds K t.d__law_two ["one","other","word"] []
 m__law_two:mg "_law_two"=some (.ref t.a__law_two)
 f__law_worth:Fun K "_law_worth" "_law_worth" xA t.a__law_worth t.d__law_worth
 b__law_worth:Binds K t.d__law_worth ["term","state"] []
 m__law_worth:mg "_law_worth"=some (.ref t.a__law_worth)
 f__law_one:Fun K "_law_one" "_law_one" wD t.a__law_one t.d__law_one
 b__law_one:Binds K t.d__law_one ["row","state"] []
 m__law_one:mg "_law_one"=some (.ref t.a__law_one)
 f__law_through:Fun K "_law_through" "_law_through" yZ t.a__law_through t.d__law_through
 b__law_through:Binds K t.d__law_through ["rows","state"] []
 m__law_through:mg "_law_through"=some (.ref t.a__law_through)
 f__law_walked:Fun K "_law_walked" "_law_walked" yO t.a__law_walked t.d__law_walked
 b__law_walked:Binds K t.d__law_walked ["rows","table"] []
 m__law_walked:mg "_law_walked"=some (.ref t.a__law_walked)
 f__law_copied:Fun K "_law_copied" "_law_copied" xp t.a__law_copied t.d__law_copied
 b__law_copied:Binds K t.d__law_copied ["rows"] []
 m__law_copied:mg "_law_copied"=some (.ref t.a__law_copied)
 f_Doing_init:Fun K "__init__" "Doing.__init__" xB t.a_Doing_init t.d_Doing_init
 b_Doing_init:Binds K t.d_Doing_init ["self","table"] []
 f_divided:Fun K "divided" "divided" vi t.a_divided t.d_divided
 b_divided:Binds K t.d_divided ["word","first","second"] []
 m_divided:mg "divided"=some (.ref t.a_divided)
 f_come_to:Fun K "come_to" "come_to" vj t.a_come_to t.d_come_to
 b_come_to:Binds K t.d_come_to ["word","first","second"] []
 m_come_to:mg "come_to"=some (.ref t.a_come_to)
 f_is_worth:Fun K "is_worth" "is_worth" wE t.a_is_worth t.d_is_worth
 b_is_worth:Binds K t.d_is_worth ["thing"] []
 m_is_worth:mg "is_worth"=some (.ref t.a_is_worth)
 f_joined:Fun K "joined" "joined" jm t.a_joined t.d_joined
 b_joined:Binds K t.d_joined ["word","first","second"] []
 m_joined:mg "joined"=some (.ref t.a_joined)
 f_reckoned:Fun K "reckoned" "reckoned" wF t.a_reckoned t.d_reckoned
 b_reckoned:Binds K t.d_reckoned ["term","slots"] []
 m_reckoned:mg "reckoned"=some (.ref t.a_reckoned)
 f_Doing_worth_of:Fun K "worth_of" "Doing.worth_of" yy t.a_Doing_worth_of t.d_Doing_worth_of
 b_Doing_worth_of:Binds K t.d_Doing_worth_of ["self","term"] []
 me_Doing_worth_of:KK K t.c_Doing "worth_of" t.a_Doing_worth_of
 f_Doing_does:Fun K "does" "Doing.does" xC t.a_Doing_does t.d_Doing_does
 b_Doing_does:Binds K t.d_Doing_does ["self","row"] []
 me_Doing_does:KK K t.c_Doing "does" t.a_Doing_does
 f_Doing_goes_through:Fun K "goes_through" "Doing.goes_through" yg t.a_Doing_goes_through t.d_Doing_goes_through
 b_Doing_goes_through:Binds K t.d_Doing_goes_through ["self","rows"] []
 me_Doing_goes_through:KK K t.c_Doing "goes_through" t.a_Doing_goes_through
 f_broken_off:Fun K "broken_off" "broken_off" xD t.a_broken_off t.d_broken_off
 b_broken_off:Binds K t.d_broken_off ["why","table"] []
 m_broken_off:mg "broken_off"=some (.ref t.a_broken_off)
 f_table_of:Fun K "table_of" "table_of" xP t.a_table_of t.d_table_of
 b_table_of:Binds K t.d_table_of ["rows"] []
 m_table_of:mg "table_of"=some (.ref t.a_table_of)
 f_alone:Fun K "alone" "alone" kZ t.a_alone t.d_alone
 b_alone:Binds K t.d_alone ["rows","table"] []
 m_alone:mg "alone"=some (.ref t.a_alone)
 f__law_plain:Fun K "_law_plain" "_law_plain" xE t.a__law_plain t.d__law_plain
 b__law_plain:Binds K t.d__law_plain ["found"] []
 m__law_plain:mg "_law_plain"=some (.ref t.a__law_plain)
 f_law:Fun K "law" "law" X6 t.a_law t.d_law
 b_law:Binds K t.d_law ["script"] []
 m_law:mg "law"=some (.ref t.a_law)
 w_law:∀ (s:Shared) (v:Value),BindsTo s t.d_law ⟨[v],[]⟩ [("script",v)]
 b_bool:mg "bool"=none
 b_dict:mg "dict"=none
 b_int:mg "int"=none
 b_isinstance:mg "isinstance"=none
 b_len:mg "len"=none
 b_list:mg "list"=none
 b_range:mg "range"=none
 b_sorted:mg "sorted"=none
 b_str:mg "str"=none
 b_tuple:mg "tuple"=none
 g_JOINING:mg "JOINING"=some (.ref t.c_JOINING)
 v_JOINING:∀ H:Hp,SqT K H t.c_JOINING [.str "plus",.str "minus",.str "times",.str "over",.str "rest",.str "under",.str "same"]
 g_Doing:mg "Doing"=some (.ref t.c_Doing)
 g_Great:mg "Great"=some (.ref t.c_Great)
 g_Nought:mg "Nought"=some (.ref t.c_Nought)
 cl_Doing:Cls K t.c_Doing
 mk_Doing:Mk K t.c_Doing t.a_Doing_init
 na_Doing_sayings:NoAttr K t.c_Doing "sayings"
 na_Doing_slots:NoAttr K t.c_Doing "slots"
 na_Doing_worths:NoAttr K t.c_Doing "worths"
 x_Nought:W.excIn K t.c_Nought Vh Zr=true
 y_Nought:ExK K t.c_Nought
 e_Nought_Great:W.exmOne K (.ref t.c_Nought) (.ref t.c_Great)=some false
 e_Nought_Nought:W.exmOne K (.ref t.c_Nought) (.ref t.c_Nought)=some true
 x_Great:W.excIn K t.c_Great Vh Zr=true
 y_Great:ExK K t.c_Great
 e_Great_Great:W.exmOne K (.ref t.c_Great) (.ref t.c_Great)=some true
 e_Great_Nought:W.exmOne K (.ref t.c_Great) (.ref t.c_Nought)=some false
theorem txt_mk {K:W.Frag} {h:Heap} {mg:Str→Option Value} (X:K.In h) (G:h.Ns mainGlobals mg)
  {f0:Addr} {od0 an0:Option Addr} {sl0:Array (Option Value)} {oc0 kV0 dc0 pm0 cd0 ct0:Value}
  {f1:Addr} {od1 an1:Option Addr} {sl1:Array (Option Value)} {oc1 kV1 dc1 pm1 cd1 ct1:Value}
  {f2:Addr} {od2 an2:Option Addr} {sl2:Array (Option Value)} {oc2 kV2 dc2 pm2 cd2 ct2:Value}
  {f3:Addr} {od3 an3:Option Addr} {sl3:Array (Option Value)} {oc3 kV3 dc3 pm3 cd3 ct3:Value}
  {f4:Addr} {od4 an4:Option Addr} {sl4:Array (Option Value)} {oc4 kV4 dc4 pm4 cd4 ct4:Value}
  {f5:Addr} {od5 an5:Option Addr} {sl5:Array (Option Value)} {oc5 kV5 dc5 pm5 cd5 ct5:Value}
  {f6:Addr} {od6 an6:Option Addr} {sl6:Array (Option Value)} {oc6 kV6 dc6 pm6 cd6 ct6:Value}
  {f7:Addr} {od7 an7:Option Addr} {sl7:Array (Option Value)} {oc7 kV7 dc7 pm7 cd7 ct7:Value}
  {f8:Addr} {od8 an8:Option Addr} {sl8:Array (Option Value)} {oc8 kV8 dc8 pm8 cd8 ct8:Value}
  {f9:Addr} {od9 an9:Option Addr} {sl9:Array (Option Value)} {oc9 kV9 dc9 pm9 cd9 ct9:Value}
  {f10:Addr} {od10 an10:Option Addr} {sl10:Array (Option Value)} {oc10 kV10 dc10 pm10 cd10 ct10:Value}
  {f11:Addr} {od11 an11:Option Addr} {sl11:Array (Option Value)} {oc11 kV11 dc11 pm11 cd11 ct11:Value}
  {f12:Addr} {od12 an12:Option Addr} {sl12:Array (Option Value)} {oc12 kV12 dc12 pm12 cd12 ct12:Value}
  {f13:Addr} {od13 an13:Option Addr} {sl13:Array (Option Value)} {oc13 kV13 dc13 pm13 cd13 ct13:Value}
  {f14:Addr} {od14 an14:Option Addr} {sl14:Array (Option Value)} {oc14 kV14 dc14 pm14 cd14 ct14:Value}
  {f15:Addr} {od15 an15:Option Addr} {sl15:Array (Option Value)} {oc15 kV15 dc15 pm15 cd15 ct15:Value}
  {f16:Addr} {od16 an16:Option Addr} {sl16:Array (Option Value)} {oc16 kV16 dc16 pm16 cd16 ct16:Value}
  {f17:Addr} {od17 an17:Option Addr} {sl17:Array (Option Value)} {oc17 kV17 dc17 pm17 cd17 ct17:Value}
  {f18:Addr} {od18 an18:Option Addr} {sl18:Array (Option Value)} {oc18 kV18 dc18 pm18 cd18 ct18:Value}
  {f19:Addr} {od19 an19:Option Addr} {sl19:Array (Option Value)} {oc19 kV19 dc19 pm19 cd19 ct19:Value}
  {f20:Addr} {od20 an20:Option Addr} {sl20:Array (Option Value)} {oc20 kV20 dc20 pm20 cd20 ct20:Value}
  {f21:Addr} {od21 an21:Option Addr} {sl21:Array (Option Value)} {oc21 kV21 dc21 pm21 cd21 ct21:Value}
  {f22:Addr} {od22 an22:Option Addr} {sl22:Array (Option Value)} {oc22 kV22 dc22 pm22 cd22 ct22:Value}
  {f23:Addr} {od23 an23:Option Addr} {sl23:Array (Option Value)} {oc23 kV23 dc23 pm23 cd23 ct23:Value}
  {f24:Addr} {od24 an24:Option Addr} {sl24:Array (Option Value)} {oc24 kV24 dc24 pm24 cd24 ct24:Value}
  {f25:Addr} {od25 an25:Option Addr} {sl25:Array (Option Value)} {oc25 kV25 dc25 pm25 cd25 ct25:Value}
  {f26:Addr} {od26 an26:Option Addr} {sl26:Array (Option Value)} {oc26 kV26 dc26 pm26 cd26 ct26:Value}
  {f27:Addr} {od27 an27:Option Addr} {sl27:Array (Option Value)} {oc27 kV27 dc27 pm27 cd27 ct27:Value}
  {f28:Addr} {od28 an28:Option Addr} {sl28:Array (Option Value)} {oc28 kV28 dc28 pm28 cd28 ct28:Value}
  {f29:Addr} {od29 an29:Option Addr} {sl29:Array (Option Value)} {oc29 kV29 dc29 pm29 cd29 ct29:Value}
  {f30:Addr} {od30 an30:Option Addr} {sl30:Array (Option Value)} {oc30 kV30 dc30 pm30 cd30 ct30:Value}
  {f31:Addr} {od31 an31:Option Addr} {sl31:Array (Option Value)} {oc31 kV31 dc31 pm31 cd31 ct31:Value}
  {ga0:Addr} {gn0:Nat} {gt0_0:Tok} {gt0_1:Tok} {gt0_2:Tok} {gt0_3:Tok} {gt0_4:Tok} {gt0_5:Tok} {gt0_6:Tok}
  {ca0:Addr}
  {ca1:Addr}
  {ca2:Addr}
  {cl0:ClassData}
  {cl1:ClassData}
  (qa0:W.nsIn K mainGlobals "_law_draw"=some (some (.ref f0))) (ql0:K.lookup f0=some ⟨oc0,od0,.func (W.fnOf "_law_draw" "_law_draw" (zQ x5) (zM x5) (zj x5) .none kV0 dc0 pm0 an0 cd0 ct0),sl0⟩) (qc0:W.codeIn K cd0 "_law_draw"=true) (qk0:W.keepIn K (.ref f0)=true)
  (qa1:W.nsIn K mainGlobals "_law_names"=some (some (.ref f1))) (ql1:K.lookup f1=some ⟨oc1,od1,.func (W.fnOf "_law_names" "_law_names" (zQ yK) (zM yK) (zj yK) .none kV1 dc1 pm1 an1 cd1 ct1),sl1⟩) (qc1:W.codeIn K cd1 "_law_names"=true) (qk1:W.keepIn K (.ref f1)=true)
  (qa2:W.nsIn K mainGlobals "_law_number"=some (some (.ref f2))) (ql2:K.lookup f2=some ⟨oc2,od2,.func (W.fnOf "_law_number" "_law_number" (zQ xm) (zM xm) (zj xm) .none kV2 dc2 pm2 an2 cd2 ct2),sl2⟩) (qc2:W.codeIn K cd2 "_law_number"=true) (qk2:W.keepIn K (.ref f2)=true)
  (qa3:W.nsIn K mainGlobals "_law_table"=some (some (.ref f3))) (ql3:K.lookup f3=some ⟨oc3,od3,.func (W.fnOf "_law_table" "_law_table" (zQ xz) (zM xz) (zj xz) .none kV3 dc3 pm3 an3 cd3 ct3),sl3⟩) (qc3:W.codeIn K cd3 "_law_table"=true) (qk3:W.keepIn K (.ref f3)=true)
  (qa4:W.nsIn K mainGlobals "_law_cell_at"=some (some (.ref f4))) (ql4:K.lookup f4=some ⟨oc4,od4,.func (W.fnOf "_law_cell_at" "_law_cell_at" (zQ yY) (zM yY) (zj yY) .none kV4 dc4 pm4 an4 cd4 ct4),sl4⟩) (qc4:W.codeIn K cd4 "_law_cell_at"=true) (qk4:W.keepIn K (.ref f4)=true)
  (qa5:W.nsIn K mainGlobals "_law_closed"=some (some (.ref f5))) (ql5:K.lookup f5=some ⟨oc5,od5,.func (W.fnOf "_law_closed" "_law_closed" (zQ xo) (zM xo) (zj xo) .none kV5 dc5 pm5 an5 cd5 ct5),sl5⟩) (qc5:W.codeIn K cd5 "_law_closed"=true) (qk5:W.keepIn K (.ref f5)=true)
  (qa6:W.nsIn K mainGlobals "_law_part"=some (some (.ref f6))) (ql6:K.lookup f6=some ⟨oc6,od6,.func (W.fnOf "_law_part" "_law_part" (zQ x6) (zM x6) (zj x6) .none kV6 dc6 pm6 an6 cd6 ct6),sl6⟩) (qc6:W.codeIn K cd6 "_law_part"=true) (qk6:W.keepIn K (.ref f6)=true)
  (qa7:W.nsIn K mainGlobals "_law_word"=some (some (.ref f7))) (ql7:K.lookup f7=some ⟨oc7,od7,.func (W.fnOf "_law_word" "_law_word" (zQ x8) (zM x8) (zj x8) .none kV7 dc7 pm7 an7 cd7 ct7),sl7⟩) (qc7:W.codeIn K cd7 "_law_word"=true) (qk7:W.keepIn K (.ref f7)=true)
  (qa8:W.nsIn K mainGlobals "_law_term"=some (some (.ref f8))) (ql8:K.lookup f8=some ⟨oc8,od8,.func (W.fnOf "_law_term" "_law_term" (zQ x9) (zM x9) (zj x9) .none kV8 dc8 pm8 an8 cd8 ct8),sl8⟩) (qc8:W.codeIn K cd8 "_law_term"=true) (qk8:W.keepIn K (.ref f8)=true)
  (qa9:W.nsIn K mainGlobals "_law_spot"=some (some (.ref f9))) (ql9:K.lookup f9=some ⟨oc9,od9,.func (W.fnOf "_law_spot" "_law_spot" (zQ wc) (zM wc) (zj wc) .none kV9 dc9 pm9 an9 cd9 ct9),sl9⟩) (qc9:W.codeIn K cd9 "_law_spot"=true) (qk9:W.keepIn K (.ref f9)=true)
  (qa10:W.nsIn K mainGlobals "_law_row"=some (some (.ref f10))) (ql10:K.lookup f10=some ⟨oc10,od10,.func (W.fnOf "_law_row" "_law_row" (zQ wB) (zM wB) (zj wB) .none kV10 dc10 pm10 an10 cd10 ct10),sl10⟩) (qc10:W.codeIn K cd10 "_law_row"=true) (qk10:W.keepIn K (.ref f10)=true)
  (qa11:W.nsIn K mainGlobals "_law_rows"=some (some (.ref f11))) (ql11:K.lookup f11=some ⟨oc11,od11,.func (W.fnOf "_law_rows" "_law_rows" (zQ we) (zM we) (zj we) .none kV11 dc11 pm11 an11 cd11 ct11),sl11⟩) (qc11:W.codeIn K cd11 "_law_rows"=true) (qk11:W.keepIn K (.ref f11)=true)
  (qa12:W.nsIn K mainGlobals "_law_two"=some (some (.ref f12))) (ql12:K.lookup f12=some ⟨oc12,od12,.func (W.fnOf "_law_two" "_law_two" (zQ wC) (zM wC) (zj wC) .none kV12 dc12 pm12 an12 cd12 ct12),sl12⟩) (qc12:W.codeIn K cd12 "_law_two"=true) (qk12:W.keepIn K (.ref f12)=true)
  (qa13:W.nsIn K mainGlobals "_law_worth"=some (some (.ref f13))) (ql13:K.lookup f13=some ⟨oc13,od13,.func (W.fnOf "_law_worth" "_law_worth" (zQ xA) (zM xA) (zj xA) .none kV13 dc13 pm13 an13 cd13 ct13),sl13⟩) (qc13:W.codeIn K cd13 "_law_worth"=true) (qk13:W.keepIn K (.ref f13)=true)
  (qa14:W.nsIn K mainGlobals "_law_one"=some (some (.ref f14))) (ql14:K.lookup f14=some ⟨oc14,od14,.func (W.fnOf "_law_one" "_law_one" (zQ wD) (zM wD) (zj wD) .none kV14 dc14 pm14 an14 cd14 ct14),sl14⟩) (qc14:W.codeIn K cd14 "_law_one"=true) (qk14:W.keepIn K (.ref f14)=true)
  (qa15:W.nsIn K mainGlobals "_law_through"=some (some (.ref f15))) (ql15:K.lookup f15=some ⟨oc15,od15,.func (W.fnOf "_law_through" "_law_through" (zQ yZ) (zM yZ) (zj yZ) .none kV15 dc15 pm15 an15 cd15 ct15),sl15⟩) (qc15:W.codeIn K cd15 "_law_through"=true) (qk15:W.keepIn K (.ref f15)=true)
  (qa16:W.nsIn K mainGlobals "_law_walked"=some (some (.ref f16))) (ql16:K.lookup f16=some ⟨oc16,od16,.func (W.fnOf "_law_walked" "_law_walked" (zQ yO) (zM yO) (zj yO) .none kV16 dc16 pm16 an16 cd16 ct16),sl16⟩) (qc16:W.codeIn K cd16 "_law_walked"=true) (qk16:W.keepIn K (.ref f16)=true)
  (qa17:W.nsIn K mainGlobals "_law_copied"=some (some (.ref f17))) (ql17:K.lookup f17=some ⟨oc17,od17,.func (W.fnOf "_law_copied" "_law_copied" (zQ xp) (zM xp) (zj xp) .none kV17 dc17 pm17 an17 cd17 ct17),sl17⟩) (qc17:W.codeIn K cd17 "_law_copied"=true) (qk17:W.keepIn K (.ref f17)=true)
  (qa18:W.findIn K (.ref ca0) "__init__"=some (some (.ref f18))) (qi18:W.isFn K (.ref f18)=true) (ql18:K.lookup f18=some ⟨oc18,od18,.func (W.fnOf "__init__" "Doing.__init__" (zQ xB) (zM xB) (zj xB) .none kV18 dc18 pm18 an18 cd18 ct18),sl18⟩) (qc18:W.codeIn K cd18 "Doing.__init__"=true) (qk18:W.keepIn K (.ref f18)=true)
  (qa19:W.nsIn K mainGlobals "divided"=some (some (.ref f19))) (ql19:K.lookup f19=some ⟨oc19,od19,.func (W.fnOf "divided" "divided" (zQ vi) (zM vi) (zj vi) .none kV19 dc19 pm19 an19 cd19 ct19),sl19⟩) (qc19:W.codeIn K cd19 "divided"=true) (qk19:W.keepIn K (.ref f19)=true)
  (qa20:W.nsIn K mainGlobals "come_to"=some (some (.ref f20))) (ql20:K.lookup f20=some ⟨oc20,od20,.func (W.fnOf "come_to" "come_to" (zQ vj) (zM vj) (zj vj) .none kV20 dc20 pm20 an20 cd20 ct20),sl20⟩) (qc20:W.codeIn K cd20 "come_to"=true) (qk20:W.keepIn K (.ref f20)=true)
  (qa21:W.nsIn K mainGlobals "is_worth"=some (some (.ref f21))) (ql21:K.lookup f21=some ⟨oc21,od21,.func (W.fnOf "is_worth" "is_worth" (zQ wE) (zM wE) (zj wE) .none kV21 dc21 pm21 an21 cd21 ct21),sl21⟩) (qc21:W.codeIn K cd21 "is_worth"=true) (qk21:W.keepIn K (.ref f21)=true)
  (qa22:W.nsIn K mainGlobals "joined"=some (some (.ref f22))) (ql22:K.lookup f22=some ⟨oc22,od22,.func (W.fnOf "joined" "joined" (zQ jm) (zM jm) (zj jm) .none kV22 dc22 pm22 an22 cd22 ct22),sl22⟩) (qc22:W.codeIn K cd22 "joined"=true) (qk22:W.keepIn K (.ref f22)=true)
  (qa23:W.nsIn K mainGlobals "reckoned"=some (some (.ref f23))) (ql23:K.lookup f23=some ⟨oc23,od23,.func (W.fnOf "reckoned" "reckoned" (zQ wF) (zM wF) (zj wF) .none kV23 dc23 pm23 an23 cd23 ct23),sl23⟩) (qc23:W.codeIn K cd23 "reckoned"=true) (qk23:W.keepIn K (.ref f23)=true)
  (qa24:W.findIn K (.ref ca0) "worth_of"=some (some (.ref f24))) (qi24:W.isFn K (.ref f24)=true) (ql24:K.lookup f24=some ⟨oc24,od24,.func (W.fnOf "worth_of" "Doing.worth_of" (zQ yy) (zM yy) (zj yy) .none kV24 dc24 pm24 an24 cd24 ct24),sl24⟩) (qc24:W.codeIn K cd24 "Doing.worth_of"=true) (qk24:W.keepIn K (.ref f24)=true)
  (qa25:W.findIn K (.ref ca0) "does"=some (some (.ref f25))) (qi25:W.isFn K (.ref f25)=true) (ql25:K.lookup f25=some ⟨oc25,od25,.func (W.fnOf "does" "Doing.does" (zQ xC) (zM xC) (zj xC) .none kV25 dc25 pm25 an25 cd25 ct25),sl25⟩) (qc25:W.codeIn K cd25 "Doing.does"=true) (qk25:W.keepIn K (.ref f25)=true)
  (qa26:W.findIn K (.ref ca0) "goes_through"=some (some (.ref f26))) (qi26:W.isFn K (.ref f26)=true) (ql26:K.lookup f26=some ⟨oc26,od26,.func (W.fnOf "goes_through" "Doing.goes_through" (zQ yg) (zM yg) (zj yg) .none kV26 dc26 pm26 an26 cd26 ct26),sl26⟩) (qc26:W.codeIn K cd26 "Doing.goes_through"=true) (qk26:W.keepIn K (.ref f26)=true)
  (qa27:W.nsIn K mainGlobals "broken_off"=some (some (.ref f27))) (ql27:K.lookup f27=some ⟨oc27,od27,.func (W.fnOf "broken_off" "broken_off" (zQ xD) (zM xD) (zj xD) .none kV27 dc27 pm27 an27 cd27 ct27),sl27⟩) (qc27:W.codeIn K cd27 "broken_off"=true) (qk27:W.keepIn K (.ref f27)=true)
  (qa28:W.nsIn K mainGlobals "table_of"=some (some (.ref f28))) (ql28:K.lookup f28=some ⟨oc28,od28,.func (W.fnOf "table_of" "table_of" (zQ xP) (zM xP) (zj xP) .none kV28 dc28 pm28 an28 cd28 ct28),sl28⟩) (qc28:W.codeIn K cd28 "table_of"=true) (qk28:W.keepIn K (.ref f28)=true)
  (qa29:W.nsIn K mainGlobals "alone"=some (some (.ref f29))) (ql29:K.lookup f29=some ⟨oc29,od29,.func (W.fnOf "alone" "alone" (zQ kZ) (zM kZ) (zj kZ) .none kV29 dc29 pm29 an29 cd29 ct29),sl29⟩) (qc29:W.codeIn K cd29 "alone"=true) (qk29:W.keepIn K (.ref f29)=true)
  (qa30:W.nsIn K mainGlobals "_law_plain"=some (some (.ref f30))) (ql30:K.lookup f30=some ⟨oc30,od30,.func (W.fnOf "_law_plain" "_law_plain" (zQ xE) (zM xE) (zj xE) .none kV30 dc30 pm30 an30 cd30 ct30),sl30⟩) (qc30:W.codeIn K cd30 "_law_plain"=true) (qk30:W.keepIn K (.ref f30)=true)
  (qa31:W.nsIn K mainGlobals "law"=some (some (.ref f31))) (ql31:K.lookup f31=some ⟨oc31,od31,.func (W.fnOf "law" "law" (zQ X6) (zM X6) (zj X6) .none kV31 dc31 pm31 an31 cd31 ct31),sl31⟩) (qc31:W.codeIn K cd31 "law"=true) (qk31:W.keepIn K (.ref f31)=true)
  (qz0:W.nsIn K mainGlobals "bool"=some none)
  (qz1:W.nsIn K mainGlobals "dict"=some none)
  (qz2:W.nsIn K mainGlobals "int"=some none)
  (qz3:W.nsIn K mainGlobals "isinstance"=some none)
  (qz4:W.nsIn K mainGlobals "len"=some none)
  (qz5:W.nsIn K mainGlobals "list"=some none)
  (qz6:W.nsIn K mainGlobals "range"=some none)
  (qz7:W.nsIn K mainGlobals "sorted"=some none)
  (qz8:W.nsIn K mainGlobals "str"=some none)
  (qz9:W.nsIn K mainGlobals "tuple"=some none)
  (qg0:W.nsIn K mainGlobals "JOINING"=some (some (.ref ga0))) (qh0:K.lookup ga0=some ⟨.type "tuple",none,.seq #[.str "plus" gt0_0,.str "minus" gt0_1,.str "times" gt0_2,.str "over" gt0_3,.str "rest" gt0_4,.str "under" gt0_5,.str "same" gt0_6] gn0,#[]⟩)
  (qv0:W.nsIn K mainGlobals "Doing"=some (some (.ref ca0)))
  (qv1:W.nsIn K mainGlobals "Great"=some (some (.ref ca1)))
  (qv2:W.nsIn K mainGlobals "Nought"=some (some (.ref ca2)))
  (pg0:W.plainGet K ca0 Str.empty=true) (pd0:W.hasDictIn K ca0=true) (po0:W.plainOver K ca0=true) (pe0:W.findIn K (.ref ca0) "__setattr__"=some (some (.builtin "object.__setattr__"))) (pm0_:W.makesIn K ca0=true) (pk0:W.keepIn K (.ref ca0)=true)
  (pn0_0:W.findIn K (.ref ca0) "sayings"=some none)
  (pn0_1:W.findIn K (.ref ca0) "slots"=some none)
  (pn0_2:W.findIn K (.ref ca0) "worths"=some none)
  (rx0:W.excIn K ca2 Vh Zr=true)
  (ry0_0:W.findIn K (.ref ca2) "__getattribute__"=some (some (.builtin "BaseException.__getattribute__")))
  (ry0_1:W.findIn K (.ref ca2) "__getattr__"=some none)
  (ry0_2:W.findIn K (.ref ca2) "__class__"=some (some (.builtin "object.__class__")))
  (ry0_3:W.mroIn K ca2 (.type "object")=some true)
  (ry0_4:W.mroIn K ca2 (.type "BaseException")=some true)
  (ry0_5:W.specialIn K (.builtin "object.__class__") "__get__"=some (some (.builtin "getset_descriptor.__get__")))
  (ry0_6:W.takesIn K (.builtin "object.__class__")=some true)
  (ry0_7:W.clsIn K ca2=some cl0)
  (re0_0:W.exmOne K (.ref ca2) (.ref ca1)=some false)
  (re0_1:W.exmOne K (.ref ca2) (.ref ca2)=some true)
  (rx1:W.excIn K ca1 Vh Zr=true)
  (ry1_0:W.findIn K (.ref ca1) "__getattribute__"=some (some (.builtin "BaseException.__getattribute__")))
  (ry1_1:W.findIn K (.ref ca1) "__getattr__"=some none)
  (ry1_2:W.findIn K (.ref ca1) "__class__"=some (some (.builtin "object.__class__")))
  (ry1_3:W.mroIn K ca1 (.type "object")=some true)
  (ry1_4:W.mroIn K ca1 (.type "BaseException")=some true)
  (ry1_5:W.specialIn K (.builtin "object.__class__") "__get__"=some (some (.builtin "getset_descriptor.__get__")))
  (ry1_6:W.takesIn K (.builtin "object.__class__")=some true)
  (ry1_7:W.clsIn K ca1=some cl1)
  (re1_0:W.exmOne K (.ref ca1) (.ref ca1)=some true)
  (re1_1:W.exmOne K (.ref ca1) (.ref ca2)=some false):∃ t,Txt K mg t:=by
 have F0:=yc (st:=x5) ql0 qc0 qk0
 have F1:=yc (st:=yK) ql1 qc1 qk1
 have F2:=yc (st:=xm) ql2 qc2 qk2
 have F3:=yc (st:=xz) ql3 qc3 qk3
 have F4:=yc (st:=yY) ql4 qc4 qk4
 have F5:=yc (st:=xo) ql5 qc5 qk5
 have F6:=yc (st:=x6) ql6 qc6 qk6
 have F7:=yc (st:=x8) ql7 qc7 qk7
 have F8:=yc (st:=x9) ql8 qc8 qk8
 have F9:=yc (st:=wc) ql9 qc9 qk9
 have F10:=yc (st:=wB) ql10 qc10 qk10
 have F11:=yc (st:=we) ql11 qc11 qk11
 have F12:=yc (st:=wC) ql12 qc12 qk12
 have F13:=yc (st:=xA) ql13 qc13 qk13
 have F14:=yc (st:=wD) ql14 qc14 qk14
 have F15:=yc (st:=yZ) ql15 qc15 qk15
 have F16:=yc (st:=yO) ql16 qc16 qk16
 have F17:=yc (st:=xp) ql17 qc17 qk17
 have F18:=yc (st:=xB) ql18 qc18 qk18
 have F19:=yc (st:=vi) ql19 qc19 qk19
 have F20:=yc (st:=vj) ql20 qc20 qk20
 have F21:=yc (st:=wE) ql21 qc21 qk21
 have F22:=yc (st:=jm) ql22 qc22 qk22
 have F23:=yc (st:=wF) ql23 qc23 qk23
 have F24:=yc (st:=yy) ql24 qc24 qk24
 have F25:=yc (st:=xC) ql25 qc25 qk25
 have F26:=yc (st:=yg) ql26 qc26 qk26
 have F27:=yc (st:=xD) ql27 qc27 qk27
 have F28:=yc (st:=xP) ql28 qc28 qk28
 have F29:=yc (st:=kZ) ql29 qc29 qk29
 have F30:=yc (st:=xE) ql30 qc30 qk30
 have F31:=yc (st:=X6) ql31 qc31 qk31
 exact ⟨⟨f0,_,f1,_,f2,_,f3,_,f4,_,f5,_,f6,_,f7,_,f8,_,f9,_,f10,_,f11,_,f12,_,f13,_,f14,_,f15,_,f16,_,f17,_,f18,_,f19,_,f20,_,f21,_,f22,_,f23,_,f24,_,f25,_,f26,_,f27,_,f28,_,f29,_,f30,_,f31,_,ga0,ca0,ca1,ca2⟩,⟨F0,F0.binds (ps:=["cell","j"]) (fun _ _ _ _ _ _ us hl=>match us,hl with | [_,_],_=>rfl),W.mg_of X G qa0,
  F1,F1.binds (ps:=["cell","many"]) (fun _ _ _ _ _ _ us hl=>match us,hl with | [_,_],_=>rfl),W.mg_of X G qa1,
  F2,F2.binds (ps:=["cell","j"]) (fun _ _ _ _ _ _ us hl=>match us,hl with | [_,_],_=>rfl),W.mg_of X G qa2,
  F3,F3.binds (ps:=["cell","shelves"]) (fun _ _ _ _ _ _ us hl=>match us,hl with | [_,_],_=>rfl),W.mg_of X G qa3,
  F4,F4.binds (ps:=["script","k"]) (fun _ _ _ _ _ _ us hl=>match us,hl with | [_,_],_=>rfl),W.mg_of X G qa4,
  F5,F5.binds (ps:=["frames"]) (fun _ _ _ _ _ _ us hl=>match us,hl with | [_],_=>rfl),W.mg_of X G qa5,
  F6,F6.binds (ps:=["cell","j","slots"]) (fun _ _ _ _ _ _ us hl=>match us,hl with | [_,_,_],_=>rfl),W.mg_of X G qa6,
  F7,F7.binds (ps:=["cell","j"]) (fun _ _ _ _ _ _ us hl=>match us,hl with | [_,_],_=>rfl),W.mg_of X G qa7,
  F8,F8.binds (ps:=["cell","j","slots"]) (fun _ _ _ _ _ _ us hl=>match us,hl with | [_,_,_],_=>rfl),W.mg_of X G qa8,
  F9,F9.binds (ps:=["cell","j","slots"]) (fun _ _ _ _ _ _ us hl=>match us,hl with | [_,_,_],_=>rfl),W.mg_of X G qa9,
  F10,F10.binds (ps:=["cell","slots","shelves"]) (fun _ _ _ _ _ _ us hl=>match us,hl with | [_,_,_],_=>rfl),W.mg_of X G qa10,
  F11,F11.binds (ps:=["cells","slots","shelves"]) (fun _ _ _ _ _ _ us hl=>match us,hl with | [_,_,_],_=>rfl),W.mg_of X G qa11,
  F12,F12.binds (ps:=["one","other","word"]) (fun _ _ _ _ _ _ us hl=>match us,hl with | [_,_,_],_=>rfl),W.mg_of X G qa12,
  F13,F13.binds (ps:=["term","state"]) (fun _ _ _ _ _ _ us hl=>match us,hl with | [_,_],_=>rfl),W.mg_of X G qa13,
  F14,F14.binds (ps:=["row","state"]) (fun _ _ _ _ _ _ us hl=>match us,hl with | [_,_],_=>rfl),W.mg_of X G qa14,
  F15,F15.binds (ps:=["rows","state"]) (fun _ _ _ _ _ _ us hl=>match us,hl with | [_,_],_=>rfl),W.mg_of X G qa15,
  F16,F16.binds (ps:=["rows","table"]) (fun _ _ _ _ _ _ us hl=>match us,hl with | [_,_],_=>rfl),W.mg_of X G qa16,
  F17,F17.binds (ps:=["rows"]) (fun _ _ _ _ _ _ us hl=>match us,hl with | [_],_=>rfl),W.mg_of X G qa17,
  F18,F18.binds (ps:=["self","table"]) (fun _ _ _ _ _ _ us hl=>match us,hl with | [_,_],_=>rfl),
  F19,F19.binds (ps:=["word","first","second"]) (fun _ _ _ _ _ _ us hl=>match us,hl with | [_,_,_],_=>rfl),W.mg_of X G qa19,
  F20,F20.binds (ps:=["word","first","second"]) (fun _ _ _ _ _ _ us hl=>match us,hl with | [_,_,_],_=>rfl),W.mg_of X G qa20,
  F21,F21.binds (ps:=["thing"]) (fun _ _ _ _ _ _ us hl=>match us,hl with | [_],_=>rfl),W.mg_of X G qa21,
  F22,F22.binds (ps:=["word","first","second"]) (fun _ _ _ _ _ _ us hl=>match us,hl with | [_,_,_],_=>rfl),W.mg_of X G qa22,
  F23,F23.binds (ps:=["term","slots"]) (fun _ _ _ _ _ _ us hl=>match us,hl with | [_,_],_=>rfl),W.mg_of X G qa23,
  F24,F24.binds (ps:=["self","term"]) (fun _ _ _ _ _ _ us hl=>match us,hl with | [_,_],_=>rfl),⟨qa24,qi24,qk24⟩,
  F25,F25.binds (ps:=["self","row"]) (fun _ _ _ _ _ _ us hl=>match us,hl with | [_,_],_=>rfl),⟨qa25,qi25,qk25⟩,
  F26,F26.binds (ps:=["self","rows"]) (fun _ _ _ _ _ _ us hl=>match us,hl with | [_,_],_=>rfl),⟨qa26,qi26,qk26⟩,
  F27,F27.binds (ps:=["why","table"]) (fun _ _ _ _ _ _ us hl=>match us,hl with | [_,_],_=>rfl),W.mg_of X G qa27,
  F28,F28.binds (ps:=["rows"]) (fun _ _ _ _ _ _ us hl=>match us,hl with | [_],_=>rfl),W.mg_of X G qa28,
  F29,F29.binds (ps:=["rows","table"]) (fun _ _ _ _ _ _ us hl=>match us,hl with | [_,_],_=>rfl),W.mg_of X G qa29,
  F30,F30.binds (ps:=["found"]) (fun _ _ _ _ _ _ us hl=>match us,hl with | [_],_=>rfl),W.mg_of X G qa30,
  F31,F31.binds (ps:=["script"]) (fun _ _ _ _ _ _ us hl=>match us,hl with | [_],_=>rfl),W.mg_of X G qa31,
  fun s v=>.of_eq rfl,
  W.mg_none_of X G qz0,
  W.mg_none_of X G qz1,
  W.mg_none_of X G qz2,
  W.mg_none_of X G qz3,
  W.mg_none_of X G qz4,
  W.mg_none_of X G qz5,
  W.mg_none_of X G qz6,
  W.mg_none_of X G qz7,
  W.mg_none_of X G qz8,
  W.mg_none_of X G qz9,
  W.mg_of X G qg0,fun _=>.inr ⟨_,_,_,qh0,rfl,rfl,(by show 7≤sizeLine;decide),(.cons ⟨_,rfl⟩ (.cons ⟨_,rfl⟩ (.cons ⟨_,rfl⟩ (.cons ⟨_,rfl⟩ (.cons ⟨_,rfl⟩ (.cons ⟨_,rfl⟩ (.cons ⟨_,rfl⟩ .nil)))))))⟩,
  W.mg_of X G qv0,
  W.mg_of X G qv1,
  W.mg_of X G qv2,
  ⟨pg0,pd0,po0,pe0⟩,
  ⟨pm0_,qa18,qi18,pk0⟩,
  pn0_0,
  pn0_1,
  pn0_2,
  rx0,
  ⟨⟨ry0_0,ry0_1,ry0_2,ry0_3,ry0_4,ry0_5,ry0_6⟩,by rw [ry0_7];rfl⟩,
  re0_0,
  re0_1,
  rx1,
  ⟨⟨ry1_0,ry1_1,ry1_2,ry1_3,ry1_4,ry1_5,ry1_6⟩,by rw [ry1_7];rfl⟩,
  re1_0,
  re1_1⟩⟩
structure KF (K:W.Frag):Prop where
 i_b:W.kitOne K (.type "int") (.type "bool")=some false
 i_s:W.kitOne K (.type "int") (.type "str")=some false
 s_i:W.kitOne K (.type "str") (.type "int")=some false
 s_b:W.kitOne K (.type "str") (.type "bool")=some false
 a1:W.kitAny K (.type "tuple") [.type "list",.type "tuple"]=some true
 a2:W.kitAny K (.type "list") [.type "list",.type "tuple"]=some true
 a3:W.kitAny K (.type "int") [.type "list",.type "tuple"]=some false
 a4:W.kitAny K (.type "str") [.type "list",.type "tuple"]=some false
 a5:W.kitAny K (.type "int") [.type "int",.type "str"]=some true
 a6:W.kitAny K (.type "str") [.type "int",.type "str"]=some true
def zbo (K:W.Frag):Prop:=W.kitOne K (.type "int") (.type "bool")=some false
def fin (t:Adr) (r:Except Er Int) (Q:VK) (E:XK) (H:Hp):Prop:=match r with
 | .ok i=>Q (.int i) H
 | .error .nought=>E (.ref t.c_Nought) none H
 | .error .great=>E (.ref t.c_Great) none H
 | .error .stuck=>True
def zaq (t:Adr) (e:Er) (E:XK) (H:Hp):Prop:=match e with
 | .nought=>E (.ref t.c_Nought) none H
 | .great=>E (.ref t.c_Great) none H
 | .stuck=>True
def RowAt (H:Hp) (v:V) (q:Row):Prop:=∃ r p,v=.ref r∧H r=some (.tup [.ref p,.int q.2])∧H p=some (.tup [.str q.1.1,.int q.1.2])
def vq (H:Hp) (vs:List V) (rows:List Row):Prop:=Paired (RowAt H) vs rows
def zcT (q:Row):Prop:=yF q.1.1=true
def LsAt (H:Hp) (a:Addr) (rows:List Row):Prop:=∃ xs,H a=some (.lst xs)∧vq H xs rows
def NamesAt (H:Hp) (nm:Addr) (ws:List Str):Prop:=H nm=some (.lst (ws.map V.str))∧∀ w∈ws,yF w=true
structure DoF (K:W.Frag) (t:Adr):Prop where
 cl:Cls K t.c_Doing
 n1:NoAttr K t.c_Doing "slots"
 n2:NoAttr K t.c_Doing "worths"
 n3:NoAttr K t.c_Doing "sayings"
structure DoAt (t:Adr) (H0 H:Hp) (x dx sl wo sa:Addr) (s:Sta):Prop where
 sm:Same H0 H
 f1:H0 sl=none
 f2:H0 wo=none
 f3:H0 sa=none
 ix:H x=some (.ins t.c_Doing dx [("slots",.ref sl),("worths",.ref wo),("sayings",.ref sa)])
 hs:H sl=some (.dK s.sl)
 hw:H wo=some (.dT (dOf s.wo))
 ha:H sa=some (.lst (s.sa.map V.int))
def qd (H:Hp) (v:V):Oc→Prop
 | .done sa=>∃ o y,v=.ref o∧H o=some (.tup [.str "done",.ref y])∧H y=some (.tup (sa.map V.int))
 | .off w=>∃ o,v=.ref o∧H o=some (.tup [.str "off",.str w])
structure VQ (rws:Rws) (tab:List Row):Prop where
 ok:yJ rws
 dp:rws.deep < 6
 iw:∀ r∈tab,inW r.2=true
 ln:tab.length + rws.cnt≤500
 fw:∀ s,yM rws ⟨[],tab,[]⟩=.go s→(dOf s.wo).length≤900
def YW:Rw→Prop
 | .off _=>False
 | .iff _ _ _=>False
 | _=>True
def kr:Sp:=fun vs H Q _=>∃ i,vs=[.int i]∧∀ H',Same H H'→Q (.bl (inW i)) H'
def qC (t:Adr):Sp:=fun vs H Q E=>∃ w a b,vs=[.str w,.int a,.int b]∧w.length≤1000∧inW a=true∧inW b=true∧∀ H',Same H H'→if b=0 then E (.ref t.c_Nought) none H' else Q (.int (if w="over" then a.fdiv b else a.fmod b)) H'
def qD (t:Adr):Sp:=fun vs H Q E=>∃ w a b,vs=[.str w,.int a,.int b]∧w.length≤1000∧inW a=true∧inW b=true∧∀ H',Same H H'→if qh w∧b=0 then E (.ref t.c_Nought) none H' else Q (.int (yD w a b)) H'
def wG (t:Adr):Sp:=fun vs H Q E=>∃ w a b,vs=[.str w,.int a,.int b]∧w.length≤1000∧inW a=true∧inW b=true∧∀ H',Same H H'→fin t (yR w a b) Q E H'
def kt (t:Adr):Sp:=fun vs H Q E=>∃ kvs tm sl ps r,vs=[.ref tm,.ref sl]∧H tm=some (.tup ps)∧H sl=some (.dK kvs)∧Good kvs ps r∧(∀ v∈ps,jC v)∧ps.length≤1000∧xy kvs∧∀ H',Same H H'→fin t r Q E H'
def vX (t:Adr):Sp:=fun vs H Q _=>∃ x a tab H0 dx,vs=[.ref x,.ref a]∧Same H0 H∧H0 x=none∧H x=some (.ins t.c_Doing dx [])∧LsAt H0 a tab∧tab.length≤500 ∧
 ∀ H' sl wo sa,DoAt t H0 H' x dx sl wo sa ⟨[],tab,[]⟩→Q .non H'
def zH (t:Adr):Sp:=fun vs H Q E=>∃ x tm e H0 dx sl wo sa s,vs=[.ref x,.ref tm]∧DoAt t H0 H x dx sl wo sa s∧xy s.sl∧H tm=some (.tup e)∧TermOk e∧∀ H',Same H H'→fin t (rk s.sl e) Q E H'
def vY (t:Adr):Sp:=fun vs H Q E=>∃ x v r m H0 dx sl wo sa s,vs=[.ref x,v]∧DoAt t H0 H x dx sl wo sa s∧RwAt Zu H0 v r∧YW r∧wW r∧StOk m s∧m≤900 ∧
 (∀ H' s',goR r s=.go s'→DoAt t H0 H' x dx sl wo sa s'→Q .non H')∧∀ H' e,goR r s=.er e→Same H0 H'→zaq t e E H'
def yb (t:Adr) (n:Nat):Sp:=fun vs H Q E=>∃ x l xs rws m H0 dx sl wo sa s,vs=[.ref x,.ref l]∧DoAt t H0 H x dx sl wo sa s∧H0 l=some (.lst xs)∧RwsAt Zu H0 xs rws∧yJ rws∧rws.deep < n∧StOk m s∧m + rws.cnt≤900 ∧
 (∀ H' s',yM rws s=.go s'→DoAt t H0 H' x dx sl wo sa s'→Q (.bl true) H')∧(∀ H',yM rws s=.off→Same H0 H'→Q (.bl false) H')∧∀ H' e,yM rws s=.er e→Same H0 H'→zaq t e E H'
def yP:Sp:=fun vs H Q _=>∃ (w:Str) (a:Addr) (tab:List Row),vs=[.str w,.ref a]∧LsAt H a tab∧∀ r o l H',Same H H'→H l=none→H' r=some (.tup [o,.ref l])→qd H' o (.off w)→LsAt H' l tab→Q (.ref r) H'
def ku:Sp:=fun vs H Q _=>∃ a rows,vs=[.ref a]∧LsAt H a rows∧(dOf rows).length≤900∧rows.length≤1000∧∀ l out H',Same H H'→H l=none→LsAt H' l out→kq rows out→Q (.ref l) H'
def YX:Sp:=fun vs H Q _=>∃ v a rws tab,vs=[v,.ref a]∧RlAt Zu H v rws∧LsAt H a tab∧VQ rws tab∧∀ r o l oc out H',Same H H'→H l=none→H' r=some (.tup [o,.ref l])→qd H' o oc→LsAt H' l out→AloneR rws tab oc out→Q (.ref r) H'
def yH (K:W.Frag):Sp:=fun vs H Q _=>∃ (a:Addr) (ns:List Int) (k:Nat),vs=[.ref a,.int k]∧SqL K H a (ns.map V.int)∧ns.length≤63∧∀ c H',Same H H'→Q (.int c) H'
def zo:Sp:=fun vs H Q _=>∃ c j,vs=[.int c,.int j]∧0≤j∧j≤1000∧∀ r H',0≤r→r < 2147483648→Same H H'→Q (.int r) H'
def wQ:Sp:=fun vs H Q _=>∃ c m,vs=[.int c,.int m]∧0≤m∧m≤4∧∀ nm ws H',Same H H'→NamesAt H' nm ws→(ws.length:Int)=m→Q (.ref nm) H'
def yA:Sp:=fun vs H Q _=>∃ c j,vs=[.int c,.int j]∧0≤j∧j≤900∧∀ w H',inW w=true→Same H H'→Q (.int w) H'
def lfV (v:V):Prop:=(∃ i,v=.int i∧inW i=true)∨∃ x,v=.str x∧yF x=true
def xc:Sp:=fun vs H Q _=>∃ c j a ws,vs=[.int c,.int j,.ref a]∧0≤j∧j≤800∧NamesAt H a ws∧ws.length=4∧∀ v H',lfV v→Same H H'→Q v H'
def wdJ (w:Str):Prop:=isJ (.str w)=true∧w.length≤1000∧PyData.strOk w=true
def xg:Sp:=fun vs H Q _=>∃ c j,vs=[.int c,.int j]∧0≤j∧j≤900∧∀ w H',wdJ w→Same H H'→Q (.str w) H'
def yw:Sp:=fun vs H Q _=>∃ c j a ws,vs=[.int c,.int j,.ref a]∧0≤j∧j≤700∧NamesAt H a ws∧ws.length=4∧∀ p e H',Same H H'→H p=none→H' p=some (.tup e)→TermOk e→tmP e→Q (.ref p) H'
def vg:Sp:=fun vs H Q _=>∃ c j a ws,vs=[.int c,.int j,.ref a]∧0≤j∧j≤600∧NamesAt H a ws∧ws.length=4∧∀ p e H',Same H H'→H p=none→H' p=some (.tup e)→TermOk e→tmP e→Q (.ref p) H'
def zdp:Rw→Prop
 | .iff _ _ _=>False
 | _=>True
def nmP (p:Pl):Prop:=yF p.1=true
structure rwV (r:Rw):Prop where
 ni:zdp r
 pl:wZ r
 ok:wW r
 nm:qA nmP r
def ky:Sp:=fun vs H Q _=>∃ c a b ws us,vs=[.int c,.ref a,.ref b]∧NamesAt H a ws∧ws.length=4∧NamesAt H b us∧us.length=3∧∀ v r H',Same H H'→RwAt (fun b=>H b=none) H' v r→rwV r→Q v H'
structure Gm where
 e:List V
 a:Option Rws
 D:Rws
def FsAt (F:Addr→Prop) (H:Hp):List Gm→List V→List Addr→Prop
 | [],fs,sp=>fs=[]∧sp=[]
 | g :: gs,fs,sp=>∃ f tv fi c xs fs' sp',fs=.ref f :: fs'∧sp=f :: c :: sp'∧H f=some (.lst [tv,fi,.ref c])∧H c=some (.lst xs)∧RwsAt F H xs g.D∧(gs≠[]→∃ te,tv=.ref te∧F te∧H te=some (.tup g.e)∧tmP g.e) ∧
  ((g.a=none∧fi=.non)∨∃ a ys A,g.a=some A∧fi=.ref a∧F a∧H a=some (.lst ys)∧RwsAt F H ys A)∧FsAt F H gs fs' sp'
def Fz (H0:Hp) (sp:List Addr) (FR:Addr) (b:Addr):Prop:=b ∉ sp∧b≠FR∧H0 b=none
structure FZ (H0 H:Hp) (FR:Addr) (gs:List Gm) (fs:List V) (sp:List Addr):Prop where
 sm:Same H0 H
 hf:H FR=some (.lst fs.reverse)
 fa:FsAt (Fz H0 sp FR) H gs fs sp
 nd:sp.Nodup
 nf:FR ∉ sp
 fr:∀ a∈sp,H0 a=none
 f0:H0 FR=none
def qE (g h:Gm):Gm:={ h with D:=h.D.snoc (match g.a with | none=>.iff g.e g.D .nil | some A=>.iff g.e A g.D) }
def xx:Sp:=fun vs H Q _=>∃ FR H0 g h gs fs sp,vs=[.ref FR]∧FZ H0 H FR (g :: h :: gs) fs sp∧h.D.cnt≤500∧∀ fs' sp' H',FZ H0 H' FR (qE g h :: gs) fs' sp'→Q .non H'
structure Xj (r:Rws):Prop where
 ok:yJ r
 dp:r.deep < 6
 ct:r.cnt≤36
 pl:yX r
 nm:x0 nmP r
def jG:Sp:=fun vs H Q _=>∃ (p:Addr) (ns:List Int) (a b:Addr) (ws us:List Str),vs=[.ref p,.ref a,.ref b]∧H p=some (.lst (ns.map V.int))∧ns.length≤16∧NamesAt H a ws∧ws.length=4∧NamesAt H b us∧us.length=3∧∀ v r H',Same H H'→RlAt (fun b=>H b=none) H' v r→Xj r→r.cnt≤2 * ns.length→Q v H'
structure TaK (n:Nat) (tab:List Row):Prop where
 ri:Rising tab
 nm:∀ r∈tab,yF r.1.1=true∧inW r.2=true
 le:tab.length≤n
def vZ:Sp:=fun vs H Q _=>∃ c b us,vs=[.int c,.ref b]∧NamesAt H b us∧us.length=3∧∀ l tab H',Same H H'→H l=none→LsAt H' l tab→TaK 8 tab→Q (.ref l) H'
def zar:Except Er Int→V
 | .ok i=>.int i
 | .error e=>.str (YQ e)
def kz:Sp:=fun vs H Q _=>∃ a b w,vs=[.int a,.int b,.str w]∧isJ (.str w)=true∧inW a=true∧inW b=true∧∀ H',Same H H'→Q (zar (yR w a b)) H'
structure LsH (H:Hp) (d sl wo sa:Addr) (s:Sta) (w:Str):Prop where
 hd:H d=some (.dK [(.inr "slots",.ref sl),(.inr "now",.ref wo),(.inr "said",.ref sa),(.inr "why",.str w)])
 hs:H sl=some (.dK s.sl)
 hw:H wo=some (.dT (dOf s.wo))
 ha:H sa=some (.lst (s.sa.map V.int))
 nd:d≠sl
def Lk4 (d sl wo sa:Addr) (H H':Hp):Prop:=∀ b o,b≠d→b≠sl→b≠wo→b≠sa→H b=some o→H' b=some o
def xI:Sp:=fun vs H Q _=>∃ tm d sl wo sa e s w,vs=[.ref tm,.ref d]∧H tm=some (.tup e)∧LsH H d sl wo sa s w∧TermOk e∧xy s.sl∧(∀ i H',rk s.sl e=.ok i→Same H H'→Q (.int i) H')∧∀ x H',rk s.sl e=.error x→Lk4 d sl wo sa H H'→LsH H' d sl wo sa s (YQ x)→Q .non H'
def LawGo (d sl wo sa:Addr) (H:Hp) (r:Res) (Q:VK):Prop:=match r with
 | .go s'=>∀ H',Lk4 d sl wo sa H H'→LsH H' d sl wo sa s' "told"→Q (.bl true) H'
 | .off=>∀ H' s',Lk4 d sl wo sa H H'→LsH H' d sl wo sa s' "told"→Q (.bl false) H'
 | .er e=>∀ H' s',Lk4 d sl wo sa H H'→LsH H' d sl wo sa s' (YQ e)→Q (.bl false) H'
def vV (n:Nat):Sp:=fun vs H Q _=>∃ v d sl wo sa r m s,vs=[v,.ref d]∧RwAt (fun b=>b≠d∧b≠sl∧b≠wo∧b≠sa) H v r∧wW r∧wZ r∧r.deep≤n∧LsH H d sl wo sa s "told"∧StOk m s∧m + r.cnt≤900∧LawGo d sl wo sa H (goR r s) Q
def yu (n:Nat):Sp:=fun vs H Q _=>∃ l xs d sl wo sa r m s,vs=[.ref l,.ref d]∧(l≠d∧l≠sl∧l≠wo∧l≠sa)∧H l=some (.lst xs)∧RwsAt (fun b=>b≠d∧b≠sl∧b≠wo∧b≠sa) H xs r∧yJ r∧yX r∧r.deep < n∧LsH H d sl wo sa s "told"∧StOk m s∧m + r.cnt≤900∧LawGo d sl wo sa H (yM r s) Q
def vt:Sp:=fun vs H Q _=>∃ (v:V) (tl:Addr) (r:Rws) (tab:List Row),vs=[v,.ref tl]∧RlAt Zu H v r∧Xj r∧LsAt H tl tab∧TaK 400 tab∧∀ a o l oc out H',Same H H'→H' a=some (.tup [o,.ref l])→qd H' o oc→LsAt H' l out→AloneR r tab oc out→Q (.ref a) H'
def yd (n:Nat):Sp:=fun vs H Q _=>∃ (F:Addr→Prop) (v:V) (rws:Rws),vs=[v]∧RlAt F H v rws∧(∀ b,H b=none→F b)∧rws.deep < n∧rws.cnt≤500∧∀ v' H',Same H H'→RlAt F H' v' rws→Q v' H'
inductive PlV (H:Hp):Nat→V→Prop
 | int {n:Nat} (i:Int):PlV H (n + 1) (.int i)
 | str {n:Nat} (x:Str):PlV H (n + 1) (.str x)
 | lst {n:Nat} {a:Addr} {xs:List V}:H a=some (.lst xs)→(∀ x∈xs,PlV H n x)→PlV H (n + 1) (.ref a)
 | tup {n:Nat} {a:Addr} {xs:List V}:H a=some (.tup xs)→(∀ x∈xs,PlV H n x)→PlV H (n + 1) (.ref a)
def xq (n:Nat):Sp:=fun vs H Q _=>∃ (v:V),vs=[v]∧PlV H n v∧∀ H',Same H H'→Q (.bl true) H'
def sp_law (K:W.Frag):Sp:=fun vs H Q _=>∃ (a:Addr) (ns:List Int),vs=[.ref a]∧SqL K H a (ns.map V.int)∧ns.length≤63∧∀ H',Q (.bl true) H'
def jH (K:W.Frag) (t:Adr):TS:=(zq (zG (tOp (rI (fun _ j=>0 < j) fun i j=>.int (i % j)) (tOp (rI0 fun i j=>.int (i + j)) (tOp (rI CMulB fun i j=>.int (i * j)) (tOp (rI (fun _ j=>0 < j) fun i j=>.int (i % j)) (zc 0) (tC (.int 1000000007))) (tC (.int 6700417))) (tOp (rI CMulB fun i j=>.int (i * j)) (tOp (rI CMulB fun i j=>.int (i * j)) (tOp (rI0 fun i j=>.int (i + j)) (zc 1) (tC (.int 1))) (tC (.int 104729))) (tC (.int 65537)))) (tC (.int 1000000009))) (zl 2))
  (zu (tOp (rI QH fun i j=>.int (i / j)) (tOp (rI (fun _ j=>0 < j) fun i j=>.int (i % j)) (tOp (rI CMulB fun i j=>.int (i * j)) (tOp (rI (fun _ j=>0 < j) fun i j=>.int (i % j)) (tOp (rI CMulB fun i j=>.int (i * j)) (zc 2) (zc 2)) (tC (.int 1000000009))) (zc 2)) (tC (.int 1000000009))) (tC (.int 32)))))
def wH (K:W.Frag) (t:Adr):TS:=(zu (y7 (xQ (zb (zc 1) zi)) (zl 0) Yr (tOp jT (tOp jT (tSl qX (zc 1) yW (xR (zc 2))) (tOp Yk (zc 3) (zc 0))) (tSl qX (zc 1) (xR (tOp (rI0 fun i j=>.int (i + j)) (zc 2) (tC (.int 1)))) yW)) 1 [5,7,3]))
def w5 (K:W.Frag) (t:Adr):TS:=(zq (zG (tOp (rI (fun _ j=>0 < j) fun i j=>.int (i % j)) (zm zo [] E0 (zb (zc 0) (zb (tC (.int 8)) zi))) (zc 2)) (zl 7))
  (zq (zG (tOp (rI (fun _ j=>0 < j) fun i j=>.int (i % j)) (zm zo [] E0 (zb (zc 0) (zb (tC (.int 9)) zi))) (tCB (wp K) (zb (zc 3) zi))) (zl 8))
  (zq (zG (tOp jT (tSl qX (zc 3) (xR (zc 8)) yW) (tSl qX (zc 3) yW (xR (zc 8)))) (zl 3))
  (wH K t))))
def w6 (K:W.Frag) (t:Adr):TS:=(zq (ym (xQ (zb (zc 2) zi)) (zl 6)
   (zG (tOp jT (zc 5) (tOp Yk (zc 3) (tOp (rI (fun _ j=>0 < j) fun i j=>.int (i % j)) (zm zo [] E0 (zb (zc 0) (zb (tOp (rI0 fun i j=>.int (i + j)) (tC (.int 2)) (zc 6)) zi))) (tCB (wp K) (zb (zc 3) zi))))) (zl 5)))
  (zq (zA (tB (zc 4))
    (zu (y7 (xQ (zb (zc 1) zi)) (zl 0) Yr (tSl qX (zc 1) yW (xR (tOp (rI0 fun i j=>.int (i - j)) (tC (.int 6)) (zc 0)))) 1 [5]))
    zx)
  (w5 K t)))
def jW (K:W.Frag) (t:Adr):TS:=(zq (zA (tB (zc 4))
   (zG (tC (.int 6)) (zl 2))
   (zA (zp (tOp rEq (zc 2) (tC (.int 6))))
   (zG (tC (.str "zyxwvutsrqponmlkjihgfedcba")) (zl 3))
   zx))
  (zq (zG (tC (.str "")) (zl 5))
  (w6 K t)))
def v0 (K:W.Frag) (t:Adr):TS:=(zq (zG (tOp (rI0 fun i j=>.int (i + j)) (tC (.int 1)) (tOp (rI (fun _ j=>0 < j) fun i j=>.int (i % j)) (zm zo [] E0 (zb (zc 0) (zb (tC (.int 1)) zi))) (tC (.int 6)))) (zl 2))
  (zq (zG (tC (.str "zyxwvtsrqpnmlkjhgfdcb")) (zl 3))
  (zq (zG (tOp rEq (tOp (rI (fun _ j=>0 < j) fun i j=>.int (i % j)) (zm zo [] E0 (zb (zc 0) (zb (tC (.int 10)) zi))) (tC (.int 3))) (tC (.int 0))) (zl 4))
  (jW K t))))
def vx (K:W.Frag) (t:Adr):TS:=(zq (zA (zp (tOp rEq (tOp (rI (fun _ j=>0 < j) fun i j=>.int (i % j)) (zm zo [] E0 (zb (zc 0) (zb (zc 1) zi))) (tC (.int 9))) (tC (.int 0))))
   (zu (tOp (rI0 fun i j=>.int (i - j)) (tOp (rI (fun _ j=>0 < j) fun i j=>.int (i % j)) (tOp (rI0 fun i j=>.int (i + j)) (tOp (rI CMulB fun i j=>.int (i * j)) (tOp (rI CMulB fun i j=>.int (i * j)) (tOp (rI (fun _ j=>0 < j) fun i j=>.int (i % j)) (zc 0) (tOp (rI Yi fun i j=>.int (i ^ j.toNat)) (tC (.int 10)) (tC (.int 40)))) (tOp (rI0 fun i j=>.int (i + j)) (zc 1) (tC (.int 2)))) (tC (.int 1000003))) (zc 1)) (tOp (rI0 fun i j=>.int (i + j)) (tOp (rI CMulB fun i j=>.int (i * j)) (tC (.int 2)) (tOp (rI Yi fun i j=>.int (i ^ j.toNat)) (tC (.int 10)) (tC (.int 30)))) (tC (.int 1)))) (tOp (rI Yi fun i j=>.int (i ^ j.toNat)) (tC (.int 10)) (tC (.int 30)))))
   zx)
  (zu (tOp (rI0 fun i j=>.int (i - j)) (tOp (rI (fun _ j=>0 < j) fun i j=>.int (i % j)) (zm zo [] E0 (zb (zc 0) (zb (tOp (rI0 fun i j=>.int (i + j)) (zc 1) (tC (.int 1))) zi))) (tC (.int 7))) (tC (.int 2)))))
def va (K:W.Frag) (t:Adr):TS:=(zu (tCB VG (zb (jF (zc 2)) zi)))
def jX (K:W.Frag) (t:Adr):TS:=(zq (ym (xQ (zb (tOp (rI (fun _ j=>0 < j) fun i j=>.int (i % j)) (zm zo [] E0 (zb (zc 0) (zb (tC (.int 20)) zi))) (tC (.int 9))) zi)) (zl 3)
   (zq (zG (zm yA [] E0 (zb (zc 0) (zb (tOp (rI0 fun i j=>.int (i + j)) (tC (.int 30)) (tOp (rI CMulB fun i j=>.int (i * j)) (tC (.int 3)) (zc 3))) zi))) (zl 4))
  (zA (zp (tOp rNe (zc 4) (tC (.int 0))))
   (xj (zc 2) (zS (zb (tOp (yo K) (zc 1) (tOp (rI (fun _ j=>0 < j) fun i j=>.int (i % j)) (zm zo [] E0 (zb (zc 0) (zb (tOp (rI0 fun i j=>.int (i + j)) (tC (.int 60)) (zc 3)) zi))) (tC (.int 3)))) (zb (tOp (rI0 fun i j=>.int (i - j)) (tOp (rI (fun _ j=>0 < j) fun i j=>.int (i % j)) (zm zo [] E0 (zb (zc 0) (zb (tOp (rI0 fun i j=>.int (i + j)) (tC (.int 70)) (zc 3)) zi))) (tC (.int 4))) (tC (.int 1))) zi))) (zc 4))
   zx)))
  (va K t))
def v3 (K:W.Frag) (t:Adr):TS:=(zq (zG Wk (zl 2))
  (jX K t))
def vb (K:W.Frag) (t:Adr):TS:=(zq (zA (zp (tOp (rI0 fun i j=>.bl (decide (i < j))) (zc 1) (tCB (wp K) (zb (zc 0) zi))))
   (zu (tOp (yo K) (zc 0) (zc 1)))
   zx)
  (zu (tC (.int 0))))
def vy (K:W.Frag) (t:Adr):TS:=(zq (zG (qc K "list" yz (zc 0)) (zl 1))
  (zA (zp (tOp ZM (tOp (yo K) (zc 1) (tC (.int 1))) (tC .non)))
   (zR (tBM K "list" zn (tOp (yo K) (tOp (yo K) (zc 0) (tUn (rU fun i=>.int (-i)) (tC (.int 1)))) (tC (.int 2))) (zb (zS (zb (tC (.str "if")) (zb (tOp (yo K) (zc 1) (tC (.int 0))) (zb (tOp (yo K) (zc 1) (tC (.int 2))) (zb (yS zi) zi))))) zi)))
   (zR (tBM K "list" zn (tOp (yo K) (tOp (yo K) (zc 0) (tUn (rU fun i=>.int (-i)) (tC (.int 1)))) (tC (.int 2))) (zb (zS (zb (tC (.str "if")) (zb (tOp (yo K) (zc 1) (tC (.int 0))) (zb (tOp (yo K) (zc 1) (tC (.int 1))) (zb (tOp (yo K) (zc 1) (tC (.int 2))) zi))))) zi)))))
def jI (K:W.Frag) (t:Adr):TS:=(zq (zA (zp (tOp rEq (tOp (rI (fun _ j=>0 < j) fun i j=>.int (i % j)) (zm zo [] E0 (zb (zc 0) (zb (tOp (rI0 fun i j=>.int (i + j)) (zc 1) (tC (.int 5))) zi))) (tC (.int 2))) (tC (.int 0))))
   (zu (tOp (yo K) (zc 2) (tOp (rI (fun _ j=>0 < j) fun i j=>.int (i % j)) (zm zo [] E0 (zb (zc 0) (zb (tOp (rI0 fun i j=>.int (i + j)) (zc 1) (tC (.int 6))) zi))) (tCB (wp K) (zb (zc 2) zi)))))
   zx)
  (zu (zm yA [] E0 (zb (zc 0) (zb (zc 1) zi)))))
def jJ (K:W.Frag) (t:Adr):TS:=(zq (zG (yS (zb (tC (.str "plus")) (zb (tC (.str "minus")) (zb (tC (.str "times")) (zb (tC (.str "over")) (zb (tC (.str "rest")) (zb (tC (.str "under")) (zb (tC (.str "same")) (zb (tC (.str "plus")) (zb (tC (.str "minus")) zi)))))))))) (zl 2))
  (zu (tOp (yo K) (zc 2) (tOp (rI (fun _ j=>0 < j) fun i j=>.int (i % j)) (zm zo [] E0 (zb (zc 0) (zb (zc 1) zi))) (tC (.int 9))))))
def vz (K:W.Frag) (t:Adr):TS:=(zq (zG (zS (zb (zc 4) zi)) (zl 7))
  (zq (ym (xQ (zb (tOp (rI (fun _ j=>0 < j) fun i j=>.int (i % j)) (zm zo [] E0 (zb (zc 0) (zb (tOp (rI0 fun i j=>.int (i + j)) (zc 1) (tC (.int 4))) zi))) (tC (.int 13))) zi)) (zl 8)
    (zq (zG (tOp (yo K) (yS (zb (tC (.str "plus")) (zb (tC (.str "minus")) (zb (tC (.str "under")) zi)))) (tOp (rI (fun _ j=>0 < j) fun i j=>.int (i % j)) (zm zo [] E0 (zb (zc 0) (zb (tOp (rI0 fun i j=>.int (i + j)) (tOp (rI0 fun i j=>.int (i + j)) (zc 1) (tC (.int 30))) (zc 8)) zi))) (tC (.int 3)))) (zl 9))
  (zG (tOp (XH K) (zc 7) (zS (zb (zm xc [] E0 (zb (zc 0) (zb (tOp (rI0 fun i j=>.int (i + j)) (zc 1) (zc 8)) (zb (zc 2) zi)))) (zb (zc 9) zi)))) (zl 7))))
  (zu (zc 7))))
def vA (K:W.Frag) (t:Adr):TS:=(zq (zA (zp (tOp (rI0 fun i j=>.bl (decide (i < j))) (zc 3) (tC (.int 6))))
   (zu (zS (zb (zc 4) zi)))
   zx)
  (zq (zA (zp (tOp (rI0 fun i j=>.bl (decide (i < j))) (zc 3) (tC (.int 10))))
    (zu (zS (zb (zc 4) (zb (zc 5) (zb (zm xg [] E0 (zb (zc 0) (zb (tOp (rI0 fun i j=>.int (i + j)) (zc 1) (tC (.int 2))) zi))) zi)))))
    zx)
  (zq (zA (zp (tOp (rI0 fun i j=>.bl (decide (i < j))) (zc 3) (tC (.int 12))))
    (zu (zS (zb (zc 4) (zb (zc 5) (zb (zm xg [] E0 (zb (zc 0) (zb (tOp (rI0 fun i j=>.int (i + j)) (zc 1) (tC (.int 2))) zi))) (zb (zc 6) (zb (zm xg [] E0 (zb (zc 0) (zb (tOp (rI0 fun i j=>.int (i + j)) (zc 1) (tC (.int 3))) zi))) zi)))))))
    zx)
  (zq (zA (zp (tOp (rI0 fun i j=>.bl (decide (i < j))) (zc 3) (tC (.int 15))))
    (zu (zS (zb (zc 4) (zb (zc 5) (zb (zc 6) (zb (zm xg [] E0 (zb (zc 0) (zb (tOp (rI0 fun i j=>.int (i + j)) (zc 1) (tC (.int 2))) zi))) (zb (zm xg [] E0 (zb (zc 0) (zb (tOp (rI0 fun i j=>.int (i + j)) (zc 1) (tC (.int 3))) zi))) zi)))))))
    zx)
  (vz K t)))))
def jK (K:W.Frag) (t:Adr):TS:=(zq (zG (tOp (rI (fun _ j=>0 < j) fun i j=>.int (i % j)) (zm zo [] E0 (zb (zc 0) (zb (zc 1) zi))) (tC (.int 16))) (zl 3))
  (zq (zG (zm xc [] E0 (zb (zc 0) (zb (tOp (rI0 fun i j=>.int (i + j)) (zc 1) (tC (.int 1))) (zb (zc 2) zi)))) (zl 4))
  (zq (zG (zm xc [] E0 (zb (zc 0) (zb (tOp (rI0 fun i j=>.int (i + j)) (zc 1) (tC (.int 10))) (zb (zc 2) zi)))) (zl 5))
  (zq (zG (zm xc [] E0 (zb (zc 0) (zb (tOp (rI0 fun i j=>.int (i + j)) (zc 1) (tC (.int 20))) (zb (zc 2) zi)))) (zl 6))
  (vA K t)))))
def jL (K:W.Frag) (t:Adr):TS:=(zq (zA (zp (tOp rEq (tOp (rI (fun _ j=>0 < j) fun i j=>.int (i % j)) (zm zo [] E0 (zb (zc 0) (zb (zc 1) zi))) (tC (.int 4))) (tC (.int 0))))
   (zu (zm yw [] E0 (zb (zc 0) (zb (tOp (rI0 fun i j=>.int (i + j)) (zc 1) (tC (.int 1))) (zb (zc 2) zi)))))
   zx)
  (zu (zS (zb (tOp (rI0 fun i j=>.int (i - j)) (tOp (rI (fun _ j=>0 < j) fun i j=>.int (i % j)) (zm zo [] E0 (zb (zc 0) (zb (tOp (rI0 fun i j=>.int (i + j)) (zc 1) (tC (.int 2))) zi))) (tC (.int 4))) (tC (.int 1))) zi))))
def v4 (K:W.Frag) (t:Adr):TS:=(zq (zA (zp (tOp (rI0 fun i j=>.bl (decide (i < j))) (zc 3) (tC (.int 4))))
   (zu (zS (zb (tC (.str "take")) (zb (zc 4) (zb (zm vg [] E0 (zb (zc 0) (zb (tC (.int 20)) (zb (zc 1) zi)))) (zb (zc 5) zi))))))
   zx)
  (zq (zA (zp (tOp (rI0 fun i j=>.bl (decide (i < j))) (zc 3) (tC (.int 8))))
    (zu (zS (zb (tC (.str "give")) (zb (zc 4) (zb (zm vg [] E0 (zb (zc 0) (zb (tC (.int 20)) (zb (zc 1) zi)))) (zb (zm yw [] E0 (zb (zc 0) (zb (tC (.int 80)) (zb (zc 1) zi)))) zi))))))
    zx)
  (zq (zA (zp (tOp (rI0 fun i j=>.bl (decide (i < j))) (zc 3) (tC (.int 10))))
    (zu (zS (zb (tC (.str "let")) (zb (zc 5) (zb (zm yw [] E0 (zb (zc 0) (zb (tC (.int 80)) (zb (zc 1) zi)))) zi)))))
    zx)
  (zq (zA (zp (tOp rEq (zc 3) (tC (.int 10))))
    (zu (zS (zb (tC (.str "off")) (zb (zS (zb (tOp (yo K) (zc 1) (tOp (rI (fun _ j=>0 < j) fun i j=>.int (i % j)) (zm zo [] E0 (zb (zc 0) (zb (tC (.int 162)) zi))) (tC (.int 4)))) (zb (zm yA [] E0 (zb (zc 0) (zb (tC (.int 81)) zi))) (zb (tC (.str "same")) zi)))) zi))))
    zx)
  (zu (zS (zb (tC (.str "say")) (zb (zm yw [] E0 (zb (zc 0) (zb (tC (.int 80)) (zb (zc 1) zi)))) zi))))))))
def kA (K:W.Frag) (t:Adr):TS:=(zq (zG (tOp (rI (fun _ j=>0 < j) fun i j=>.int (i % j)) (zm zo [] E0 (zb (zc 0) (zb (tC (.int 0)) zi))) (tC (.int 16))) (zl 3))
  (zq (zG (tOp (yo K) (zc 2) (tOp (rI (fun _ j=>0 < j) fun i j=>.int (i % j)) (zm zo [] E0 (zb (zc 0) (zb (tC (.int 160)) zi))) (tC (.int 3)))) (zl 4))
  (zq (zG (tOp (yo K) (zc 1) (tOp (rI (fun _ j=>0 < j) fun i j=>.int (i % j)) (zm zo [] E0 (zb (zc 0) (zb (tC (.int 161)) zi))) (tC (.int 4)))) (zl 5))
  (v4 K t))))
def kB (K:W.Frag) (t:Adr):TS:=(zR (zm xx [] E0 (zb (zc 3) zi)))
def vB (K:W.Frag) (t:Adr):TS:=(zR (tBM K "list" zn (tOp (yo K) (tOp (yo K) (zc 3) (tUn (rU fun i=>.int (-i)) (tC (.int 1)))) (tC (.int 2))) (zb (zm ky [] E0 (zb (zc 4) (zb (zc 1) (zb (zc 2) zi)))) zi)))
def kC (K:W.Frag) (t:Adr):TS:=(zq (ZK (tOp (yo K) (zc 3) (tUn (rU fun i=>.int (-i)) (tC (.int 1)))) (tC (.int 1)) (tOp (yo K) (tOp (yo K) (zc 3) (tUn (rU fun i=>.int (-i)) (tC (.int 1)))) (tC (.int 2))))
  (ZK (tOp (yo K) (zc 3) (tUn (rU fun i=>.int (-i)) (tC (.int 1)))) (tC (.int 2)) (yS zi)))
def vC (K:W.Frag) (t:Adr):TS:=(zA (qM (zp (tOp rEq (zc 5) (tC (.int 15)))) (zp (tOp (rI0 fun i j=>.bl (decide (j < i))) (tCB (wp K) (zb (zc 3) zi)) (tC (.int 1)))))
   (kB K t)
   (vB K t))
def vD (K:W.Frag) (t:Adr):TS:=(zR (tBM K "list" zn (zc 3) (zb (yS (zb (zm yw [] E0 (zb (zc 4) (zb (tC (.int 80)) (zb (zc 1) zi)))) (zb (tC .non) (zb (yS zi) zi)))) zi)))
def vE (K:W.Frag) (t:Adr):TS:=(zA (qM (zp (tOp rEq (zc 5) (tC (.int 14)))) (qM (zp (tOp (rI0 fun i j=>.bl (decide (j < i))) (tCB (wp K) (zb (zc 3) zi)) (tC (.int 1)))) (zp (tOp ZM (tOp (yo K) (tOp (yo K) (zc 3) (tUn (rU fun i=>.int (-i)) (tC (.int 1)))) (tC (.int 1))) (tC .non)))))
   (kC K t)
   (vC K t))
def vF (K:W.Frag) (t:Adr):TS:=(zq (Jf (zp (tOp (rI0 fun i j=>.bl (decide (j < i))) (tCB (wp K) (zb (zc 3) zi)) (tC (.int 1)))) (zR (zm xx [] E0 (zb (zc 3) zi))))
  (zu (tOp (yo K) (tOp (yo K) (zc 3) (tC (.int 0))) (tC (.int 2)))))
def vG (K:W.Frag) (t:Adr):TS:=(zq (ym (yQ K (zc 0)) (zl 4)
   (zq (zG (tOp (rI (fun _ j=>0 < j) fun i j=>.int (i % j)) (zm zo [] E0 (zb (zc 4) (zb (tC (.int 0)) zi))) (tC (.int 16))) (zl 5))
  (zA (qM (zp (tOp (rIn K false) (zc 5) (zS (zb (tC (.int 12)) (zb (tC (.int 13)) zi))))) (zp (tOp (rI0 fun i j=>.bl (decide (i < j))) (tCB (wp K) (zb (zc 3) zi)) (tC (.int 6)))))
   (vD K t)
   (vE K t))))
  (vF K t))
def jM (K:W.Frag) (t:Adr):TS:=(zq (zG (yS (zb (yS (zb (tC .non) (zb (tC .non) (zb (yS zi) zi)))) zi)) (zl 3))
  (vG K t))
def v5 (K:W.Frag) (t:Adr):TS:=(zq (zG (tOp (rI CMulB fun i j=>.int (i * j)) (zc 0) (zc 1)) (zl 3))
  (zq (zA (zp (tOp rEq (zc 2) (tC (.str "plus"))))
    (zG (tOp (rI0 fun i j=>.int (i + j)) (zc 0) (zc 1)) (zl 3))
    zx)
  (zq (zA (zp (tOp rEq (zc 2) (tC (.str "minus"))))
    (zG (tOp (rI0 fun i j=>.int (i - j)) (zc 0) (zc 1)) (zl 3))
    zx)
  (zq (zA (tOr (zp (tOp (rI0 fun i j=>.bl (decide (j < i))) (zc 3) (tOp (rI Yi fun i j=>.int (i ^ j.toNat)) (tC (.int 10)) (tC (.int 30))))) (zp (tOp (rI0 fun i j=>.bl (decide (i < j))) (zc 3) (tUn (rU fun i=>.int (-i)) (tOp (rI Yi fun i j=>.int (i ^ j.toNat)) (tC (.int 10)) (tC (.int 30)))))))
    (zu (tC (.str "great")))
    zx)
  (zu (zc 3))))))
def kD (K:W.Frag) (t:Adr):TS:=(zq (zA (qM (zp (tOp (rIn K false) (zc 2) (zS (zb (tC (.str "over")) (zb (tC (.str "rest")) zi))))) (zp (tOp rEq (zc 1) (tC (.int 0)))))
   (zu (tC (.str "nought")))
   zx)
  (zq (zA (zp (tOp rEq (zc 2) (tC (.str "over"))))
    (zu (tOp (rI J6 fun i j=>.int (i.fdiv j)) (zc 0) (zc 1)))
    zx)
  (zq (zA (zp (tOp rEq (zc 2) (tC (.str "rest"))))
    (zu (tOp (rI0 fun i j=>.int (i - j)) (zc 0) (tOp (rI CMulB fun i j=>.int (i * j)) (tOp (rI J6 fun i j=>.int (i.fdiv j)) (zc 0) (zc 1)) (zc 1))))
    zx)
  (zq (zA (zp (tOp rEq (zc 2) (tC (.str "under"))))
    (zu (tCB ZD (zb (tOp (rI0 fun i j=>.bl (decide (i < j))) (zc 0) (zc 1)) zi)))
    zx)
  (zq (zA (zp (tOp rEq (zc 2) (tC (.str "same"))))
    (zu (tCB ZD (zb (tOp rEq (zc 0) (zc 1)) zi)))
    zx)
  (v5 K t))))))
def jY (K:W.Frag) (t:Adr):TS:=(zA (zp (tOp (rIn K false) (zc 3) (zS (zb (tC (.str "plus")) (zb (tC (.str "minus")) (zb (tC (.str "times")) (zb (tC (.str "over")) (zb (tC (.str "rest")) (zb (tC (.str "under")) (zb (tC (.str "same")) zi))))))))))
   (zq (zG (qc K "list" yz (zc 2)) (zl 4))
  (zq (zG (zm kz [] E0 (zb (qc K "list" yz (zc 2)) (zb (zc 4) (zb (zc 3) zi)))) (zl 5))
  (zq (zA (tB (tCB (ki K) (zb (zc 5) (zb (tC (.ty "str")) zi))))
    (zq (xj (zc 1) (tC (.str "why")) (zc 5))
  (zu (tC .non)))
   zx)
  (zR (tBM K "list" zn (zc 2) (zb (zc 5) zi))))))
   (zA (tB (tCB (ki K) (zb (zc 3) (zb (tC (.ty "int")) zi))))
   (zR (tBM K "list" zn (zc 2) (zb (zc 3) zi)))
   (zR (tBM K "list" zn (zc 2) (zb (zW (yC (zc 1) (tC (.str "slots"))) (zc 3) (tC (.int 0))) zi)))))
def jZ (K:W.Frag) (t:Adr):TS:=(zu (tOp (yo K) (zc 2) (tC (.int 0))))
def v6 (K:W.Frag) (t:Adr):TS:=(zq (zG (yS zi) (zl 2))
  (zq (ym (Yg K (zc 0)) (zl 3)
    (jY K t))
  (jZ K t)))
def qj (K:W.Frag) (t:Adr) (n:Nat):TS:=(zu (tC (.bl true)))
def v7 (K:W.Frag) (t:Adr) (n:Nat):TS:=(zq (zA (zp (tOp rEq (tOp (zT K) (zc 0) (tC (.int 0))) (tC (.str "take"))))
   (xj (yC (zc 1) (tC (.str "slots"))) (tOp (zT K) (zc 0) (tC (.int 3))) (zW (yC (zc 1) (tC (.str "now"))) (zS (zb (tOp (zT K) (zc 0) (tC (.int 1))) (zb (zc 2) zi))) (tC (.int 0))))
   (zA (zp (tOp rEq (tOp (zT K) (zc 0) (tC (.int 0))) (tC (.str "give"))))
   (zq (zG (zm xI [] E0 (zb (tOp (zT K) (zc 0) (tC (.int 3))) (zb (zc 1) zi))) (zl 3))
  (zq (zA (zp (tOp ZM (zc 3) (tC .non)))
    (zu (tC (.bl false)))
    zx)
  (xj (yC (zc 1) (tC (.str "now"))) (zS (zb (tOp (zT K) (zc 0) (tC (.int 1))) (zb (zc 2) zi))) (zc 3))))
   (zA (zp (tOp rEq (tOp (zT K) (zc 0) (tC (.int 0))) (tC (.str "let"))))
   (xj (yC (zc 1) (tC (.str "slots"))) (tOp (zT K) (zc 0) (tC (.int 1))) (zc 2))
   (zA (zp (tOp rEq (tOp (zT K) (zc 0) (tC (.int 0))) (tC (.str "say"))))
   (zR (tBM K "list" zn (yC (zc 1) (tC (.str "said"))) (zb (zc 2) zi)))
   (zA (zp (tOp rEq (tOp (zT K) (zc 0) (tC (.int 0))) (tC (.str "off"))))
   (zu (tOp rEq (zc 2) (tC (.int 0))))
   (zu (zm (yu  n) [] E0 (zb (tOp (zT K) (zc 0) (tOp (rI0 fun i j=>.int (i - j)) (tC (.int 3)) (tCB ZD (zb (tOp rNe (zc 2) (tC (.int 0))) zi)))) (zb (zc 1) zi)))))))))
  (qj K t n))
def kE (K:W.Frag) (t:Adr) (n:Nat):TS:=(zq (zG (zm xI [] E0 (zb (tOp (zT K) (zc 0) (tOp (rI0 fun i j=>.int (i + j)) (tC (.int 1)) (tCB ZD (zb (tOp (rIn K false) (tOp (zT K) (zc 0) (tC (.int 0))) (zS (zb (tC (.str "take")) (zb (tC (.str "give")) (zb (tC (.str "let")) zi))))) zi)))) (zb (zc 1) zi))) (zl 2))
  (zq (zA (zp (tOp ZM (zc 2) (tC .non)))
    (zu (tC (.bl false)))
    zx)
  (v7 K t n)))
def vc (K:W.Frag) (t:Adr) (n:Nat):TS:=(zq (ym (yQ K (zc 0)) (zl 2)
   (zA (xv (tB (zm (vV  n) [] E0 (zb (zc 2) (zb (zc 1) zi)))))
   (zu (tC (.bl false)))
   zx))
  (zu (tC (.bl true))))
def wI (K:W.Frag) (t:Adr):TS:=(zu (zS (zb (zS (zb (tC (.str "done")) (zb (tCB (qv K) (zb (yC (zc 2) (tC (.str "said"))) zi)) zi))) (zb (tCB (jV K) (zb (zc 3) zi)) zi))))
def wJ (K:W.Frag) (t:Adr):TS:=(zq (zcQ (zG (y7 (YU (yC (zc 2) (tC (.str "now")))) (Ye K 2 (jR (zl 0) (jR (zl 1) Yd))) (zp (tOp rNe (zc 1) (tC (.int 0)))) (zS (zb (zc 0) (zb (zc 1) zi))) 2 []) (zl 3)))
  (wI K t))
def wK (K:W.Frag) (t:Adr):TS:=(zq (zA (xv (tB (zm (yu  6) [] E0 (zb (zc 0) (zb (zc 2) zi)))))
   (zu (zS (zb (zS (zb (tC (.str "off")) (zb (yC (zc 2) (tC (.str "why"))) zi))) (zb (zc 1) zi))))
   zx)
  (wJ K t))
def vH (K:W.Frag) (t:Adr):TS:=(zq (zG (QE (((tC (.str "slots")),Yp) :: (((tC (.str "now")),(tCB ZG (zb (zc 1) zi))) :: (((tC (.str "said")),(yS zi)) :: (((tC (.str "why")),(tC (.str "told"))) :: []))))) (zl 2))
  (wK K t))
def jn (K:W.Frag) (t:Adr) (n:Nat):TS:=(zR (tBM K "list" zn (zc 1) (zb (zS (zb (tC (.str "if")) (zb (tOp (zT K) (zc 2) (tC (.int 1))) (zb (zm (yd  n) [] E0 (zb (tOp (zT K) (zc 2) (tC (.int 2))) zi)) (zb (zm (yd  n) [] E0 (zb (tOp (zT K) (zc 2) (tC (.int 3))) zi)) zi))))) zi)))
def jo (K:W.Frag) (t:Adr) (n:Nat):TS:=(zR (tBM K "list" zn (zc 1) (zb (zc 2) zi)))
def wL (K:W.Frag) (t:Adr) (n:Nat):TS:=(zA (zp (tOp rEq (tOp (zT K) (zc 2) (tC (.int 0))) (tC (.str "if"))))
   (jn K t n)
   (jo K t n))
def vI (K:W.Frag) (t:Adr) (n:Nat):TS:=(zq (zG (yS zi) (zl 1))
  (zq (ym (yQ K (zc 0)) (zl 2)
    (wL K t n))
  (zu (zc 1))))
def v9 (K:W.Frag) (t:Adr):TS:=(zq (KL K (zc 0) Yp "slots")
  (zq (KL K (zc 0) (tCB ZG (zb (zc 1) zi)) "worths")
  (KL K (zc 0) (yS zi) "sayings")))
def qF (K:W.Frag) (t:Adr) (E:XK):TS:=(zq (zA (zp (tOp rEq (zc 2) (tC (.int 0))))
   (Yw t.c_Nought (zb (Vj (zc 0)) zi) E)
   zx)
  (zu (tIf (zp (tOp rEq (zc 0) (tC (.str "over")))) (tOp (rI J6 fun i j=>.int (i.fdiv j)) (zc 1) (zc 2)) (tOp (rI (fun _ j=>j≠0) fun i j=>.int (i.fmod j)) (zc 1) (zc 2)))))
def qG (K:W.Frag) (t:Adr) (E:XK):TS:=(zq (zA (zp (tOp rEq (zc 0) (tC (.str "plus"))))
   (zu (tOp (rI0 fun i j=>.int (i + j)) (zc 1) (zc 2)))
   zx)
  (zq (zA (zp (tOp rEq (zc 0) (tC (.str "minus"))))
    (zu (tOp (rI0 fun i j=>.int (i - j)) (zc 1) (zc 2)))
    zx)
  (zq (zA (zp (tOp rEq (zc 0) (tC (.str "times"))))
    (zu (tOp (rI CMulB fun i j=>.int (i * j)) (zc 1) (zc 2)))
    zx)
  (zq (zA (zp (tOp rEq (zc 0) (tC (.str "under"))))
    (zu (tIf (zp (tOp (rI0 fun i j=>.bl (decide (i < j))) (zc 1) (zc 2))) (tC (.int 1)) (tC (.int 0))))
    zx)
  (zq (zA (zp (tOp rEq (zc 0) (tC (.str "same"))))
    (zu (tIf (zp (tOp rEq (zc 1) (zc 2))) (tC (.int 1)) (tC (.int 0))))
    zx)
  (zu (zm (qC t) [] E (zb (zc 0) (zb (zc 1) (zb (zc 2) zi))))))))))
def kF (K:W.Frag) (t:Adr):TS:=(zq (zA (tOr (xv (tB (tCB (ki K) (zb (zc 0) (zb (tC (.ty "int")) zi))))) (tB (tCB (ki K) (zb (zc 0) (zb (tC (.ty "bool")) zi)))))
   (zu (tC (.bl false)))
   zx)
  (zu (Jh (rI0 fun i j=>.bl (decide (i≤j))) (rI0 fun i j=>.bl (decide (i≤j))) (tUn (rU fun i=>.int (-i)) (tOp (rI Yi fun i j=>.int (i ^ j.toNat)) (tC (.int 10)) (tC (.int 30)))) (zc 0) (tOp (rI Yi fun i j=>.int (i ^ j.toNat)) (tC (.int 10)) (tC (.int 30))))))
def Zw (K:W.Frag) (t:Adr) (E:XK):TS:=(zq (zG (zm (qD t) [] E (zb (zc 0) (zb (zc 1) (zb (zc 2) zi)))) (zl 3))
  (zq (zA (xv (tB (zm kr [] E (zb (zc 3) zi))))
    (Yw t.c_Great (zb (Vj (zc 0)) zi) E)
    zx)
  (zu (zc 3))))
def qk (K:W.Frag) (t:Adr) (E:XK):TS:=(zq (zG (qc K "list" yz (zc 2)) (zl 4))
  (zq (zG (qc K "list" yz (zc 2)) (zl 5))
  (zR (tBM K "list" zn (zc 2) (zb (zm (wG t) [] E (zb (zc 3) (zb (zc 5) (zb (zc 4) zi)))) zi)))))
def ql (K:W.Frag) (t:Adr) (E:XK):TS:=(zR (tBM K "list" zn (zc 2) (zb (tIf (tB (tCB (ki K) (zb (zc 3) (zb (tC (.ty "str")) zi)))) (zW (zc 1) (zc 3) (tC (.int 0))) (zc 3)) zi)))
def ja (K:W.Frag) (t:Adr) (E:XK):TS:=(zA (zp (tOp (rIn K false) (zc 3) (tC (.ref t.c_JOINING))))
   (qk K t E)
   (ql K t E))
def kG (K:W.Frag) (t:Adr) (E:XK):TS:=(zq (zG (yS zi) (zl 2))
  (zq (ym (Yg K (zc 0)) (zl 3)
    (ja K t E))
  (zu (qc K "list" yz (zc 2)))))
def wt (K:W.Frag) (t:Adr) (E:XK):TS:=(zu (zm (kt t) [] E (zb (zc 1) (zb (vM K (zc 0) "slots") zi))))
def j0 (K:W.Frag) (t:Adr) (E:XK):TS:=(xj (vM K (zc 0) "slots") (tOp (zT K) (zc 1) (tC (.int 1))) (y6 t.c_Doing "worth_of" (zH t) [] E (zc 0) (zb (tOp (zT K) (zc 1) (tC (.int 2))) zi)))
def j3 (K:W.Frag) (t:Adr) (E:XK):TS:=(zR (tBM K "list" zn (vM K (zc 0) "sayings") (zb (y6 t.c_Doing "worth_of" (zH t) [] E (zc 0) (zb (tOp (zT K) (zc 1) (tC (.int 1))) zi)) zi)))
def j4 (K:W.Frag) (t:Adr) (E:XK):TS:=(xj (vM K (zc 0) "worths") (zc 2) (y6 t.c_Doing "worth_of" (zH t) [] E (zc 0) (zb (tOp (zT K) (zc 1) (tC (.int 3))) zi)))
def j5 (K:W.Frag) (t:Adr) (E:XK):TS:=(zq (zG (zS (zb (tOp (zT K) (zc 1) (tC (.int 1))) (zb (y6 t.c_Doing "worth_of" (zH t) [] E (zc 0) (zb (tOp (zT K) (zc 1) (tC (.int 2))) zi)) zi))) (zl 2))
  (j4 K t E))
def j6 (K:W.Frag) (t:Adr) (E:XK):TS:=(xj (vM K (zc 0) "slots") (tOp (zT K) (zc 1) (tC (.int 3))) (zW (vM K (zc 0) "worths") (zS (zb (tOp (zT K) (zc 1) (tC (.int 1))) (zb (y6 t.c_Doing "worth_of" (zH t) [] E (zc 0) (zb (tOp (zT K) (zc 1) (tC (.int 2))) zi)) zi))) (tC (.int 0))))
def xr (K:W.Frag) (t:Adr) (E:XK):TS:=(zA (zp (tOp rEq (tOp (zT K) (zc 1) (tC (.int 0))) (tC (.str "take"))))
   (j6 K t E)
   (zA (zp (tOp rEq (tOp (zT K) (zc 1) (tC (.int 0))) (tC (.str "give"))))
   (j5 K t E)
   (zA (zp (tOp rEq (tOp (zT K) (zc 1) (tC (.int 0))) (tC (.str "let"))))
   (j0 K t E)
   (j3 K t E))))
def wf (K:W.Frag) (t:Adr) (n:Nat) (E:XK):TS:=(zA (xv (tB (y6 t.c_Doing "goes_through" (yb t n) [] E (zc 0) (zb (tIf (zp (tOp rNe (y6 t.c_Doing "worth_of" (zH t) [] E (zc 0) (zb (tOp (zT K) (zc 2) (tC (.int 1))) zi)) (tC (.int 0)))) (tOp (zT K) (zc 2) (tC (.int 2))) (tOp (zT K) (zc 2) (tC (.int 3)))) zi))))
   (zu (tC (.bl false)))
   zx)
def wg (K:W.Frag) (t:Adr) (n:Nat) (E:XK):TS:=(zR (y6 t.c_Doing "does" (vY t) [] E (zc 0) (zb (zc 2) zi)))
def wj (K:W.Frag) (t:Adr) (n:Nat) (E:XK):TS:=(zA (zp (tOp rNe (y6 t.c_Doing "worth_of" (zH t) [] E (zc 0) (zb (tOp (zT K) (zc 2) (tC (.int 1))) zi)) (tC (.int 0))))
   (zu (tC (.bl false)))
   zx)
def yt (K:W.Frag) (t:Adr) (n:Nat) (E:XK):TS:=(zA (zp (tOp rEq (tOp (zT K) (zc 2) (tC (.int 0))) (tC (.str "off"))))
   (wj K t n E)
   (zA (zp (tOp rEq (tOp (zT K) (zc 2) (tC (.int 0))) (tC (.str "if"))))
   (wf K t n E)
   (wg K t n E)))
def xu (K:W.Frag) (t:Adr) (n:Nat) (E:XK):TS:=(zq (ym (yQ K (zc 1)) (zl 2)
   (yt K t n E))
  (zu (tC (.bl true))))
def jb (K:W.Frag) (t:Adr):TS:=(zu (zS (zb (zS (zb (tC (.str "off")) (zb (zc 0) zi))) (zb (tCB (KW K) (zb (zc 1) zi)) zi))))
def vW (K:W.Frag) (t:Adr):TS:=(zq (zG (tCB ZG (zb (zc 0) zi)) (zl 1))
  (zu (y7 (yQ K (tCB Kl (zb (zc 1) zi))) (zl 0) (zp (tOp rNe (yC (zc 1) (zc 0)) (tC (.int 0)))) (zS (zb (zc 0) (zb (yC (zc 1) (zc 0)) zi))) 1 [1])))
def qH (K:W.Frag) (t:Adr):TS:=(zq (zA (xv (tB (zc 3)))
   (zu (zm yP [] E0 (zb (tC (.str "told")) (zb (zc 1) zi))))
   zx)
  (zu (zS (zb (zS (zb (tC (.str "done")) (zb (tCB (qv K) (zb (vM K (zc 2) "sayings") zi)) zi))) (zb (zm ku [] E0 (zb (tCB VE (zb (jF (vM K (zc 2) "worths")) zi)) zi)) zi)))))
def qI (K:W.Frag) (t:Adr):TS:=(zq (WA K (J5 (Wz t.c_Doing "goes_through" (yb t 6) (zc 2) (zb (zc 0) zi)) 3) t.c_Great (zu (zm yP [] E0 (zb (tC (.str "great")) (zb (zc 1) zi)))) t.c_Nought (zu (zm yP [] E0 (zb (tC (.str "nought")) (zb (zc 1) zi)))))
  (qH K t))
def YY (K:W.Frag) (t:Adr):TS:=(zq (zG (Qw t.c_Doing (vX t) [] E0 (zb (zc 1) zi)) (zl 2))
  (qI K t))
def jc (K:W.Frag) (t:Adr) (n:Nat):TS:=(zq (zA (tB (tCB (Ku K) (zb (zc 0) (zb (zS (zb (tC (.ty "list")) (zb (tC (.ty "tuple")) zi))) zi))))
   (zq (ym (zcn K (zc 0)) (zl 1)
   (zA (xv (tB (zm (xq  n) [] E0 (zb (zc 1) zi))))
   (zu (tC (.bl false)))
   zx))
  (zu (tC (.bl true))))
   zx)
  (zu (Qn (tCB (Ku K) (zb (zc 0) (zb (zS (zb (tC (.ty "int")) (zb (tC (.ty "str")) zi))) zi))) (Qo (tCB (ki K) (zb (zc 0) (zb (tC (.ty "bool")) zi)))))))
def VR (K:W.Frag) (t:Adr):TS:=(zq (zG (zm jG [] E0 (zb (tSl (KN K) (zc 5) (xR (zc 6)) (xR (tOp (rI0 fun i j=>.int (i + j)) (zc 6) (zc 4)))) (zb (zc 1) (zb (zc 2) zi)))) (zl 7))
  (zq (zG (zm vt [] E0 (zb (zc 7) (zb (zc 3) zi))) (zl 8))
  (zq (zG (zm (yd  6) [] E0 (zb (zc 7) zi)) (zl 9))
  (zq (zG (tCB (KW K) (zb (zc 3) zi)) (zl 10))
  (zq (zG (zm YX [] E0 (zb (zc 9) (zb (zc 10) zi))) (zl 11))
  (zq (zA (tOr (xv (tB (zm (xq  6) [] E0 (zb (zc 11) zi)))) (zp (tOp (Jx K true) (zc 11) (zc 8))))
    (zu (tC (.bl false)))
    zx)
  (zq (zA (tOr (zp (tOp (Jx K true) (zc 9) (zc 7))) (zp (tOp (Jx K true) (zc 10) (zc 3))))
    (zu (tC (.bl false)))
    zx)
  (zG (tOp (zT K) (zc 8) (tC (.int 1))) (zl 3)))))))))
def YZ (K:W.Frag) (t:Adr):TS:=(zq (ym (VI (zb (tC (.int 0)) (zb (tCB (wp K) (zb (zc 5) zi)) (zb (zc 4) zi)))) (zl 6)
   (VR K t))
  (zu (tC (.bl true))))
def VS (K:W.Frag) (t:Adr):TS:=(zq (zG (tSl (KN K) (zc 0) yW (xR (tC (.int 120)))) (zl 5))
  (YZ K t))
def VT (K:W.Frag) (t:Adr):TS:=(zq (zG (tOp (rI0 fun i j=>.int (i + j)) (tC (.int 1)) (tOp (rI (fun _ j=>0 < j) fun i j=>.int (i % j)) (zm zo [] E0 (zb (zm (yH K) [] E0 (zb (zc 0) (zb (tC (.int 0)) zi))) (zb (tC (.int 200)) zi))) (tC (.int 16)))) (zl 4))
  (VS K t))
def JE (K:W.Frag) (t:Adr):TS:=(zq (zG (zm wQ [] E0 (zb (zm (yH K) [] E0 (zb (zc 0) (zb (tC (.int 0)) zi))) (zb (tC (.int 4)) zi))) (zl 1))
  (zq (zG (zm wQ [] E0 (zb (zm (yH K) [] E0 (zb (zc 0) (zb (tC (.int 1)) zi))) (zb (tC (.int 3)) zi))) (zl 2))
  (zq (zG (zm vZ [] E0 (zb (zm (yH K) [] E0 (zb (zc 0) (zb (tC (.int 2)) zi))) (zb (zc 2) zi))) (zl 3))
  (VT K t))))
section
variable {K:W.Frag} {t:Adr} {H:Hp} {Q:VK}
theorem VU {j:Int} (h0:0≤j) (h1:j≤100):Yi 10 j:=⟨h0,by lia,by decide⟩
theorem yi {n:Nat} (h:n≤100000):n≤sizeLine:=Nat.le_trans h (by decide)
theorem Zf (T:String):W.kitOne K (.type T) (.type T)=some true:=by
 unfold W.kitOne
 rw [if_pos (by simp)]
theorem kf (K:W.Frag):KF K:=⟨by with_unfolding_all rfl,by with_unfolding_all rfl,by with_unfolding_all rfl,by with_unfolding_all rfl,by with_unfolding_all rfl,by with_unfolding_all rfl,by with_unfolding_all rfl,by with_unfolding_all rfl,by with_unfolding_all rfl,by with_unfolding_all rfl⟩
theorem dB {i j:Int} (h0:0 < j:=by decide) (h1:j < 10000000000000000000000000000000000000000000000:=by decide):QH i j:=by
 have hb:(10000000000000000000000000000000000000000000000:Int) < big:=by decide +kernel
 exact ⟨h0,by lia⟩
theorem zas {α:Type} {xs:List α} {i:Int} (h0:0≤i) (h1:i < xs.length):∃ x,atI xs i=some x∧x∈xs:=by
 obtain ⟨n,rfl⟩:∃ n:Nat,i=(n:Int):=⟨i.toNat,by lia⟩
 have hn:n < xs.length:=by lia
 refine ⟨xs[n],?_,List.getElem_mem hn⟩
 unfold atI ixN
 rw [if_pos h0,if_pos h1]
 simp [hn]
theorem JF {α:Type} {xs:List α} (e:Int) (n:Nat) (hl:xs.length=n) (hn:0 < (n:Int)):∃ x,atI xs (e % n)=some x∧x∈xs :=
 zas (Int.emod_nonneg _ (by lia)) (by rw [hl];exact Int.emod_lt_of_pos _ hn)
theorem WJ {i:Int} (hK:zbo K) (q:∀ H',Same H H'→Q (.bl (inW i)) H') :
  kF K t { nx:=fun _ H'=>Q .non H',rt:=Q } (L2.start ["thing"] [.int i]) H:=by
 simp only [kF,L2.start,zq,zu,zx,tOp,tUn,zc,tC,zb,zi,zA,tOr,xv,tB,tCB,Jh,rI,rI0,rU,ki,List.map,List.replicate,List.length,List.append,jqa,jqb,jqc,jqd,jqe,jqf,jqg,jqh,jqi,jqj,jqk,jql,jqm,jqn,and_true,true_and,and_assoc,jqo,jqp,jqq,jqr,jqs,jqt,if_true,ite_true,jqu,ite_false,if_false]
 have q:=q H (Same.refl H)
 refine ⟨_,.int i,true,Zf _,?_⟩
 rw [if_neg (by decide)]
 refine ⟨_,.int i,false,hK,?_⟩
 rw [if_neg (by decide)]
 refine ⟨VU (by decide) (by decide),yE (fun c=>⟨VU (by decide) (by decide),?_⟩) fun c=>?_⟩
 ·have e:inW i=decide (i≤1000000000000000000000000000000):=by
   unfold inW
   by_cases h:i≤1000000000000000000000000000000
   ·rw [decide_eq_true h,decide_eq_true ⟨c,h⟩]
   ·rw [decide_eq_false h,decide_eq_false fun z=>h z.2]
  rw [e] at q
  exact q
 ·have e:inW i=false:=decide_eq_false fun z=>c z.1
  rw [e] at q
  exact q
theorem VW {E:XK} {w:Str} {a b:Int} (hw:w.length≤1000) (ha:inW a=true) (hb:inW b=true) (q:∀ H',Same H H'→if b=0 then E (.ref t.c_Nought) none H' else Q (.int (if w="over" then a.fdiv b else a.fmod b)) H') :
  qF K t E { nx:=fun _ H'=>Q .non H',rt:=Q } (L2.start ["word","first","second"] [.str w,.int a,.int b]) H:=by
 simp only [qF,L2.start,Yw,Vj,zq,zu,zx,tOp,zc,tC,zb,zi,zA,zp,tIf,rEq,rI,yn,List.map,List.replicate,List.length,List.append,jqa,jqb,jqc,jqd,jqe,jqf,jqg,jqh,jqi,jqj,jqk,jql,jqm,jqn,and_true,true_and,and_assoc,jqo,jqp,jqq,jqr,jqs,jqt,if_true,ite_true,jqu,ite_false,if_false]
 have q:=q H (Same.refl H)
 have B:=Z4 hb
 refine yE (fun c=>?_) fun c=>?_
 ·rw [if_pos c] at q
  exact ⟨by lia,fun y=>⟨by decide,q⟩⟩
 ·rw [if_neg c] at q
  refine yE (fun e=>?_) fun e=>?_
  ·rw [if_pos e] at q
   exact ⟨⟨c,B⟩,q⟩
  ·rw [if_neg e] at q
   exact ⟨c,q⟩
theorem VX {E:XK} {w:Str} {a b:Int} (hw:w.length≤1000) (ha:inW a=true) (hb:inW b=true) (q:∀ H',Same H H'→if qh w∧b=0 then E (.ref t.c_Nought) none H' else Q (.int (yD w a b)) H') :
  qG K t E { nx:=fun _ H'=>Q .non H',rt:=Q } (L2.start ["word","first","second"] [.str w,.int a,.int b]) H:=by
 simp only [qG,qC,L2.start,zq,zu,zx,tOp,zc,tC,zb,zi,zA,zp,tIf,zm,rEq,rI,rI0,yn,List.map,List.replicate,List.length,List.append,jqa,jqb,jqc,jqd,jqe,jqf,jqg,jqh,jqi,jqj,jqk,jql,jqm,jqn,and_true,true_and,and_assoc,jqo,jqp,jqq,jqr,jqs,jqt,if_true,ite_true,jqu,ite_false,if_false]
 have A:=Z4 ha
 have B:=Z4 hb
 have nd:¬ qh w→Q (.int (yD w a b)) H:=fun h=>by
  have q:=q H (Same.refl H)
  rw [if_neg fun z=>h z.1] at q
  exact q
 refine yE (fun c=>?_) fun c1=>yE (fun c=>?_) fun c2=>yE (fun c=>⟨⟨A,B⟩,?_⟩) fun c3=>yE (fun c=>?_) fun c4=>yE (fun c=>?_) fun c5=>⟨hw,ha,hb,fun H' s=>?_⟩
 ·subst c
  have q:=nd fun z=>z.1 rfl
  exact q
 ·subst c
  have q:=nd fun z=>z.2.1 rfl
  rw [show yD "minus" a b=a - b by unfold yD;rw [if_neg c1,if_pos rfl]] at q
  exact q
 ·subst c
  have q:=nd fun z=>z.2.2.1 rfl
  rw [show yD "times" a b=a * b by unfold yD;rw [if_neg c1,if_neg c2,if_pos rfl]] at q
  exact q
 ·subst c
  have q:=nd fun z=>z.2.2.2.1 rfl
  rw [show yD "under" a b=if a < b then 1 else 0 by unfold yD;rw [if_neg c1,if_neg c2,if_neg c3,if_pos rfl]] at q
  refine yE (fun d=>?_) fun d=>?_
  ·rw [if_pos d] at q;exact q
  ·rw [if_neg d] at q;exact q
 ·subst c
  have q:=nd fun z=>z.2.2.2.2 rfl
  rw [show yD "same" a b=if a=b then 1 else 0 by unfold yD;rw [if_neg c1,if_neg c2,if_neg c3,if_neg c4,if_pos rfl]] at q
  refine yE (fun d=>?_) fun d=>?_
  ·rw [if_pos d] at q;exact q
  ·rw [if_neg d] at q;exact q
 ·have q:=q H' s
  have hd:qh w:=⟨c1,c2,c3,c4,c5⟩
  refine yE (fun d=>?_) fun d=>?_
  ·rw [if_pos ⟨hd,d⟩] at q;exact q
  ·rw [if_neg fun z=>d z.2] at q
   unfold yD at q
   rw [if_neg c1,if_neg c2,if_neg c3,if_neg c4,if_neg c5] at q
   exact q
theorem JG {E:XK} {w:Str} {a b:Int} (hw:w.length≤1000) (ha:inW a=true) (hb:inW b=true) (q:∀ H',Same H H'→fin t (yR w a b) Q E H') :
  Zw K t E { nx:=fun _ H'=>Q .non H',rt:=Q } (L2.start ["word","first","second","worth"] [.str w,.int a,.int b]) H:=by
 simp only [Zw,qD,kr,L2.start,Yw,Vj,zq,zG,zl,zu,zx,zc,zb,zi,zA,xv,tB,zm,List.map,List.replicate,List.length,List.append,jqa,jqb,jqc,jqd,jqe,jqf,jqg,jqh,jqi,jqj,jqk,jql,jqm,jqn,and_true,true_and,and_assoc,jqo,jqp,jqq,jqr,jqs,jqt,if_true,ite_true,jqu,ite_false,if_false]
 refine ⟨hw,ha,hb,fun H1 s1=>yE (fun c=>?_) fun c H2 s2=>yE (fun d=>?_) fun d=>?_⟩
 ·have q:=q H1 s1
  unfold yR at q
  rw [if_pos c] at q
  exact q
 ·have q:=q H2 (s1.trans s2)
  unfold yR at q
  rw [if_neg c,if_neg (by rw [d];decide)] at q
  exact ⟨by lia,fun y=>⟨by decide,q⟩⟩
 ·have q:=q H2 (s1.trans s2)
  unfold yR at q
  rw [if_neg c,if_pos (by simpa using d)] at q
  exact q
theorem kH {xs:List V} {y:V}:(xs ++ [y])[(xs ++ [y]).length - 1]?=some y:=by simp
theorem wM {xs:List V} {y:V}:(xs ++ [y]).dropLast=xs:=by simp
theorem z8 {H H':Hp} {w:Addr} {o:HO} (s:Same H H') (hw:H w=none):Same H (upd H' w o):=fun b u e=>by rw [zk (zE e hw)];exact s b u e
theorem zat (st:List Int):(∃ l a b,st=l ++ [a,b])∨∀ kvs v,isJ v=true→xT kvs st v=.error .stuck:=by
 cases h:st.reverse with
 | nil =>
  refine .inr fun kvs v hv=>?_
  unfold xT
  rw [hv,if_pos rfl,h]
  split <;> rename_i e1 e2 <;> first | rfl | cases e2
 | cons b r =>
  cases r with
  | nil =>
   refine .inr fun kvs v hv=>?_
   unfold xT
   rw [hv,if_pos rfl,h]
   split <;> rename_i e1 e2 <;> first | rfl | cases e2
  | cons a r =>
   refine .inl ⟨r.reverse,a,b,?_⟩
   have:=congrArg List.reverse h
   rw [List.reverse_reverse] at this
   rw [this];simp
theorem VY {kvs:List (Key × V)} {l:List Int} {a b:Int} {w:Str} (hw:isJ (.str w)=true):xT kvs (l ++ [a,b]) (.str w)=match yR w a b with | .ok c=>.ok (l ++ [c]) | .error e=>.error e:=by
 unfold xT
 rw [hw,if_pos rfl]
 simp only [List.reverse_append,List.reverse_cons,List.reverse_nil,List.nil_append,List.cons_append]
 cases yR w a b with
 | error e=>rfl
 | ok c=>simp
def rkI (kvs:List (Key × V)) (ps:List V) (tm sl w:Addr) (H:Hp) (i:Nat) (σ:St) (H':Hp):Prop:=∃ st,(∃ o3 o4 o5,σ=[some (.ref tm),some (.ref sl),some (.ref w),o3,o4,o5])∧wz kvs (ps.take i) []=.ok st∧(∀ x∈st,inW x=true)∧st.length≤i∧H' w=some (.lst (st.map V.int))∧Same H H'
theorem WK {E:XK} {kvs:List (Key × V)} {tm sl:Addr} {ps:List V} {r:Except Er Int} (hK:W.kitOne K (.type "int") (.type "str")=some false) (hJ:∀ H:Hp,SqT K H t.c_JOINING jw) (h1:H tm=some (.tup ps)) (h2:H sl=some (.dK kvs)) (h3:Good kvs ps r) (h4:∀ v∈ps,jC v) (h5:ps.length≤1000) (h6:xy kvs)
  (q:∀ H',Same H H'→fin t r Q E H'):kG K t E { nx:=fun _ H'=>Q .non H',rt:=Q } (L2.start ["term","slots","worths","part","second","first"] [.ref tm,.ref sl]) H:=by
 simp only [kG,wG,zW,L2.start,zW,zn,yz,zP,Ym,zq,zG,zl,zu,zR,tOp,zc,tC,yS,zb,zi,ym,zA,zp,tB,tIf,tCB,tBM,qc,tyV,zm,Yg,rIn,ki,List.map,List.replicate,List.length,List.append,jqa,jqb,jqc,jqd,jqe,jqf,jqg,jqh,jqi,jqj,jqk,jql,jqm,jqn,and_true,true_and,and_assoc,jqo,jqp,jqq,jqr,jqs,jqt,if_true,ite_true,jqu,ite_false,if_false]
 refine ⟨by decide,fun w hw=>⟨⟨_,SqT.of ((isV w hw) _ _ h1)⟩,?_⟩⟩
 have run0:=h3.1 []
 have fe:∀ {e:Er} {H':Hp},wz kvs ps []=.error e→Same H H'→fin t (.error e) Q E H':=fun {e H'} z s=>by
  rw [z] at run0
  cases r with
  | ok i=>cases run0
  | error e' =>
   cases run0
   exact q _ s
 have ns:wz kvs ps []≠.error .stuck:=fun z=>by
  rw [z] at run0
  cases r with
  | ok i=>cases run0
  | error e' =>
   cases run0
   exact h3.2 rfl
 refine Yx ps (rkI kvs ps tm sl w H) ⟨[],⟨_,_,_,rfl⟩,rfl,(fun x z=>nomatch z),Nat.le_refl _,zf,isV w hw⟩ (fun i σ H' ⟨st,a,b,c,d,e,s⟩=>SqT.of (s _ _ h1)) ?_ ?_
 ·rintro i v σ H' hv ⟨st,⟨o3,o4,o5,rfl⟩,hr,hW,hl,hst,hS⟩
  have hi:i < ps.length:=(List.getElem?_eq_some_iff.mp hv).1
  have one:=J7 hr hv
  have ok:=h4 v (List.mem_of_getElem? hv)
  have fl:qe v=true:=by rcases ok with ⟨j,rfl,_⟩ | ⟨x,rfl,_⟩ <;> rfl
  simp only [ja,wG,zW,L2.start,zW,zn,yz,zP,Ym,zq,zG,zl,zu,zR,tOp,zc,tC,yS,zb,zi,ym,zA,zp,tB,tIf,tCB,tBM,qc,tyV,zm,Yg,rIn,ki,List.map,List.replicate,List.length,List.append,jqa,jqb,jqc,jqd,jqe,jqf,jqg,jqh,jqi,jqj,jqk,jql,jqm,jqn,and_true,true_and,and_assoc,jqo,jqp,jqq,jqr,jqs,jqt,if_true,ite_true,jqu,ite_false,if_false]
  refine ⟨jw,.inr (hJ H'),fl,rfl,yE (fun c=>?_) fun c=>?_⟩
  ·simp only [qk,wG,zW,L2.start,zW,zn,yz,zP,Ym,zq,zG,zl,zu,zR,tOp,zc,tC,yS,zb,zi,ym,zA,zp,tB,tIf,tCB,tBM,qc,tyV,zm,Yg,rIn,ki,List.map,List.replicate,List.length,List.append,jqa,jqb,jqc,jqd,jqe,jqf,jqg,jqh,jqi,jqj,jqk,jql,jqm,jqn,and_true,true_and,and_assoc,jqo,jqp,jqq,jqr,jqs,jqt,if_true,ite_true,jqu,ite_false,if_false]
   rcases zat st with ⟨l,a,b,rfl⟩ | z
   ·obtain ⟨x,rfl,hx⟩:∃ x:Str,v=.str x∧x.length≤1000:=by
     rcases ok with ⟨j,rfl,_⟩ | h
     ·exact absurd c (by rw [show inV (V.int j) jw=false from rfl];decide)
     ·exact h
    have e1:List.map V.int (l ++ [a,b])=(l.map V.int ++ [.int a]) ++ [.int b]:=by simp
    rw [e1] at hst
    have one':=one.trans (VY c)
    have wa:=hW a (by simp)
    have wb:=hW b (by simp)
    refine ⟨.inl ⟨_,SqL.of hst⟩,_,hst,_,kH,.inl ⟨_,SqL.of zf⟩,_,by rw [wM];exact zf,_,kH,.inl ⟨_,SqL.of zf⟩,x,rfl,a,rfl,b,rfl,hx,wa,wb,fun H2 s2=>?_⟩
    rw [wM,wM] at s2
    have S2:Same H H2:=(z8 (z8 hS hw) hw).trans s2
    cases e:yR x a b with
    | ok d =>
     rw [e] at one'
     have hd:inW d=true:=by
      unfold yR at e
      split at e
      ·cases e
      ·split at e
       ·rename_i z;cases e;exact z
       ·cases e
     refine ⟨_,s2 _ _ zf,?_,l ++ [d],⟨_,_,_,rfl⟩,one',?_,?_,?_,z8 S2 hw⟩
     ·rw [List.length_map]
      have:(l ++ [a,b]).length=l.length + 2:=by simp
      exact Nat.lt_of_le_of_lt (by lia:l.length≤1000) (by decide)
     ·intro y hy
      rcases List.mem_append.mp hy with h | h
      ·exact hW y (List.mem_append_left _ h)
      ·have:y=d:=by simpa using h
       rw [this];exact hd
     ·have:(l ++ [a,b]).length=l.length + 2:=by simp
      rw [List.length_append];show l.length + 1≤i + 1
      lia
     ·rw [List.map_append];exact zf
    | error er =>
     rw [e] at one'
     have:=fe (Z0 one') S2
     cases er with
     | nought=>exact this
     | great=>exact this
     | stuck=>trivial
   ·exact absurd (Z0 (one.trans (z kvs v c))) ns
  ·simp only [ql,wG,zW,L2.start,zW,zn,yz,zP,Ym,zq,zG,zl,zu,zR,tOp,zc,tC,yS,zb,zi,ym,zA,zp,tB,tIf,tCB,tBM,qc,tyV,zm,Yg,rIn,ki,List.map,List.replicate,List.length,List.append,jqa,jqb,jqc,jqd,jqe,jqf,jqg,jqh,jqi,jqj,jqk,jql,jqm,jqn,and_true,true_and,and_assoc,jqo,jqp,jqq,jqr,jqs,jqt,if_true,ite_true,jqu,ite_false,if_false]
   have st1:xT kvs st v=.ok (st ++ [YA kvs v]):=by
    unfold xT
    rw [if_neg (by unfold isJ;exact c)]
   have one':=one.trans st1
   have hwv:=YB h6 ok
   have fin1:∀ u,u=V.int (YA kvs v)→rkI kvs ps tm sl w H (i + 1) [some (V.ref tm),some (V.ref sl),some (V.ref w),some v,o4,o5] (upd H' w (HO.lst (List.map V.int st ++ [u]))):=fun u hu=>by
    subst hu
    refine ⟨st ++ [YA kvs v],⟨_,_,_,rfl⟩,one',?_,?_,?_,z8 hS hw⟩
    ·intro y hy
     rcases List.mem_append.mp hy with h | h
     ·exact hW y h
     ·have:y=YA kvs v:=by simpa using h
      rw [this];exact hwv
    ·rw [List.length_append];show st.length + 1≤i + 1
     lia
    ·rw [List.map_append];exact zf
   have sz:(List.map V.int st).length < sizeLine:=by
    rw [List.length_map]
    exact Nat.lt_of_le_of_lt (by lia:st.length≤1000) (by decide)
   refine ⟨.inl ⟨_,SqL.of hst⟩,?_⟩
   rcases ok with ⟨j,rfl,hj⟩ | ⟨x,rfl,hx⟩
   ·refine ⟨_,.int j,false,hK,?_⟩
    rw [if_neg (by decide)]
    exact ⟨_,hst,sz,fin1 _ rfl⟩
   ·refine ⟨_,.str x,true,Zf _,?_⟩
    rw [if_pos rfl]
    refine ⟨.inl ⟨kvs,.inl (hS _ _ h2)⟩,_,DGet.k (k:=.inr x) (hS _ _ h2),_,hst,sz,fin1 _ ?_⟩
    show (yB kvs (.inr x)).getD (V.int 0)=V.int (match yB kvs (.inr x) with | some (.int i)=>i | _=>0)
    cases e:yB kvs (.inr x) with
    | none=>rfl
    | some u =>
     obtain ⟨i,rfl,_⟩:=h6 _ _ e
     rfl
 ·rintro σ H' ⟨st,⟨o3,o4,o5,rfl⟩,hr,hW,hl,hst,hS⟩
  rw [List.take_length] at hr
  simp only [ja,wG,zW,L2.start,zW,zn,yz,zP,Ym,zq,zG,zl,zu,zR,tOp,zc,tC,yS,zb,zi,ym,zA,zp,tB,tIf,tCB,tBM,qc,tyV,zm,Yg,rIn,ki,List.map,List.replicate,List.length,List.append,jqa,jqb,jqc,jqd,jqe,jqf,jqg,jqh,jqi,jqj,jqk,jql,jqm,jqn,and_true,true_and,and_assoc,jqo,jqp,jqq,jqr,jqs,jqt,if_true,ite_true,jqu,ite_false,if_false]
  rw [hr] at run0
  cases r with
  | error e=>cases run0
  | ok i =>
   have e:st=[i]:=by injection run0
   subst e
   exact ⟨.inl ⟨_,SqL.of hst⟩,_,hst,_,rfl,q _ (z8 hS hw)⟩
theorem Zx {a:Addr} {ns:List Int} {k:Nat} (hS:SqL K H a (ns.map V.int)) (hl:ns.length≤63) (q:∀ c H',Same H H'→Q (.int c) H') :
  vb K t { nx:=fun _ H'=>Q .non H',rt:=Q } (L2.start ["script","k"] [.ref a,.int k]) H:=by
 simp only [vb,L2.start,zq,zu,zx,tOp,zc,tC,zb,zi,zA,zp,tCB,vL,yo,rI0,wp,List.map,List.replicate,List.length,List.append,jqa,jqb,jqc,jqd,jqe,jqf,jqg,jqh,jqi,jqj,jqk,jql,jqm,jqn,and_true,true_and,and_assoc,jqo,jqp,jqq,jqr,jqs,jqt,if_true,ite_true,jqu,ite_false,if_false]
 refine ⟨_,.inl ⟨_,hS,rfl⟩,yE (fun c=>?_) fun _=>q _ _ (Same.refl H)⟩
 obtain ⟨v,hv,hm⟩:=zas (xs:=ns.map V.int) (i:=(k:Int)) (by lia) c
 obtain ⟨i,_,rfl⟩:=List.mem_map.mp hm
 exact ⟨_,hS,_,hv,q _ _ (Same.refl H)⟩
theorem Zg (c:Nat):({ cps:=#[c] }:Str).length=1:=rfl
theorem RowAt.same {H H':Hp} {v:V} {q:Row} (h:RowAt H v q) (s:Same H H'):RowAt H' v q:=by
 obtain ⟨r,p,e,h1,h2⟩:=h
 exact ⟨r,p,e,s _ _ h1,s _ _ h2⟩
def X7 (H H':Hp):Prop:=∀ b ys,H b=some (.tup ys)→H' b=some (.tup ys)
theorem RowAt.tsame {H H':Hp} {v:V} {q:Row} (h:RowAt H v q) (s:X7 H H'):RowAt H' v q:=by
 obtain ⟨r,p,e,h1,h2⟩:=h
 exact ⟨r,p,e,s _ _ h1,s _ _ h2⟩
theorem jN {H H':Hp} (s:X7 H H'):∀ {vs:List V} {rows:List Row},vq H vs rows→vq H' vs rows
 | _,_,.nil=>.nil
 | _,_,.cons h r=>.cons (h.tsame s) (jN s r)
theorem Same.ts {H H':Hp} (s:Same H H'):X7 H H':=fun b ys e=>s _ _ e
theorem VZ {J:It} {D:Addr} {τ₀:St} {H1:Hp} {Q:Hp→Prop} {B:V→St→Hp→(V→St→Hp→Prop)→(St→Hp→Prop)→Prop} (n:Nat) (hn:n≤1000000) (C:St→Prop) (R:Nat→List V→Hp→Prop) (hm:∀ i ys H H',X7 H H'→R i ys H→R i ys H') (hC:C τ₀) (h0:R 0 [] H1)
  (go:∀ i H,Same H1 H→i < n→J.go i H) (stop:∀ H,Same H1 H→J.stop n H) (hD:H1 D=none)
  (hs:∀ i x τ ys H H',C τ→Same H1 H→i < n→R i ys H→J.yld i H x H'→B x τ H' (fun v τ' H4=>C τ'∧R (i + 1) (ys ++ [v]) H4∧Same H H4) (fun τ' H4=>C τ'∧R (i + 1) ys H4∧Same H H4))
  (hd:∀ ys H,ys.length≤n→R n ys H→Same H1 H→H D=some (.lst ys)→Q H) :
  ∃ W:Nat→Nat→List V→St→Hp→Prop,(∃ m,W 0 m [] τ₀ (upd H1 D (.lst [])))∧∀ i m ys τ H,W i m ys τ H→H D=some (.lst ys) ∧
  ((J.stop i H∧Q H)∨(J.go i H∧ys.length < sizeLine∧∃ N:V→St→Hp→Prop,
   (∀ v τ' H',N v τ' H'→H' D=some (.lst ys)∧∃ m',m' < m∧W (i + 1) m' (ys ++ [v]) τ' (upd H' D (.lst (ys ++ [v]))))∧∃ Nf:St→Hp→Prop,(∀ τ' H',Nf τ' H'→∃ m',m' < m∧W (i + 1) m' ys τ' H') ∧
   ∀ x H',J.yld i H x H'→B x τ H' N Nf)):=by
 have ext:∀ {H:Hp} {o:HO},Same H1 H→Same H1 (upd H D o):=fun {H o} h b u e=>by
  rw [zk (zE e hD)];exact h b u e
 refine ⟨fun i m ys τ H=>m=n - i∧i≤n∧ys.length≤i∧R i ys H∧Same H1 H∧H D=some (.lst ys)∧C τ,⟨n,by simp,Nat.zero_le _,Nat.le_refl _,hm _ _ _ _ (Same.ts (ext (Same.refl _))) h0,ext (Same.refl _),zf,hC⟩,?_⟩
 rintro i m ys τ H ⟨rfl,hi,hl,hR,hS,hy,hc⟩
 refine ⟨hy,?_⟩
 by_cases hlt:i < n
 ·refine .inr ⟨go i H hS hlt,Nat.lt_of_le_of_lt (by lia:ys.length≤1000000) (by decide),_,?_,_,?_,fun x H' y=>hs i x τ ys H H' hc hS hlt hR y⟩
  ·rintro v τ' H4 ⟨c4,r4,s4⟩
   have y4:=s4 _ _ hy
   exact ⟨y4,n - (i + 1),by lia,rfl,hlt,by simp;lia,hm _ _ _ _ (fun b zs e=>by rw [zk (xF e y4 (by simp))];exact e) r4,ext (hS.trans s4),zf,c4⟩
  ·rintro τ' H4 ⟨c4,r4,s4⟩
   exact ⟨n - (i + 1),by lia,rfl,hlt,by lia,r4,hS.trans s4,s4 _ _ hy,c4⟩
 ·obtain rfl:i=n:=by lia
  exact .inl ⟨stop H hS,hd ys H hl hR hS hy⟩
theorem jp {H H':Hp} (s:Same H H'):∀ {vs:List V} {rows:List Row},vq H vs rows→vq H' vs rows
 | _,_,.nil=>.nil
 | _,_,.cons h r=>.cons (h.same s) (jp s r)
def Xk (q:Row):PyData:=.tuple [.tuple [.str q.1.1,.int q.1.2],.int q.2]
theorem zbp {v:V} {q:Row} (h:RowAt H v q):Dat K H v (Xk q):=by
 obtain ⟨r,p,rfl,h1,h2⟩:=h
 exact .tup (SqT.of h1) (.cons (.tup (SqT.of h2) (.cons (.str _) (.cons (.int _) .nil))) (.cons (.int _) .nil))
theorem V0:∀ {vs:List V} {rows:List Row},vq H vs rows→DatAll K H vs (rows.map Xk)
 | _,_,.nil=>.nil
 | _,_,.cons h r=>.cons (zbp h) (V0 r)
theorem qa {x:Str} (h:yF x=true):PyData.strOk x=true:=(QS h).flat
theorem qJ:∀ {rows:List Row},(∀ q∈rows,zcT q)→zY (rows.map Xk)=true
 | [],_=>by simp [zY]
 | q :: r,h=>by
  rw [List.map_cons,zY,qJ fun q hq=>h q (List.mem_cons_of_mem _ hq)]
  have:=qa (h q List.mem_cons_self)
  simp [Xk,zK,zY,this]
theorem Zy:∀ (rows:List Row),PyData.depthAll (rows.map Xk)≤2
 | []=>by simp [PyData.depthAll]
 | q :: r=>by
  have:=Zy r
  rw [List.map_cons,PyData.depthAll]
  simp [Xk,PyData.depth,PyData.depthAll]
  lia
theorem X8 {H:Hp} {v:V} {q:Row}:∀ {ys:List V} {rows:List Row},vq H ys rows→RowAt H v q→vq H (ys ++ [v]) (rows ++ [q])
 | _,_,.nil,h=>.cons h .nil
 | _,_,.cons a r,h=>.cons a (X8 r h)
theorem zau (rows:List Row):∃ qs:List Pl,(dOf rows).map (·.1)=qs.map zV∧qs.Nodup∧∀ p,p∈qs↔(z7 rows p).isSome=true:=by
 have h:=vo rows
 have:∀ (kvs:List (List Key × V)),(∀ kv∈kvs,∃ (p:Pl) (w:Int),kv=(zV p,.int w))→∃ qs:List Pl,kvs.map (·.1)=qs.map zV:=fun kvs=>by
  induction kvs with
  | nil=>exact fun _=>⟨[],rfl⟩
  | cons kv r ih =>
   intro hk
   obtain ⟨qs,e⟩:=ih fun z hz=>hk z (List.mem_cons_of_mem _ hz)
   obtain ⟨p,w,e2⟩:=hk kv List.mem_cons_self
   exact ⟨p :: qs,by rw [List.map_cons,List.map_cons,e,e2]⟩
 obtain ⟨qs,e⟩:=this _ h.2
 refine ⟨qs,e,xH (f:=zV) (by rw [← e];exact h.1),fun p=>?_⟩
 constructor
 ·intro hp
  have:zV p∈(dOf rows).map (·.1):=by rw [e];exact List.mem_map_of_mem hp
  obtain ⟨kv,hk,e1⟩:=List.mem_map.mp this
  obtain ⟨p',w,rfl,hw⟩:=mem_dOf.mp hk
  have:=xZ e1
  subst this
  rw [hw];rfl
 ·intro hp
  obtain ⟨w,hw⟩:=Option.isSome_iff_exists.mp hp
  have:zV p∈qs.map zV:=by rw [← e];exact List.mem_map_of_mem (f:=(·.1)) (mem_dOf.mpr ⟨p,w,rfl,hw⟩)
  obtain ⟨p',hp',e1⟩:=List.mem_map.mp this
  rw [← xZ e1];exact hp'
def X9 (rows:List Row) (p:Pl):Option Row:=match z7 rows p with
 | some w=>if w=0 then none else some (p,w)
 | none=>none
def zcp (rows:List Row) (qs:List Pl) (i:Nat) (ys:List V) (H:Hp):Prop:=∃ out:List Row,vq H ys out∧out=(qs.take i).filterMap (X9 rows)
theorem zbq {rows:List Row} {qs:List Pl} {i:Nat} {ys:List V} {H H':Hp} (s:X7 H H') (h:zcp rows qs i ys H):zcp rows qs i ys H':=by
 obtain ⟨out,h1,h2⟩:=h
 exact ⟨out,jN s h1,h2⟩
theorem toRow_iff {rows:List Row} {p:Pl} {b:Row}:X9 rows p=some b↔b.1=p∧z7 rows p=some b.2∧b.2≠0:=by
 unfold X9
 obtain ⟨p',w'⟩:=b
 cases e:z7 rows p with
 | none=>simp
 | some w =>
  by_cases h:w=0
  ·subst h
   simp only [if_true]
   constructor
   ·intro z;cases z
   ·rintro ⟨_,z,h2⟩
    exact absurd (Option.some.inj z).symm h2
  ·simp only [if_neg h,Option.some.injEq,Prod.mk.injEq]
   constructor
   ·rintro ⟨rfl,rfl⟩;exact ⟨rfl,rfl,h⟩
   ·rintro ⟨rfl,rfl,_⟩;exact ⟨rfl,rfl⟩
theorem zcq {rows:List Row} {ps:List Pl} (hw:ps.Pairwise fun a b=>z5 a b=true) (hm:∀ p,p∈ps↔(z7 rows p).isSome=true):kq rows (ps.filterMap (X9 rows)):=by
 constructor
 ·unfold Rising
  rw [List.pairwise_filterMap]
  refine hw.imp fun {a a'} h b hb b' hb'=>?_
  rw [(toRow_iff.mp hb).1,(toRow_iff.mp hb').1];exact h
 ·intro p w
  rw [List.mem_filterMap]
  constructor
  ·rintro ⟨a,_,h⟩
   obtain ⟨h1,h2,h3⟩:=toRow_iff.mp h
   cases h1
   exact ⟨h2,h3⟩
  ·rintro ⟨h1,h2⟩
   exact ⟨p,(hm p).mpr (by rw [h1];rfl),toRow_iff.mpr ⟨rfl,h1,h2⟩⟩
theorem zD {H H':Hp} {D:Addr} (s:Same H H') (h:H' D=none):H D=none:=by
 cases e:H D with
 | none=>rfl
 | some o=>rw [s _ _ e] at h;cases h
theorem Xl {a:Addr} {xs:List V} {rows:List Row} (h1:H a=some (.lst xs)) (h2:vq H xs rows) (h4:(dOf rows).length≤900) (h5:rows.length≤1000) (q:∀ l ys out H',Same H H'→H l=none→H' l=some (.lst ys)→vq H' ys out→kq rows out→Q (.ref l) H') :
  vW K t { nx:=fun _ H'=>Q .non H',rt:=Q } (L2.start ["rows","worths"] [.ref a]) H:=by
 simp only [vW,yC,Kl,ZG,L2.start,zq,zG,zl,zu,tOp,zc,tC,zS,zb,zi,zp,tCB,y7,ve,yQ,rNe,yn,List.map,List.replicate,List.length,List.append,jqa,jqb,jqc,jqd,jqe,jqf,jqg,jqh,jqi,jqj,jqk,jql,jqm,jqn,and_true,true_and,and_assoc,jqo,jqp,jqq,jqr,jqs,jqt,if_true,ite_true,jqu,ite_false,if_false]
 refine ⟨xs,h1,rows,h2,h5,fun d hd=>?_⟩
 have S:∀ u:HO,Same H (upd H d u):=fun u=>isV (o:=u) d hd
 obtain ⟨qs,hqs,nqs,mqs⟩:=zau rows
 have ld:=vf rows
 generalize hH0:upd H d (.dT (dOf rows))=H0
 have S0:Same H H0:=by rw [← hH0];exact S _
 have d0:H0 d=some (.dT (dOf rows)):=by rw [← hH0];exact zf
 refine ⟨dOf rows,d0,qs,hqs,by lia,fun l ps hl0 hperm hpw hps=>?_⟩
 obtain ⟨H1,eH,s1,q1⟩:=zaY (o:=HO.lst (ps.map fun n=>V.ref n.1)) hl0
 rw [← eH]
 clear eH
 refine ⟨⟨_,SqL.of q1⟩,fun D hD=>?_⟩
 refine VZ (J:=Itl K l) ps.length (by have:=hperm.length_eq;have:=congrArg List.length hqs;simp at *;lia) (fun τ=>∃ o,τ=[o,some (.ref d)]) (zcp rows (ps.map (·.2))) (fun i ys H H' s h=>zbq s h) ⟨_,rfl⟩ ⟨[],.nil,rfl⟩ (fun i H s h=>⟨_,_,SqL.of (s _ _ q1),List.getElem?_eq_getElem (by rw [List.length_map];exact h)⟩) (fun H s=>⟨_,SqL.of (s _ _ q1),by rw [List.length_map];exact Nat.le_refl _⟩) hD ?_ ?_
 ·rintro i v τ ys H4 H5 ⟨o,rfl⟩ s4 hi hR ⟨rfl,hv⟩
  have hv:=hv _ (SqL.of (s4 _ _ q1))
  rw [List.getElem?_map] at hv
  obtain ⟨n,hn,rfl⟩:=Option.map_eq_some_iff.mp hv
  have hp:=s4 _ _ (s1 _ _ (hps n (List.mem_of_getElem? hn)))
  simp only [yC,Kl,ZG,L2.start,zq,zG,zl,zu,tOp,zc,tC,zS,zb,zi,zp,tCB,y7,ve,yQ,rNe,yn,List.map,List.replicate,List.length,List.append,jqa,jqb,jqc,jqd,jqe,jqf,jqg,jqh,jqi,jqj,jqk,jql,jqm,jqn,and_true,true_and,and_assoc,jqo,jqp,jqq,jqr,jqs,jqt,if_true,ite_true,jqu,ite_false,if_false]
  have hm:n.2∈qs:=hperm.mem_iff.mp (List.mem_map_of_mem (List.mem_of_getElem? hn))
  obtain ⟨w,hw⟩:=Option.isSome_iff_exists.mp ((mqs n.2).mp hm)
  have g:DGet H5 d (.ref n.1) ((z7 rows n.2).map V.int):=.inr ⟨dOf rows,zV n.2,n.1,.inl (s4 _ _ (s1 _ _ d0)),rfl,hp,(q9 rows n.2).symm⟩
  rw [hw] at g
  have tk:(ps.map (·.2)).take (i + 1)=(ps.map (·.2)).take i ++ [n.2]:=by rw [List.take_add_one,List.getElem?_map,hn];rfl
  obtain ⟨out,hr,ho⟩:=hR
  refine ⟨_,g,rfl,yE (fun c=>⟨_,g,by decide,fun p hp2=>⟨⟨_,rfl⟩,?_,isV p hp2⟩⟩) fun c=>⟨⟨_,rfl⟩,?_,Same.refl _⟩⟩
  ·refine ⟨out ++ [(n.2,w)],X8 (jp (isV p hp2) hr) ⟨p,n.1,rfl,zf,isV p hp2 _ _ hp⟩,?_⟩
   have hw0:w≠0:=fun z=>c (by rw [z])
   rw [tk,List.filterMap_append,← ho]
   simp [X9,hw,hw0]
  ·refine ⟨out,hr,?_⟩
   have hw0:w=0:=by simpa using c
   rw [tk,List.filterMap_append,← ho]
   simp [X9,hw,hw0]
 ·rintro ys H4 hly ⟨out,hr,ho⟩ s4 hq
  refine q D ys out H4 (S0.trans (s1.trans s4)) (zD (S0.trans s1) hD) hq hr ?_
  rw [List.take_of_length_le (by rw [List.length_map];exact Nat.le_refl _)] at ho
  subst ho
  exact zcq hpw fun p=>(hperm.mem_iff.trans (mqs p))
theorem kI {p:Pl} {w:Int}:∀ {l:List Row},z7 l p=some w→(p,w)∈l
 | [],h=>by cases h
 | r :: t,h=>by
  rw [z7] at h
  cases e:z7 t p with
  | some w' =>
   rw [e] at h
   have:w'=w:=by simpa using h
   subst this
   exact List.mem_cons_of_mem _ (kI e)
  | none =>
   rw [e] at h
   by_cases c:r.1=p
   ·rw [if_pos c] at h
    have:r.2=w:=by simpa using h
    rw [← c,← this];exact List.mem_cons_self
   ·rw [if_neg c] at h;cases h
theorem LsAt.same {H H':Hp} {a:Addr} {rows:List Row} (h:LsAt H a rows) (s:Same H H'):LsAt H' a rows:=by
 obtain ⟨xs,h1,h2⟩:=h
 exact ⟨xs,s _ _ h1,jp s h2⟩
theorem wu {H1:Hp} {R b:Addr} {o:HO} (h:H1 R=some o) (hb:H1 b=none):b≠R:=fun z=>by rw [z,h] at hb;cases hb
theorem fin_err {t:Adr} {e:Er} {Q:VK} {E:XK} {H:Hp}:fin t (.error e) Q E H↔zaq t e E H:=by cases e <;> rfl
theorem fin_ok {t:Adr} {i:Int} {Q:VK} {E:XK} {H:Hp}:fin t (.ok i) Q E H↔Q (.int i) H:=Iff.rfl
theorem V1 {F:Addr→Prop} {v:V} {r:Rw} (h:RwAt F H v r) (d:YW r):∃ p xs hd,v=.ref p∧H p=some (.tup xs)∧atI xs 0=some (.str hd)∧hd≠"off"∧hd≠"if":=by
 cases r with
 | take sh e sl =>
  unfold RwAt at h
  obtain ⟨r,te,rfl,_,_,e2,e3⟩:=h
  exact ⟨r,_,_,rfl,e2,rfl,by decide +kernel,by decide +kernel⟩
 | give sh e f =>
  unfold RwAt at h
  obtain ⟨r,te,tf,rfl,_,_,_,e2,e3⟩:=h
  exact ⟨r,_,_,rfl,e2,rfl,by decide +kernel,by decide +kernel⟩
 | lt sl e =>
  unfold RwAt at h
  obtain ⟨r,te,rfl,_,_,e2,e3⟩:=h
  exact ⟨r,_,_,rfl,e2,rfl,by decide +kernel,by decide +kernel⟩
 | say e =>
  unfold RwAt at h
  obtain ⟨r,te,rfl,_,_,e2,e3⟩:=h
  exact ⟨r,_,_,rfl,e2,rfl,by decide +kernel,by decide +kernel⟩
 | off e=>exact d.elim
 | iff e a b=>exact d.elim
theorem doF {P:Str→Option Value} (T:Txt K P t):DoF K t:=⟨T.cl_Doing,T.na_Doing_slots,T.na_Doing_worths,T.na_Doing_sayings⟩
theorem DoAt.same {H0 H H':Hp} {x dx sl wo sa:Addr} {s:Sta} (D:DoAt t H0 H x dx sl wo sa s) (k:Same H H'):DoAt t H0 H' x dx sl wo sa s :=
 ⟨D.sm.trans k,D.f1,D.f2,D.f3,k _ _ D.ix,k _ _ D.hs,k _ _ D.hw,k _ _ D.ha⟩
theorem DoAt.putS {H0 H:Hp} {x dx sl wo sa:Addr} {s:Sta} (D:DoAt t H0 H x dx sl wo sa s) (kvs:List (Key × V)):DoAt t H0 (upd H sl (.dK kvs)) x dx sl wo sa { s with sl:=kvs } :=
 ⟨z8 D.sm D.f1,D.f1,D.f2,D.f3,by rw [zk (xF D.ix D.hs (fun z=>nomatch z))];exact D.ix,zf,by rw [zk (xF D.hw D.hs (fun z=>nomatch z))];exact D.hw,by rw [zk (xF D.ha D.hs (fun z=>nomatch z))];exact D.ha⟩
theorem DoAt.putW {H0 H:Hp} {x dx sl wo sa:Addr} {s:Sta} (D:DoAt t H0 H x dx sl wo sa s) (rows:List Row):DoAt t H0 (upd H wo (.dT (dOf rows))) x dx sl wo sa { s with wo:=rows } :=
 ⟨z8 D.sm D.f2,D.f1,D.f2,D.f3,by rw [zk (xF D.ix D.hw (fun z=>nomatch z))];exact D.ix,by rw [zk (xF D.hs D.hw (fun z=>nomatch z))];exact D.hs,zf,by rw [zk (xF D.ha D.hw (fun z=>nomatch z))];exact D.ha⟩
theorem DoAt.putA {H0 H:Hp} {x dx sl wo sa:Addr} {s:Sta} (D:DoAt t H0 H x dx sl wo sa s) (is:List Int):DoAt t H0 (upd H sa (.lst (is.map V.int))) x dx sl wo sa { s with sa:=is } :=
 ⟨z8 D.sm D.f3,D.f1,D.f2,D.f3,by rw [zk (xF D.ix D.ha (fun z=>nomatch z))];exact D.ix,by rw [zk (xF D.hs D.ha (fun z=>nomatch z))];exact D.hs,by rw [zk (xF D.hw D.ha (fun z=>nomatch z))];exact D.hw,zf⟩
theorem Y0 {x a:Addr} {tab:List Row} {H0:Hp} {dx:Addr} (F:DoF K t) (h1:Same H0 H) (h2:H0 x=none) (h3:H x=some (.ins t.c_Doing dx [])) (h4:LsAt H0 a tab) (h5:tab.length≤500)
  (q:∀ H' sl wo sa,DoAt t H0 H' x dx sl wo sa ⟨[],tab,[]⟩→Q .non H') :
  v9 K t { nx:=fun _ H'=>Q .non H',rt:=Q } (L2.start ["self","table"] [.ref x,.ref a]) H:=by
 simp only [v9,ZG,KL,xt,L2.start,zq,zc,yS,zb,zi,tCB,Yp,List.map,List.replicate,List.length,List.append,jqa,jqb,jqc,jqd,jqe,jqf,jqg,jqh,jqi,jqj,jqk,jql,jqm,jqn,and_true,true_and,and_assoc,jqo,jqp,jqq,jqr,jqs,jqt,if_true,ite_true,jqu,ite_false,if_false]
 intro sl hsl
 obtain ⟨xs,hx,rx⟩:=h4
 have nsl:x≠sl:=zE h3 hsl
 have fsl:H0 sl=none:=zD h1 hsl
 refine ⟨_,_,_,(by rw [zk nsl];exact h3),F.cl,F.n1,by decide,?_⟩
 have S2:Same H0 (upd (upd H sl (.dK [])) x (.ins t.c_Doing dx (xt "slots" (.ref sl) []))):=z8 (z8 h1 fsl) h2
 have x2:upd (upd H sl (.dK [])) x (.ins t.c_Doing dx (xt "slots" (.ref sl) [])) x=some (.ins t.c_Doing dx (xt "slots" (.ref sl) [])):=zf
 have l2:upd (upd H sl (.dK [])) x (.ins t.c_Doing dx (xt "slots" (.ref sl) [])) sl=some (.dK []):=by rw [zk (Ne.symm nsl),zf]
 generalize upd (upd H sl (.dK [])) x (.ins t.c_Doing dx (xt "slots" (.ref sl) []))=H2 at *
 refine ⟨xs,S2 _ _ hx,tab,jp S2 rx,by lia,fun wo hwo=>?_⟩
 have nwo:x≠wo:=zE x2 hwo
 have fwo:H0 wo=none:=zD S2 hwo
 refine ⟨_,_,_,(by rw [zk nwo];exact x2),F.cl,F.n2,(by simp [xt]),Nat.zero_le _,?_⟩
 have S3:Same H0 (upd (upd H2 wo (.dT (dOf tab))) x (.ins t.c_Doing dx (xt "worths" (.ref wo) (xt "slots" (.ref sl) [])))):=z8 (z8 S2 fwo) h2
 have x3:upd (upd H2 wo (.dT (dOf tab))) x (.ins t.c_Doing dx (xt "worths" (.ref wo) (xt "slots" (.ref sl) []))) x=some (.ins t.c_Doing dx (xt "worths" (.ref wo) (xt "slots" (.ref sl) []))):=zf
 have l3:upd (upd H2 wo (.dT (dOf tab))) x (.ins t.c_Doing dx (xt "worths" (.ref wo) (xt "slots" (.ref sl) []))) sl=some (.dK []):=by rw [zk (Ne.symm nsl),zk (zE l2 hwo)];exact l2
 have w3:upd (upd H2 wo (.dT (dOf tab))) x (.ins t.c_Doing dx (xt "worths" (.ref wo) (xt "slots" (.ref sl) []))) wo=some (.dT (dOf tab)):=by rw [zk (Ne.symm nwo),zf]
 generalize upd (upd H2 wo (.dT (dOf tab))) x (.ins t.c_Doing dx (xt "worths" (.ref wo) (xt "slots" (.ref sl) [])))=H3 at *
 intro sa hsa
 have nsa:x≠sa:=zE x3 hsa
 refine ⟨_,_,_,(by rw [zk nsa];exact x3),F.cl,F.n3,(by simp [xt];split <;> simp),q _ sl wo sa ⟨z8 (z8 S3 (zD S3 hsa)) h2,fsl,fwo,zD S3 hsa,zf,?_,?_,?_⟩⟩
 ·rw [zk (Ne.symm nsl),zk (zE l3 hsa)];exact l3
 ·rw [zk (Ne.symm nwo),zk (zE w3 hsa)];exact w3
 ·rw [zk (Ne.symm nsa),zf];rfl
theorem qK {x tm:Addr} {e:List V} {H0:Hp} {dx sl wo sa:Addr} {s:Sta} {E:XK} (F:DoF K t) (D:DoAt t H0 H x dx sl wo sa s) (h2:xy s.sl) (h3:H tm=some (.tup e)) (h4:TermOk e)
  (q:∀ H',Same H H'→fin t (rk s.sl e) Q E H'):wt K t E { nx:=fun _ H'=>Q .non H',rt:=Q } (L2.start ["self","term"] [.ref x,.ref tm]) H:=by
 simp only [wt,kt,vM,L2.start,zu,zc,zb,zi,zm,List.map,List.replicate,List.length,List.append,jqa,jqb,jqc,jqd,jqe,jqf,jqg,jqh,jqi,jqj,jqk,jql,jqm,jqn,and_true,true_and,and_assoc,jqo,jqp,jqq,jqr,jqs,jqt,if_true,ite_true,jqu,ite_false,if_false]
 exact ⟨_,_,_,D.ix,F.cl,F.n1,_,rfl,s.sl,_,rfl,e,h3,D.hs,_,h4.good s.sl,h4.2.1,h4.2.2,h2,q⟩
theorem Y1 {x:Addr} {v:V} {r:Rw} {m:Nat} {H0:Hp} {dx sl wo sa:Addr} {s:Sta} {E:XK} (F:DoF K t) (D:DoAt t H0 H x dx sl wo sa s) (h1:RwAt Zu H0 v r) (h2:YW r) (h3:wW r) (h4:StOk m s) (h5:m≤900)
  (q1:∀ H' s',goR r s=.go s'→DoAt t H0 H' x dx sl wo sa s'→Q .non H') (q2:∀ H' e,goR r s=.er e→Same H0 H'→zaq t e E H') :
  xr K t E { nx:=fun _ H'=>Q .non H',rt:=Q } (L2.start ["self","row","place"] [.ref x,v]) H:=by
 cases r with
 | take sh e sl' =>
  unfold RwAt at h1
  unfold wW at h3
  obtain ⟨r,te,rfl,_,_,e2,e3⟩:=h1
  have e2:=D.sm _ _ e2
  have e3:=D.sm _ _ e3
  simp only [xr,xj,zW,vM,y6,L2.start,zW,zn,zP,zT,zq,zG,zl,zR,tOp,zc,tC,zS,zb,zi,zA,zp,tBM,tyV,zT,rEq,yn,List.map,List.replicate,List.length,List.append,jqa,jqb,jqc,jqd,jqe,jqf,jqg,jqh,jqi,jqj,jqk,jql,jqm,jqn,and_true,true_and,and_assoc,jqo,jqp,jqq,jqr,jqs,jqt,if_true,ite_true,jqu,ite_false,if_false]
  refine ⟨_,SqT.of e2,_,rfl,rfl,?_⟩
  rw [if_pos rfl]
  simp only [j6,zH,xj,zW,vM,y6,L2.start,zW,zn,zP,zT,zq,zG,zl,zR,tOp,zc,tC,zS,zb,zi,zA,zp,tBM,tyV,zT,rEq,yn,List.map,List.replicate,List.length,List.append,jqa,jqb,jqc,jqd,jqe,jqf,jqg,jqh,jqi,jqj,jqk,jql,jqm,jqn,and_true,true_and,and_assoc,jqo,jqp,jqq,jqr,jqs,jqt,if_true,ite_true,jqu,ite_false,if_false]
  refine ⟨_,_,_,D.ix,F.cl,F.n2,_,rfl,_,rfl,.inr ⟨_,.inl D.hw⟩,_,SqT.of e2,_,rfl,?_⟩
  refine ⟨_,_,D.ix,rfl,_,SqT.of e2,_,rfl,_,rfl,e,H0,dx,sl,wo,sa,s,D,h4.so,e3,h3,fun H1 s1=>?_⟩
  cases hk:rk s.sl e with
  | error er=>exact fin_err.mpr (q2 H1 er (by unfold goR;rw [hk]) (D.sm.trans s1))
  | ok n =>
   refine fin_ok.mpr ⟨by decide,fun p hp=>?_⟩
   have s2:=isV (o:=HO.tup [V.str sh,V.int n]) p hp
   have D2:=D.same (s1.trans s2)
   refine ⟨(z7 s.wo (sh,n)).map V.int,.inr ⟨dOf s.wo,zV (sh,n),p,.inl D2.hw,rfl,zf,(q9 _ _).symm⟩,?_⟩
   have hv:(Option.map V.int (z7 s.wo (sh,n))).getD (V.int 0)=V.int ((z7 s.wo (sh,n)).getD 0):=by cases z7 s.wo (sh,n) <;> rfl
   rw [hv]
   have l1:=h4.l1
   exact ⟨_,_,_,D2.ix,F.cl,F.n1,_,rfl,_,SqT.of ((s1.trans s2) _ _ e2),_,rfl,_,rfl,_,DPut.k (k:=.inr sl') D2.hs (Nat.lt_of_le_of_lt (by lia:_≤900) (by decide)),q1 _ _ (by unfold goR;rw [hk]) (D2.putS _)⟩
 | give sh e f =>
  unfold RwAt at h1
  unfold wW at h3
  obtain ⟨r,te,tf,rfl,_,_,_,e2,e3,e4⟩:=h1
  have e2:=D.sm _ _ e2
  have e3:=D.sm _ _ e3
  have e4:=D.sm _ _ e4
  simp only [xr,xj,zW,vM,y6,L2.start,zW,zn,zP,zT,zq,zG,zl,zR,tOp,zc,tC,zS,zb,zi,zA,zp,tBM,tyV,zT,rEq,yn,List.map,List.replicate,List.length,List.append,jqa,jqb,jqc,jqd,jqe,jqf,jqg,jqh,jqi,jqj,jqk,jql,jqm,jqn,and_true,true_and,and_assoc,jqo,jqp,jqq,jqr,jqs,jqt,if_true,ite_true,jqu,ite_false,if_false]
  refine ⟨_,SqT.of e2,_,rfl,rfl,?_⟩
  rw [if_neg (by decide)]
  refine ⟨_,SqT.of e2,_,rfl,rfl,?_⟩
  rw [if_pos rfl]
  simp only [j5,zH,xj,zW,vM,y6,L2.start,zW,zn,zP,zT,zq,zG,zl,zR,tOp,zc,tC,zS,zb,zi,zA,zp,tBM,tyV,zT,rEq,yn,List.map,List.replicate,List.length,List.append,jqa,jqb,jqc,jqd,jqe,jqf,jqg,jqh,jqi,jqj,jqk,jql,jqm,jqn,and_true,true_and,and_assoc,jqo,jqp,jqq,jqr,jqs,jqt,if_true,ite_true,jqu,ite_false,if_false]
  refine ⟨_,SqT.of e2,_,rfl,_,_,D.ix,rfl,_,SqT.of e2,_,rfl,_,rfl,e,H0,dx,sl,wo,sa,s,D,h4.so,e3,h3.1,fun H1 s1=>?_⟩
  cases hk:rk s.sl e with
  | error er=>exact fin_err.mpr (q2 H1 er (by unfold goR;rw [hk]) (D.sm.trans s1))
  | ok n =>
   refine fin_ok.mpr ⟨by decide,fun p hp=>?_⟩
   have s2:=isV (o:=HO.tup [V.str sh,V.int n]) p hp
   have D2:=D.same (s1.trans s2)
   have S2:=s1.trans s2
   simp only [j4,zH,xj,zW,vM,y6,L2.start,zW,zn,zP,zT,zq,zG,zl,zR,tOp,zc,tC,zS,zb,zi,zA,zp,tBM,tyV,zT,rEq,yn,List.map,List.replicate,List.length,List.append,jqa,jqb,jqc,jqd,jqe,jqf,jqg,jqh,jqi,jqj,jqk,jql,jqm,jqn,and_true,true_and,and_assoc,jqo,jqp,jqq,jqr,jqs,jqt,if_true,ite_true,jqu,ite_false,if_false]
   refine ⟨_,_,D2.ix,rfl,_,SqT.of (S2 _ _ e2),_,rfl,_,rfl,f,H0,dx,sl,wo,sa,s,D2,h4.so,S2 _ _ e4,h3.2,fun H3 s3=>?_⟩
   cases hk2:rk s.sl f with
   | error er=>exact fin_err.mpr (q2 H3 er (by unfold goR;rw [hk];simp only [hk2]) (D2.sm.trans s3))
   | ok w =>
    have D3:=D2.same s3
    have l2:=h4.l2
    have ld:=vf s.wo
    refine fin_ok.mpr ⟨_,_,_,D3.ix,F.cl,F.n2,_,rfl,_,rfl,_,DPut.t (k:=zV (sh,n)) D3.hw (s3 _ _ zf) (Nat.lt_of_le_of_lt (by lia:_≤900) (by decide)),?_⟩
    rw [show yT (dOf s.wo) (zV (sh,n)) (V.int w)=dOf (s.wo ++ [((sh,n),w)]) from (Za s.wo ((sh,n),w)).symm]
    exact q1 _ _ (by unfold goR;rw [hk];simp only [hk2]) (D3.putW _)
 | lt sl' e =>
  unfold RwAt at h1
  unfold wW at h3
  obtain ⟨r,te,rfl,_,_,e2,e3⟩:=h1
  have e2:=D.sm _ _ e2
  have e3:=D.sm _ _ e3
  simp only [xr,xj,zW,vM,y6,L2.start,zW,zn,zP,zT,zq,zG,zl,zR,tOp,zc,tC,zS,zb,zi,zA,zp,tBM,tyV,zT,rEq,yn,List.map,List.replicate,List.length,List.append,jqa,jqb,jqc,jqd,jqe,jqf,jqg,jqh,jqi,jqj,jqk,jql,jqm,jqn,and_true,true_and,and_assoc,jqo,jqp,jqq,jqr,jqs,jqt,if_true,ite_true,jqu,ite_false,if_false]
  refine ⟨_,SqT.of e2,_,rfl,rfl,?_⟩
  rw [if_neg (by decide)]
  refine ⟨_,SqT.of e2,_,rfl,rfl,?_⟩
  rw [if_neg (by decide)]
  refine ⟨_,SqT.of e2,_,rfl,rfl,?_⟩
  rw [if_pos rfl]
  simp only [j0,zH,xj,zW,vM,y6,L2.start,zW,zn,zP,zT,zq,zG,zl,zR,tOp,zc,tC,zS,zb,zi,zA,zp,tBM,tyV,zT,rEq,yn,List.map,List.replicate,List.length,List.append,jqa,jqb,jqc,jqd,jqe,jqf,jqg,jqh,jqi,jqj,jqk,jql,jqm,jqn,and_true,true_and,and_assoc,jqo,jqp,jqq,jqr,jqs,jqt,if_true,ite_true,jqu,ite_false,if_false]
  refine ⟨_,_,D.ix,rfl,_,SqT.of e2,_,rfl,_,rfl,e,H0,dx,sl,wo,sa,s,D,h4.so,e3,h3,fun H1 s1=>?_⟩
  cases hk:rk s.sl e with
  | error er=>exact fin_err.mpr (q2 H1 er (by unfold goR;rw [hk]) (D.sm.trans s1))
  | ok n =>
   have D2:=D.same s1
   have l1:=h4.l1
   exact fin_ok.mpr ⟨_,_,_,D2.ix,F.cl,F.n1,_,rfl,_,SqT.of (s1 _ _ e2),_,rfl,_,rfl,_,DPut.k (k:=.inr sl') D2.hs (Nat.lt_of_le_of_lt (by lia:_≤900) (by decide)),q1 _ _ (by unfold goR;rw [hk]) (D2.putS _)⟩
 | say e =>
  unfold RwAt at h1
  unfold wW at h3
  obtain ⟨r,te,rfl,_,_,e2,e3⟩:=h1
  have e2:=D.sm _ _ e2
  have e3:=D.sm _ _ e3
  simp only [xr,xj,zW,vM,y6,L2.start,zW,zn,zP,zT,zq,zG,zl,zR,tOp,zc,tC,zS,zb,zi,zA,zp,tBM,tyV,zT,rEq,yn,List.map,List.replicate,List.length,List.append,jqa,jqb,jqc,jqd,jqe,jqf,jqg,jqh,jqi,jqj,jqk,jql,jqm,jqn,and_true,true_and,and_assoc,jqo,jqp,jqq,jqr,jqs,jqt,if_true,ite_true,jqu,ite_false,if_false]
  refine ⟨_,SqT.of e2,_,rfl,rfl,?_⟩
  rw [if_neg (by decide)]
  refine ⟨_,SqT.of e2,_,rfl,rfl,?_⟩
  rw [if_neg (by decide)]
  refine ⟨_,SqT.of e2,_,rfl,rfl,?_⟩
  rw [if_neg (by decide)]
  simp only [j3,zH,xj,zW,vM,y6,L2.start,zW,zn,zP,zT,zq,zG,zl,zR,tOp,zc,tC,zS,zb,zi,zA,zp,tBM,tyV,zT,rEq,yn,List.map,List.replicate,List.length,List.append,jqa,jqb,jqc,jqd,jqe,jqf,jqg,jqh,jqi,jqj,jqk,jql,jqm,jqn,and_true,true_and,and_assoc,jqo,jqp,jqq,jqr,jqs,jqt,if_true,ite_true,jqu,ite_false,if_false]
  refine ⟨_,_,_,D.ix,F.cl,F.n3,_,rfl,.inl ⟨_,SqL.of D.ha⟩,_,_,D.ix,rfl,_,SqT.of e2,_,rfl,_,rfl,e,H0,dx,sl,wo,sa,s,D,h4.so,e3,h3,fun H1 s1=>?_⟩
  cases hk:rk s.sl e with
  | error er=>exact fin_err.mpr (q2 H1 er (by unfold goR;rw [hk]) (D.sm.trans s1))
  | ok n =>
   have D2:=D.same s1
   have l3:=h4.l3
   have e:s.sa.map V.int ++ [V.int n]=(s.sa ++ [n]).map V.int:=by simp
   refine fin_ok.mpr ⟨_,rfl,_,D2.ha,Nat.lt_of_le_of_lt (by rw [List.length_map];lia:_≤900) (by decide),?_⟩
   rw [e]
   exact q1 _ _ (by unfold goR;rw [hk]) (D2.putA _)
 | off e=>exact h2.elim
 | iff e a b=>exact h2.elim
theorem ww {vs:List V} {H:Hp} {Q:VK} {E:XK} (h:yb t 0 vs H Q E):False:=by
 obtain ⟨_,_,_,_,_,_,_,_,_,_,_,_,_,_,_,_,h,_⟩:=h
 exact Nat.not_lt_zero _ h
def goI (t:Adr) (x l dx sl wo sa:Addr) (xs:List V) (rws:Rws) (s:Sta) (n:Nat) (H0:Hp) (i:Nat) (σ:St) (H':Hp):Prop:=∃ (s':Sta) (rest:Rws) (m:Nat),(∃ o,σ=[some (.ref x),some (.ref l),o])∧DoAt t H0 H' x dx sl wo sa s'∧RwsAt Zu H0 (xs.drop i) rest∧yJ rest∧rest.deep < n + 1∧StOk m s'∧m + rest.cnt≤900∧yM rws s=yM rest s'
theorem zbS {a b c n:Nat} (h:max (max a b + 1) c < n + 1):a < n∧b < n:=by lia
theorem zcU {m a b c:Nat} (h:m + (max a b + 1 + c)≤900):m + a≤900∧m + b≤900:=by lia
theorem jO {x l:Addr} {xs:List V} {rws:Rws} {m n:Nat} {H0:Hp} {dx sl wo sa:Addr} {s:Sta} {E:XK} (F:DoF K t) (D:DoAt t H0 H x dx sl wo sa s) (h1:H0 l=some (.lst xs)) (h2:RwsAt Zu H0 xs rws) (h3:yJ rws) (h4:rws.deep < n + 1) (h5:StOk m s) (h6:m + rws.cnt≤900)
  (q1:∀ H' s',yM rws s=.go s'→DoAt t H0 H' x dx sl wo sa s'→Q (.bl true) H') (q2:∀ H',yM rws s=.off→Same H0 H'→Q (.bl false) H') (q3:∀ H' e,yM rws s=.er e→Same H0 H'→zaq t e E H') :
  xu K t n E { nx:=fun _ H'=>Q .non H',rt:=Q } (L2.start ["self","rows","row"] [.ref x,.ref l]) H:=by
 simp only [xu,y6,L2.start,zT,zq,zl,zu,zR,zx,tOp,zc,tC,zb,zi,ym,zA,xv,zp,tB,tIf,yQ,zT,rEq,rNe,yn,List.map,List.replicate,List.length,List.append,jqa,jqb,jqc,jqd,jqe,jqf,jqg,jqh,jqi,jqj,jqk,jql,jqm,jqn,and_true,true_and,and_assoc,jqo,jqp,jqq,jqr,jqs,jqt,if_true,ite_true,jqu,ite_false,if_false]
 refine ⟨⟨_,SqL.of (D.sm _ _ h1)⟩,jj xs (goI t x l dx sl wo sa xs rws s n H0) ⟨s,rws,m,⟨_,rfl⟩,D,by rw [List.drop_zero];exact h2,h3,h4,h5,h6,rfl⟩ (fun i σ H' ⟨s',rest,m,_,D',_⟩=>SqL.of (D'.sm _ _ h1)) ?_ ?_⟩
 ·rintro i v σ H' hv ⟨s',rest,m,⟨o,rfl⟩,D',hr,ok,dp,st,ct,ge⟩
  obtain ⟨r,rs,rfl,rx,rr⟩:=hr.get hv
  unfold yJ at ok
  have c1:(Rws.cons r rs).deep=max r.deep rs.deep:=by rw [Rws.deep]
  have c2:(Rws.cons r rs).cnt=r.cnt + rs.cnt:=by rw [Rws.cnt]
  rw [c1] at dp
  rw [c2] at ct
  have go:∀ s'',goR r s'=.go s''→yM rws s=yM rs s'':=fun s'' z=>by rw [ge,yM,z]
  have nx:∀ (s'':Sta) (H'':Hp) (o':Option V),goR r s'=.go s''→DoAt t H0 H'' x dx sl wo sa s''→goI t x l dx sl wo sa xs rws s n H0 (i + 1) [some (.ref x),some (.ref l),o'] H'':=fun s'' H'' o' z D''=>⟨s'',rs,m + r.cnt,⟨_,rfl⟩,D'',rr,ok.2,by lia,Jz r st ok.1 z,by lia,go s'' z⟩
  have er:∀ e,goR r s'=.er e→yM rws s=.er e:=fun e z=>by rw [ge,yM,z]
  have of:goR r s'=.off→yM rws s=.off:=fun z=>by rw [ge,yM,z]
  rcases Classical.em (YW r) with hD | hD
  ·obtain ⟨p,ws,hd,rfl,e2,e3,n1,n2⟩:=V1 rx hD
   have e2:=D'.sm _ _ e2
   simp only [yt,y6,L2.start,zT,zq,zl,zu,zR,zx,tOp,zc,tC,zb,zi,ym,zA,xv,zp,tB,tIf,yQ,zT,rEq,rNe,yn,List.map,List.replicate,List.length,List.append,jqa,jqb,jqc,jqd,jqe,jqf,jqg,jqh,jqi,jqj,jqk,jql,jqm,jqn,and_true,true_and,and_assoc,jqo,jqp,jqq,jqr,jqs,jqt,if_true,ite_true,jqu,ite_false,if_false]
   refine ⟨_,SqT.of e2,_,e3,rfl,?_⟩
   rw [if_neg (fun z=>n1 (V.str.inj z))]
   refine ⟨_,SqT.of e2,_,e3,rfl,?_⟩
   rw [if_neg (fun z=>n2 (V.str.inj z))]
   simp only [wg,vY,y6,L2.start,zT,zq,zl,zu,zR,zx,tOp,zc,tC,zb,zi,ym,zA,xv,zp,tB,tIf,yQ,zT,rEq,rNe,yn,List.map,List.replicate,List.length,List.append,jqa,jqb,jqc,jqd,jqe,jqf,jqg,jqh,jqi,jqj,jqk,jql,jqm,jqn,and_true,true_and,and_assoc,jqo,jqp,jqq,jqr,jqs,jqt,if_true,ite_true,jqu,ite_false,if_false]
   exact ⟨_,_,D'.ix,rfl,r,m,H0,dx,sl,wo,sa,s',D',rx,hD,ok.1,st,by lia,fun H1 s1 z D1=>nx s1 H1 _ z D1,fun H1 e z sm=>q3 H1 e (er e z) sm⟩
  cases r with
  | take sh e sl'=>exact (hD trivial).elim
  | give sh e f=>exact (hD trivial).elim
  | lt sl' e=>exact (hD trivial).elim
  | say e=>exact (hD trivial).elim
  | off e =>
   unfold RwAt at rx
   have ok1:=ok.1
   unfold wW at ok1
   obtain ⟨r,te,rfl,_,_,e2,e3⟩:=rx
   have e2:=D'.sm _ _ e2
   have e3:=D'.sm _ _ e3
   simp only [yt,y6,L2.start,zT,zq,zl,zu,zR,zx,tOp,zc,tC,zb,zi,ym,zA,xv,zp,tB,tIf,yQ,zT,rEq,rNe,yn,List.map,List.replicate,List.length,List.append,jqa,jqb,jqc,jqd,jqe,jqf,jqg,jqh,jqi,jqj,jqk,jql,jqm,jqn,and_true,true_and,and_assoc,jqo,jqp,jqq,jqr,jqs,jqt,if_true,ite_true,jqu,ite_false,if_false]
   refine ⟨_,SqT.of e2,_,rfl,rfl,?_⟩
   rw [if_pos rfl]
   simp only [wj,zH,y6,L2.start,zT,zq,zl,zu,zR,zx,tOp,zc,tC,zb,zi,ym,zA,xv,zp,tB,tIf,yQ,zT,rEq,rNe,yn,List.map,List.replicate,List.length,List.append,jqa,jqb,jqc,jqd,jqe,jqf,jqg,jqh,jqi,jqj,jqk,jql,jqm,jqn,and_true,true_and,and_assoc,jqo,jqp,jqq,jqr,jqs,jqt,if_true,ite_true,jqu,ite_false,if_false]
   refine ⟨_,_,D'.ix,rfl,_,SqT.of e2,_,rfl,_,rfl,e,H0,dx,sl,wo,sa,s',D',st.so,e3,ok1,fun H1 s1=>?_⟩
   cases hk:rk s'.sl e with
   | error x=>exact fin_err.mpr (q3 H1 x (er x (by unfold goR;rw [hk])) (D'.sm.trans s1))
   | ok k =>
    refine fin_ok.mpr ⟨rfl,?_⟩
    by_cases h0:k=0
    ·rw [if_neg (by rw [h0];simp)]
     exact nx s' H1 _ (by unfold goR;rw [hk];simp only [if_pos h0]) (D'.same s1)
    ·rw [if_pos (by simpa using h0)]
     exact q2 H1 (of (by unfold goR;rw [hk];simp only [if_neg h0])) (D'.sm.trans s1)
  | iff e a b =>
   unfold RwAt at rx
   have ok1:=ok.1
   unfold wW at ok1
   obtain ⟨r,te,la,lb,as,bs,rfl,_,_,_,_,e2,e3,e4,e5,e6,e7⟩:=rx
   have e2:=D'.sm _ _ e2
   have e3:=D'.sm _ _ e3
   have c3:(Rw.iff e a b).deep=max a.deep b.deep + 1:=by rw [Rw.deep]
   have c4:(Rw.iff e a b).cnt=max a.cnt b.cnt + 1:=by rw [Rw.cnt]
   rw [c3] at dp
   rw [c4] at ct
   simp only [yt,y6,L2.start,zT,zq,zl,zu,zR,zx,tOp,zc,tC,zb,zi,ym,zA,xv,zp,tB,tIf,yQ,zT,rEq,rNe,yn,List.map,List.replicate,List.length,List.append,jqa,jqb,jqc,jqd,jqe,jqf,jqg,jqh,jqi,jqj,jqk,jql,jqm,jqn,and_true,true_and,and_assoc,jqo,jqp,jqq,jqr,jqs,jqt,if_true,ite_true,jqu,ite_false,if_false]
   refine ⟨_,SqT.of e2,_,rfl,rfl,?_⟩
   rw [if_neg (by decide)]
   refine ⟨_,SqT.of e2,_,rfl,rfl,?_⟩
   rw [if_pos rfl]
   simp only [wf,zH,yb,y6,L2.start,zT,zq,zl,zu,zR,zx,tOp,zc,tC,zb,zi,ym,zA,xv,zp,tB,tIf,yQ,zT,rEq,rNe,yn,List.map,List.replicate,List.length,List.append,jqa,jqb,jqc,jqd,jqe,jqf,jqg,jqh,jqi,jqj,jqk,jql,jqm,jqn,and_true,true_and,and_assoc,jqo,jqp,jqq,jqr,jqs,jqt,if_true,ite_true,jqu,ite_false,if_false]
   refine ⟨_,_,D'.ix,rfl,_,_,D'.ix,rfl,_,SqT.of e2,_,rfl,_,rfl,e,H0,dx,sl,wo,sa,s',D',st.so,e3,ok1.1,fun H1 s1=>?_⟩
   cases hk:rk s'.sl e with
   | error x=>exact fin_err.mpr (q3 H1 x (er x (by unfold goR;rw [hk])) (D'.sm.trans s1))
   | ok k =>
    refine fin_ok.mpr ⟨rfl,?_⟩
    by_cases h0:k=0
    ·have gb:goR (.iff e a b) s'=yM b s':=by rw [goR,hk];simp only [if_pos h0]
     rw [if_neg (by rw [h0];simp)]
     refine ⟨_,SqT.of (s1 _ _ e2),_,rfl,_,rfl,bs,b,m,H0,dx,sl,wo,sa,s',D'.same s1,e6,e7,ok1.2.2,(zbS dp).2,st,(zcU ct).2,fun H2 s2 g D2=>?_,fun H2 g sm=>?_,fun H2 x g sm=>q3 H2 x (er x (gb.trans g)) sm⟩
     ·rw [if_neg (by decide)]
      exact nx s2 H2 _ (gb.trans g) D2
     ·exact q2 H2 (of (gb.trans g)) sm
    ·have gb:goR (.iff e a b) s'=yM a s':=by rw [goR,hk];simp only [if_neg h0]
     rw [if_pos (by simpa using h0)]
     refine ⟨_,SqT.of (s1 _ _ e2),_,rfl,_,rfl,as,a,m,H0,dx,sl,wo,sa,s',D'.same s1,e4,e5,ok1.2.1,(zbS dp).1,st,(zcU ct).1,fun H2 s2 g D2=>?_,fun H2 g sm=>?_,fun H2 x g sm=>q3 H2 x (er x (gb.trans g)) sm⟩
     ·rw [if_neg (by decide)]
      exact nx s2 H2 _ (gb.trans g) D2
     ·exact q2 H2 (of (gb.trans g)) sm
 ·rintro σ H' ⟨s',rest,m,⟨o,rfl⟩,D',hr,ok,dp,st,ct,ge⟩
  have e:=hr.none
  subst e
  exact q1 H' s' (by rw [ge];unfold yM;rfl) D'
theorem Xm {c j:Int} (h1:0≤j) (h2:j≤1000) (q:∀ r H',0≤r→r < 2147483648→Same H H'→Q (.int r) H') :
  jH K t { nx:=fun _ H'=>Q .non H',rt:=Q } (L2.start ["cell","j","far"] [.int c,.int j]) H:=by
 simp only [jH,L2.start,zq,zG,zl,zu,tOp,zc,tC,rI,rI0,List.map,List.replicate,List.length,List.append,jqa,jqb,jqc,jqd,jqe,jqf,jqg,jqh,jqi,jqj,jqk,jql,jqm,jqn,and_true,true_and,and_assoc,jqo,jqp,jqq,jqr,jqs,jqt,if_true,ite_true,jqu,ite_false,if_false]
 have hb:(10000000000000000000000000000000000000000000000:Int) < big:=by decide +kernel
 have g1:=Int.emod_nonneg c (b:=1000000007) (by decide)
 have g2:=Int.emod_lt_of_pos c (b:=1000000007) (by decide)
 generalize c % 1000000007=a at *
 have g3:=Int.emod_nonneg (a * 6700417 + (j + 1) * 104729 * 65537) (b:=1000000009) (by decide)
 have g4:=Int.emod_lt_of_pos (a * 6700417 + (j + 1) * 104729 * 65537) (b:=1000000009) (by decide)
 generalize hf:(a * 6700417 + (j + 1) * 104729 * 65537) % 1000000009=f at *
 have g5:=Int.emod_nonneg (f * f) (b:=1000000009) (by decide)
 have g6:=Int.emod_lt_of_pos (f * f) (b:=1000000009) (by decide)
 generalize hg:f * f % 1000000009=g at *
 have g7:=Int.emod_nonneg (g * f) (b:=1000000009) (by decide)
 have g8:=Int.emod_lt_of_pos (g * f) (b:=1000000009) (by decide)
 refine ⟨by decide,⟨⟨by lia,by lia⟩,by lia,by lia⟩,⟨⟨by lia,by lia⟩,by lia,by lia⟩,⟨⟨by lia,by lia⟩,by lia,by lia⟩,by decide,?_⟩
 refine ⟨⟨⟨by lia,by lia⟩,by lia,by lia⟩,by decide,⟨⟨by lia,by lia⟩,by lia,by lia⟩,by decide,dB,q _ _ ?_ ?_ (Same.refl H)⟩
 ·exact Int.ediv_nonneg g7 (by decide)
 ·lia
theorem Y2 {w:Str} {a:Addr} {tab:List Row} (h1:LsAt H a tab) (q:∀ r o l H',Same H H'→H l=none→H' r=some (.tup [o,.ref l])→qd H' o (.off w)→LsAt H' l tab→Q (.ref r) H') :
  jb K t { nx:=fun _ H'=>Q .non H',rt:=Q } (L2.start ["why","table"] [.str w,.ref a]) H:=by
 simp only [jb,L2.start,KW,zu,zc,tC,zS,zb,zi,tCB,List.map,List.replicate,List.length,List.append,jqa,jqb,jqc,jqd,jqe,jqf,jqg,jqh,jqi,jqj,jqk,jql,jqm,jqn,and_true,true_and,and_assoc,jqo,jqp,jqq,jqr,jqs,jqt,if_true,ite_true,jqu,ite_false,if_false]
 obtain ⟨xs,hx,rx⟩:=h1
 refine ⟨by decide,fun o ho=>?_⟩
 have s1:=isV (o:=HO.tup [V.str (Str.ofString "off"),V.str w]) o ho
 refine ⟨xs,.inl (SqL.of (s1 _ _ hx)),fun l hl=>⟨by decide,fun r hr=>?_⟩⟩
 have s2:=isV (o:=HO.lst xs) l hl
 have s3:=isV (o:=HO.tup [V.ref o,V.ref l]) r hr
 have S:=s1.trans (s2.trans s3)
 exact q r (.ref o) l _ S (zD s1 hl) zf ⟨o,rfl,s3 _ _ (s2 _ _ zf)⟩ ⟨xs,s3 _ _ zf,jp S rx⟩
theorem WL {a:Addr} {rows:List Row} (h1:LsAt H a rows) (h2:(dOf rows).length≤900) (h3:rows.length≤1000) (q:∀ l out H',Same H H'→H l=none→LsAt H' l out→kq rows out→Q (.ref l) H') :
  vW K t { nx:=fun _ H'=>Q .non H',rt:=Q } (L2.start ["rows","worths"] [.ref a]) H:=by
 obtain ⟨xs,hx,rx⟩:=h1
 exact Xl hx rx h2 h3 fun l ys out H' s fr hy ry ti=>q l out H' s fr ⟨ys,hy,ry⟩ ti
theorem Y3 {v:V} {a x dx sl wo sa:Addr} {rws:Rws} {tab:List Row} {H0:Hp} {s:Sta} {b:Bool} (F:DoF K t) (h2:LsAt H0 a tab) (h3:VQ rws tab) (sm:Same H0 H)
  (hb:(b=true∧yM rws ⟨[],tab,[]⟩=.go s∧DoAt t H0 H x dx sl wo sa s)∨(b=false∧yM rws ⟨[],tab,[]⟩=.off))
  (q:∀ r o l oc out H',Same H0 H'→H0 l=none→H' r=some (.tup [o,.ref l])→qd H' o oc→LsAt H' l out→AloneR rws tab oc out→Q (.ref r) H') :
  qH K t { nx:=fun _ H'=>Q .non H',rt:=Q } [some v,some (.ref a),some (.ref x),some (.bl b)] H:=by
 simp only [qH,yP,ku,qv,vM,jF,VE,L2.start,zq,zu,zx,zc,tC,zS,zb,zi,zA,xv,tB,tCB,zm,List.map,List.replicate,List.length,List.append,jqa,jqb,jqc,jqd,jqe,jqf,jqg,jqh,jqi,jqj,jqk,jql,jqm,jqn,and_true,true_and,and_assoc,jqo,jqp,jqq,jqr,jqs,jqt,if_true,ite_true,jqu,ite_false,if_false]
 rcases hb with ⟨rfl,hg,D⟩ | ⟨rfl,hg⟩
 ·rw [if_neg (by decide)]
  refine ⟨_,_,_,D.ix,F.cl,F.n3,_,rfl,_,rfl,_,.inl ⟨SqL.of D.ha,fun y hy=>⟨by decide,fun o ho=>?_⟩⟩⟩
  have s1:=isV (o:=HO.tup (s.sa.map V.int)) y hy
  have s2:=isV (o:=HO.tup [V.str (Str.ofString "done"),V.ref y]) o ho
  have y2:=s2 _ _ (show upd H y (HO.tup (s.sa.map V.int)) y=some (.tup (s.sa.map V.int)) from zf)
  have o2:upd (upd H y (HO.tup (s.sa.map V.int))) o (HO.tup [V.str (Str.ofString "done"),V.ref y]) o=some (.tup [V.str (Str.ofString "done"),V.ref y]):=zf
  have D2:=D.same (s1.trans s2)
  have S2:=sm.trans (s1.trans s2)
  generalize upd (upd H y (HO.tup (s.sa.map V.int))) o (HO.tup [V.str (Str.ofString "done"),V.ref y])=H2 at *
  refine ⟨_,_,_,D2.ix,F.cl,F.n2,_,rfl,_,rfl,_,D2.hw,fun r hr=>?_⟩
  have s3:=isV (o:=qi r wo) r hr
  have ok:=kX rws (n:=tab.length) ⟨(fun k v e=>by rw [Yn] at e;cases e),h3.iw,Nat.zero_le _,Nat.le_refl _,Nat.zero_le _⟩ h3.ok hg
  have few:=h3.fw s hg
  obtain ⟨its,ei,nd,mi⟩:=zae s.wo
  have li:its.length=(dOf s.wo).length:=by rw [ei,List.length_map]
  have ld:=vf its
  refine ⟨wo,zf,_,s3 _ _ D2.hw,by lia,fun l ys H4 s4 fl hl pr=>?_⟩
  rw [ei] at pr
  have S4:=S2.trans (s3.trans s4)
  refine ⟨its,⟨ys,hl,zaf pr⟩,by lia,by lia,fun l2 out H5 s5 fl2 la ti=>⟨by decide,fun rr hrr=>?_⟩⟩
  have s6:=isV (o:=HO.tup [V.ref o,V.ref l2]) rr hrr
  have k6:=s3.trans (s4.trans (s5.trans s6))
  exact q rr (.ref o) l2 (.done s.sa) out _ (S4.trans (s5.trans s6)) (zD S4 fl2) zf ⟨o,y,rfl,k6 _ _ o2,k6 _ _ y2⟩ (la.same s6) (by unfold AloneR;rw [hg];exact ⟨rfl,zbk nd mi ti⟩)
 ·rw [if_pos rfl]
  exact ⟨tab,h2.same sm,fun r o l H' s' fl hr oa la=>q r o l (.off "told") tab H' (sm.trans s') (zD sm fl) hr oa la (by unfold AloneR;rw [hg];exact ⟨rfl,rfl⟩)⟩
theorem JH {P:Str→Option Value} {v:V} {a x dx sl wo sa:Addr} {rws:Rws} {tab:List Row} {H0:Hp} (T:Txt K P t) (D:DoAt t H0 H x dx sl wo sa ⟨[],tab,[]⟩) (h1:RlAt Zu H0 v rws) (h2:LsAt H0 a tab) (h3:VQ rws tab)
  (q:∀ r o l oc out H',Same H0 H'→H0 l=none→H' r=some (.tup [o,.ref l])→qd H' o oc→LsAt H' l out→AloneR rws tab oc out→Q (.ref r) H') :
  qI K t { nx:=fun _ H'=>Q .non H',rt:=Q } [some v,some (.ref a),some (.ref x),none] H:=by
 have F:=doF T
 obtain ⟨ra,xs,rfl,_,ha,hx⟩:=h1
 simp only [qI,yb,yP,qv,vM,Wz,WA,jF,VE,L2.start,J5,zq,zu,zx,zc,tC,zS,zb,zi,zA,xv,tB,tCB,zm,List.map,List.replicate,List.length,List.append,jqa,jqb,jqc,jqd,jqe,jqf,jqg,jqh,jqi,jqj,jqk,jql,jqm,jqn,and_true,true_and,and_assoc,jqo,jqp,jqq,jqr,jqs,jqt,if_true,ite_true,jqu,ite_false,if_false]
 refine ⟨dx,_,D.ix,rfl,xs,rws,tab.length,H0,dx,sl,wo,sa,⟨[],tab,[]⟩,D,ha,hx,h3.ok,h3.dp,⟨(fun k v e=>by rw [Yn] at e;cases e),h3.iw,Nat.zero_le _,Nat.le_refl _,Nat.zero_le _⟩,by have:=h3.ln;lia,fun H' s' g D'=>Y3 F h2 h3 D'.sm (.inl ⟨rfl,g,D'⟩) q,fun H' g sm=>Y3 (s:=⟨[],[],[]⟩) (dx:=dx) (sl:=sl) (wo:=wo) (sa:=sa) F h2 h3 sm (.inr ⟨rfl,g⟩) q,fun H' e g sm=>?_⟩
 cases e with
 | nought=>exact ⟨t.c_Nought,rfl,.inr ⟨T.e_Nought_Great,T.e_Nought_Nought,tab,h2.same sm,fun r o l H'' s hl hr oa la=>q r o l (.off "nought") tab H'' (sm.trans s) (zD sm hl) hr oa la (by unfold AloneR;rw [g];exact ⟨rfl,rfl⟩)⟩⟩
 | great=>exact ⟨t.c_Great,rfl,.inl ⟨T.e_Great_Great,tab,h2.same sm,fun r o l H'' s hl hr oa la=>q r o l (.off "great") tab H'' (sm.trans s) (zD sm hl) hr oa la (by unfold AloneR;rw [g];exact ⟨rfl,rfl⟩)⟩⟩
 | stuck=>trivial
theorem K9 {P:Str→Option Value} {v:V} {a:Addr} {rws:Rws} {tab:List Row} (T:Txt K P t) (h1:RlAt Zu H v rws) (h2:LsAt H a tab) (h3:VQ rws tab)
  (q:∀ r o l oc out H',Same H H'→H l=none→H' r=some (.tup [o,.ref l])→qd H' o oc→LsAt H' l out→AloneR rws tab oc out→Q (.ref r) H') :
  YY K t { nx:=fun _ H'=>Q .non H',rt:=Q } (L2.start ["rows","table","doing","came_through"] [v,.ref a]) H:=by
 simp only [YY,vX,qv,vM,Wz,Qw,WA,jF,VE,L2.start,J5,zq,zG,zl,zu,zx,zc,tC,zS,zb,zi,zA,xv,tB,tCB,zm,List.map,List.replicate,List.length,List.append,jqa,jqb,jqc,jqd,jqe,jqf,jqg,jqh,jqi,jqj,jqk,jql,jqm,jqn,and_true,true_and,and_assoc,jqo,jqp,jqq,jqr,jqs,jqt,if_true,ite_true,jqu,ite_false,if_false]
 intro x dx hx hd n
 have s1:=isV (o:=HO.own x) dx hd
 have hx1:upd H dx (HO.own x) x=none:=by rw [zk (Ne.symm n)];exact hx
 have s2:=isV (o:=HO.ins t.c_Doing dx []) x hx1
 have ln:=h3.ln
 exact ⟨tab,H,s1.trans s2,hx,dx,zf,h2,by lia,fun H' sl wo sa D=>JH T D h1 h2 h3 q⟩
theorem Kw:∀ (kvs:List (List Key × V)),(∀ kv∈kvs,∃ (p:Pl) (w:Int),kv=(zV p,.int w))→∃ its:List Row,kvs=its.map fun q=>(zV q.1,V.int q.2)
 | [],_=>⟨[],rfl⟩
 | kv :: t,h=>by
  obtain ⟨p,w,e⟩:=h kv List.mem_cons_self
  obtain ⟨its,e2⟩:=Kw t fun x hx=>h x (List.mem_cons_of_mem _ hx)
  exact ⟨(p,w) :: its,by rw [List.map_cons,e,← e2]⟩
theorem zcV {v:V} (h:lfV v):jC v∧isJ v=false∧plV v:=by
 rcases h with ⟨i,rfl,hi⟩ | ⟨x,rfl,hx⟩
 ·exact ⟨.inl ⟨i,rfl,hi⟩,rfl,.inl ⟨i,rfl⟩⟩
 ·have:=qY hx
  exact ⟨.inr ⟨x,rfl,by lia⟩,this.2.2.1,.inr ⟨x,rfl,qa hx⟩⟩
theorem NamesAt.same {H H':Hp} {nm:Addr} {ws:List Str} (h:NamesAt H nm ws) (s:Same H H'):NamesAt H' nm ws:=⟨s _ _ h.1,h.2⟩
theorem kJ {nm:Addr} {ws:List Str} (h:NamesAt H nm ws) (n:Nat) (hl:ws.length=n) (hn:0 < (n:Int)) (e:Int):∃ x,atI (ws.map V.str) (e % n)=some (.str x)∧x∈ws∧yF x=true:=by
 obtain ⟨v,hv,hm⟩:=JF e n (xs:=ws.map V.str) (by rw [List.length_map,hl]) hn
 obtain ⟨x,hx,rfl⟩:=List.mem_map.mp hm
 exact ⟨x,hv,hx,h.2 x hx⟩
theorem ZP {c j:Int} (h1:0≤j) (h2:j≤900) (q:∀ w H',inW w=true→Same H H'→Q (.int w) H') :
  vx K t { nx:=fun _ H'=>Q .non H',rt:=Q } (L2.start ["cell","j"] [.int c,.int j]) H:=by
 simp only [vx,zo,L2.start,zq,zu,zx,tOp,zc,tC,zb,zi,zA,zp,zm,rEq,rI,rI0,yn,List.map,List.replicate,List.length,List.append,jqa,jqb,jqc,jqd,jqe,jqf,jqg,jqh,jqi,jqj,jqk,jql,jqm,jqn,and_true,true_and,and_assoc,jqo,jqp,jqq,Nat.reduceSub,Nat.reduceAdd,jqr,jqs,jqt,Int.reduceToNat,Int.reducePow,Int.reduceNeg,Int.reduceMul,Int.reduceAdd,if_true,ite_true,jqu,ite_false,if_false]
 have P30:=VU (j:=30) (by decide) (by decide)
 have P40:=VU (j:=40) (by decide) (by decide)
 have hb:(1000000000000000000000000000000000000000000000000000000000000:Int) < big:=by decide +kernel
 refine ⟨h1,by lia,fun r1 H1 a1 b1 s1=>⟨by decide,yE (fun _=>?_) fun _=>⟨by lia,by lia,fun r2 H2 a2 b2 s2=>⟨by decide,q _ _ (inW_iff.mpr ?_) (s1.trans s2)⟩⟩⟩⟩
 ·have g1:=Int.emod_nonneg c (b:=10000000000000000000000000000000000000000) (by decide)
  have g2:=Int.emod_lt_of_pos c (b:=10000000000000000000000000000000000000000) (by decide)
  generalize c % 10000000000000000000000000000000000000000=d at *
  have m1:0≤d * (j + 2):=Int.mul_nonneg g1 (by lia)
  have m2:d * (j + 2)≤10000000000000000000000000000000000000000 * 1000:=Int.mul_le_mul (by lia) (by lia) (by lia) (by decide)
  generalize d * (j + 2)=f at *
  have g3:=Int.emod_nonneg (f * 1000003 + j) (b:=2000000000000000000000000000001) (by decide)
  have g4:=Int.emod_lt_of_pos (f * 1000003 + j) (b:=2000000000000000000000000000001) (by decide)
  exact ⟨P40,by decide,⟨by lia,by lia⟩,⟨by lia,by lia⟩,P30,⟨by lia,by lia⟩,by decide,P30,q _ _ (inW_iff.mpr (by lia)) s1⟩
 ·lia
theorem PlV.mono {H H':Hp} {n:Nat} {v:V} (s:Same H H') (h:PlV H n v):PlV H' n v:=by
 induction h with
 | int i=>exact .int i
 | str x=>exact .str x
 | lst e _ ih=>exact .lst (s _ _ e) ih
 | tup e _ ih=>exact .tup (s _ _ e) ih
theorem kK {vs:List V} {H:Hp} {Q:VK} {E:XK} (h:xq 0 vs H Q E):False:=by
 obtain ⟨v,_,h,_⟩:=h
 cases h
theorem Y4 {n:Nat} {v:V} (F:KF K) (h:PlV H (n + 1) v) (q:∀ H',Same H H'→Q (.bl true) H') :
  jc K t n { nx:=fun _ H'=>Q .non H',rt:=Q } (L2.start ["found","part"] [v]) H:=by
 simp only [jc,xq,Ku,zcn,L2.start,zq,zl,zu,zx,zc,tC,zS,zb,zi,ym,zA,xv,tB,Qn,Qo,tCB,zm,ki,List.map,List.replicate,List.length,List.append,jqa,jqb,jqc,jqd,jqe,jqf,jqg,jqh,jqi,jqj,jqk,jql,jqm,jqn,and_true,true_and,and_assoc,jqo,jqp,jqq,jqr,jqs,jqt,if_true,ite_true,jqu,ite_false,if_false]
 refine ⟨by decide,fun p hp=>?_⟩
 have s1:=isV (o:=HO.tup [V.ty "list",V.ty "tuple"]) p hp
 have e1:upd H p (HO.tup [V.ty "list",V.ty "tuple"]) p=some (.tup [V.ty "list",V.ty "tuple"]):=zf
 generalize upd H p (HO.tup [V.ty "list",V.ty "tuple"])=H1 at *
 cases h with
 | int i =>
  refine ⟨_,.int i,["list","tuple"],e1,false,F.a3,?_⟩
  rw [if_neg (by decide)]
  refine ⟨by decide,fun p2 hp2=>⟨_,.int i,["int","str"],zf,true,F.a5,?_⟩⟩
  rw [if_pos rfl]
  exact ⟨_,.int i,false,F.i_b,q _ (s1.trans (isV p2 hp2))⟩
 | str y =>
  refine ⟨_,.str y,["list","tuple"],e1,false,F.a4,?_⟩
  rw [if_neg (by decide)]
  refine ⟨by decide,fun p2 hp2=>⟨_,.str y,["int","str"],zf,true,F.a6,?_⟩⟩
  rw [if_pos rfl]
  exact ⟨_,.str y,false,F.s_b,q _ (s1.trans (isV p2 hp2))⟩
 | @lst _ l xs hl hx =>
  refine ⟨_,.lst (s1 _ _ hl),["list","tuple"],e1,true,F.a2,?_⟩
  rw [if_pos rfl]
  refine ⟨l,rfl,.inl ⟨⟨_,SqL.of (s1 _ _ hl)⟩,jj xs (fun _ σ H'=>(∃ o,σ=[some (.ref l),o])∧Same H H') ⟨⟨_,rfl⟩,s1⟩ (fun i σ H' z=>SqL.of (z.2 _ _ hl)) ?_ ?_⟩⟩
  ·rintro i y σ H' hy ⟨⟨o,rfl⟩,S⟩
   refine ⟨y,rfl,PlV.mono S (hx y (List.mem_of_getElem? hy)),fun H2 s2=>?_⟩
   rw [if_neg (by decide)]
   exact ⟨⟨_,rfl⟩,S.trans s2⟩
  ·rintro σ H' ⟨_,S⟩
   exact q _ S
 | @tup _ l xs hl hx =>
  refine ⟨_,.tup (s1 _ _ hl),["list","tuple"],e1,true,F.a1,?_⟩
  rw [if_pos rfl]
  refine ⟨l,rfl,.inr ⟨⟨_,SqT.of (s1 _ _ hl)⟩,Yx xs (fun _ σ H'=>(∃ o,σ=[some (.ref l),o])∧Same H H') ⟨⟨_,rfl⟩,s1⟩ (fun i σ H' z=>SqT.of (z.2 _ _ hl)) ?_ ?_⟩⟩
  ·rintro i y σ H' hy ⟨⟨o,rfl⟩,S⟩
   refine ⟨y,rfl,PlV.mono S (hx y (List.mem_of_getElem? hy)),fun H2 s2=>?_⟩
   rw [if_neg (by decide)]
   exact ⟨⟨_,rfl⟩,S.trans s2⟩
  ·rintro σ H' ⟨_,S⟩
   exact q _ S
def vN (P:Nat→Bool) (x:Str):Prop:=x.cps.toList.all P=true
theorem Zh {P:Nat→Bool} {x y:Str} (h:vN P x) (h':vN P y):vN P (x ++ y):=by
 unfold vN at *
 rw [za3,List.all_append,h,h'];rfl
theorem V2 {P:Nat→Bool} {c:Nat} (h:P c=true):vN P ⟨#[c]⟩:=by
 show [c].all P=true
 rw [List.all_cons,h];rfl
theorem WM {P:Nat→Bool} {x:Str} (h:vN P x) (k:Nat):vN P (Txt.slice x none (some (k:Int))):=by
 unfold vN at *
 rw [Vl]
 rw [List.all_eq_true] at *
 exact fun c hc=>h c (List.mem_of_mem_take hc)
theorem Wa {P:Nat→Bool} {x:Str} (h:vN P x) (k:Nat):vN P (Txt.slice x (some (k:Int)) none):=by
 unfold vN at *
 rw [Yy]
 rw [List.all_eq_true] at *
 exact fun c hc=>h c (List.mem_of_mem_drop hc)
theorem JI (x:Str) (k:Nat) (h:k≤x.length):(Txt.slice x none (some (k:Int))).length=k:=by
 rw [ZZ] at *
 rw [Vl,List.length_take];lia
theorem V3 (x:Str) (k:Nat):(Txt.slice x (some (k:Int)) none).length=x.length - k:=by
 rw [ZZ,ZZ,Yy,List.length_drop]
def inC (c:Nat):Bool:=(Str.ofString "zyxwvtsrqpnmlkjhgfdcb").cps.toList.contains c
theorem zcW:∀ c∈(Str.ofString "zyxwvtsrqpnmlkjhgfdcb").cps.toList,inL c=true:=by decide +kernel
theorem zcX:∀ c∈(Str.ofString "zyxwvtsrqpnmlkjhgfdcb").cps.toList,inC c=true:=fun c hc=>by unfold inC;exact List.contains_iff_mem.mpr hc
theorem zdq:∀ c∈(Str.ofString "zyxwvutsrqponmlkjihgfedcba").cps.toList,inL c=true:=by decide +kernel
theorem Qa:∀ v∈jw ++ wl,(match v with | .str w=>decide (w.length≠6) && !(w.cps.toList.all inC) | _=>true)=true:=by decide +kernel
theorem zbr {x:Str} (h:x.length=6∨vN inC x):(inV (.str x) jw || inV (.str x) wl)=false:=by
 have key:∀ v∈jw ++ wl,eqV v (.str x)=false:=fun v hv=>by
  have w:=Qa v hv
  cases e:eqV v (.str x) with
  | false=>rfl
  | true =>
   cases v <;> simp only [eqV,Bool.false_eq_true] at e
   rename_i y
   have e':y=x:=by simpa using e
   subst e'
   simp only [Bool.and_eq_true,decide_eq_true_eq,Bool.not_eq_true'] at w
   rcases h with h | h
   ·exact absurd h w.1
   ·unfold vN at h;rw [h] at w;exact absurd w.2 (by decide)
 rw [Bool.or_eq_false_iff]
 unfold inV
 constructor
 ·rw [List.any_eq_false]
  exact fun v hv=>by rw [key v (List.mem_append_left _ hv)];decide
 ·rw [List.any_eq_false]
  exact fun v hv=>by rw [key v (List.mem_append_right _ hv)];decide
theorem Z8 {x:Str} (h1:1≤x.length) (h2:x.length≤6) (h3:(x.length=6∧vN inL x)∨vN inC x):yF x=true:=by
 have nw:(inV (.str x) jw || inV (.str x) wl)=false:=zbr (h3.imp (·.1) id)
 have al:x.cps.toList.all inL=true:=by
  rcases h3 with h | h
  ·exact h.2
  ·unfold vN at h
   rw [List.all_eq_true] at *
   exact fun c hc=>zcW c (List.contains_iff_mem.mp (h c hc))
 have ne:decide (x="")=false:=decide_eq_false fun z=>by rw [z] at h1;exact absurd h1 (by decide)
 have nl:decide (6 < x.length)=false:=decide_eq_false (by lia)
 unfold yF
 rw [nw,al,ne,nl];rfl
structure Sgn (P:Nat→Bool) (sz:Nat) (sg:Str):Prop where
 al:vN P sg
 lo:21≤sg.length
 hi:sg.length≤26
 s1:1≤sz
 s6:sz≤6
 nm:∀ x:Str,x.length=sz→vN P x→yF x=true
theorem zav {P:Nat→Bool} {sz:Nat} {sg:Str} (S:Sgn P sz sg) {i:Int} (h0:0≤i) (h1:i < sg.length):∃ c,atI sg.cps.toList i=some c∧P c=true:=by
 obtain ⟨c,hc,hm⟩:=zas (xs:=sg.cps.toList) (i:=i) h0 (by rw [← ZZ];exact h1)
 exact ⟨c,hc,List.all_eq_true.mp S.al c hm⟩
theorem WN {P:Str→Prop}:∀ {ys:List V},(∀ v∈ys,∃ x,v=.str x∧P x)→∃ ls:List Str,ys=ls.map V.str∧∀ x∈ls,P x
 | [],_=>⟨[],rfl,fun _ z=>nomatch z⟩
 | v :: r,h=>by
  obtain ⟨x,rfl,px⟩:=h v List.mem_cons_self
  obtain ⟨ls,rfl,pl⟩:=WN (ys:=r) fun u hu=>h u (List.mem_cons_of_mem _ hu)
  exact ⟨x :: ls,rfl,fun y hy=>by
   rcases List.mem_cons.mp hy with rfl | hy
   ·exact px
   ·exact pl y hy⟩
def nmV (v:V):Prop:=∃ x:Str,v=.str x∧yF x=true
theorem zaw {P:Nat→Bool} {sz:Nat} {sg stem:Str} {c m tn:Int} {b:Bool} {o5:Option V} {at_:Nat} (S:Sgn P sz sg) (hs:stem.length=sz) (hp:vN P stem) (ha:at_ < sz) (h1:0≤m) (h2:m≤6) (q:∀ nm ws H',Same H H'→NamesAt H' nm ws→(ws.length:Int)=m→Q (.ref nm) H') :
  wH K t { nx:=fun _ H'=>Q .non H',rt:=Q } [some (.int c),some (.int m),some (.int sz),some (.str sg),some (.bl b),some (.str stem),o5,some (.int at_),some (.int tn)] H:=by
 simp only [wH,L2.start,zl,zu,tOp,zc,tC,zb,zi,tSl,xR,yW,y7,Yr,ve,xQ,Yk,rI0,qX,jT,List.map,List.replicate,List.length,List.append,jqa,jqb,jqc,jqd,jqe,jqf,jqg,jqh,jqi,jqj,jqk,jql,jqm,jqn,and_true,true_and,and_assoc,jqo,jqp,jqq,jqr,jqs,jqt,if_true,ite_true,jqu,ite_false,if_false]
 have lo:=S.lo
 have hi:=S.hi
 have s6:=S.s6
 refine ⟨by lia,by lia,fun D hD=>?_⟩
 refine Vk (J:=Itr 0 m.toNat) m.toNat (by lia) (fun τ=>∃ o,τ=[o,some (.str stem),some (.int (at_:Int)),some (.str sg)]) (fun i v=>nmV v) ⟨_,rfl⟩ (fun i H _ h=>h) (fun H _=>Nat.le_refl _) hD ?_ ?_
 ·rintro i v τ H2 H' ⟨o,rfl⟩ s hi ⟨rfl,rfl⟩
  simp only [L2.start,zl,zu,tOp,zc,tC,zb,zi,tSl,xR,yW,y7,Yr,ve,xQ,Yk,rI0,qX,jT,List.map,List.replicate,List.length,List.append,jqa,jqb,jqc,jqd,jqe,jqf,jqg,jqh,jqi,jqj,jqk,jql,jqm,jqn,and_true,true_and,and_assoc,jqo,jqp,jqq,jqr,jqs,jqt,if_true,ite_true,jqu,ite_false,if_false]
  obtain ⟨d,hd,hP⟩:=zav S (i:=0 + (i:Int)) (by lia) (by lia)
  have l1:=JI stem at_ (by lia)
  have l2:=V3 stem (at_ + 1)
  have p1:=WM hp at_
  have p2:=Wa hp (at_ + 1)
  rw [show ((at_ + 1:Nat):Int)=(at_:Int) + 1 by lia] at l2 p2
  exact ⟨yi (by lia),yi (by lia),d,hd,yi (by rw [Zg];lia),yi (by lia),yi (by rw [kS,Zg];lia),⟨_,rfl⟩,⟨_,rfl,S.nm _ (by rw [kS,kS,Zg];lia) (Zh (Zh p1 (V2 hP)) p2)⟩,Same.refl _⟩
 ·intro ys H' hly hv s hq
  obtain ⟨ls,rfl,hp⟩:=WN (P:=fun x=>yF x=true) (ys:=ys) fun v hv2=>by
   obtain ⟨i,hi⟩:=List.getElem?_of_mem hv2
   exact hv i v hi
  rw [List.length_map] at hly
  exact q D ls H' s ⟨hq,hp⟩ (by lia)
theorem zbs {P:Nat→Bool} {sz:Nat} {sg stem:Str} {c m:Int} {b:Bool} {o5:Option V} (S:Sgn P sz sg) (hs:stem.length=sz) (hp:vN P stem) (h1:0≤m) (h2:m≤6) (q:∀ nm ws H',Same H H'→NamesAt H' nm ws→(ws.length:Int)=m→Q (.ref nm) H') :
  w5 K t { nx:=fun _ H'=>Q .non H',rt:=Q } [some (.int c),some (.int m),some (.int sz),some (.str sg),some (.bl b),some (.str stem),o5,none,none] H:=by
 simp only [w5,zo,L2.start,zq,zG,zl,zu,tOp,zc,tC,zb,zi,tCB,tSl,xR,yW,zm,y7,Yr,ve,vL,xQ,Yk,rI,rI0,qX,jT,wp,List.map,List.replicate,List.length,List.append,jqa,jqb,jqc,jqd,jqe,jqf,jqg,jqh,jqi,jqj,jqk,jql,jqm,jqn,and_true,true_and,and_assoc,jqo,jqp,jqq,jqr,jqs,jqt,if_true,ite_true,jqu,ite_false,if_false]
 have lo:=S.lo
 have hi:=S.hi
 have s1:=S.s1
 have s6:=S.s6
 refine ⟨by decide,by decide,fun r1 H1 a1 b1 s1'=>⟨by lia,by decide,by decide,fun r2 H2 a2 b2 s2'=>⟨yi (by lia),by lia,?_⟩⟩⟩
 obtain ⟨k,ek⟩:∃ k:Nat,r1 % (sz:Int)=k:=⟨_,(Int.toNat_of_nonneg (Int.emod_nonneg _ (by lia))).symm⟩
 have hk:(k:Int) < sz:=by rw [← ek];exact Int.emod_lt_of_pos _ (by lia)
 obtain ⟨u,eu⟩:∃ u:Nat,r2 % (sg.length:Int)=u:=⟨_,(Int.toNat_of_nonneg (Int.emod_nonneg _ (by lia))).symm⟩
 have hu:(u:Int) < sg.length:=by rw [← eu];exact Int.emod_lt_of_pos _ (by lia)
 rw [ek,eu]
 have l1:=JI sg u (by lia)
 have l2:=V3 sg u
 refine ⟨yi (by lia),yi (by lia),yi (by lia),?_⟩
 have S':Sgn P sz (Txt.slice sg (some (u:Int)) none ++ Txt.slice sg none (some (u:Int))):=⟨Zh (Wa S.al u) (WM S.al u),by rw [kS];lia,by rw [kS];lia,S.s1,S.s6,S.nm⟩
 exact zaw S' hs hp (by lia) h1 h2 fun nm ws H' s hn hl=>q nm ws H' (s1'.trans (s2'.trans s)) hn hl
def nmI (P:Nat→Bool) (c m:Int) (sz:Nat) (sg:Str) (b:Bool) (H:Hp) (i:Nat) (σ:St) (H':Hp):Prop:=(∃ (x:Str) (o:Option V),σ=[some (.int c),some (.int m),some (.int sz),some (.str sg),some (.bl b),some (.str x),o,none,none]∧x.length=i∧vN P x)∧Same H H'
theorem WO {P:Nat→Bool} {sz:Nat} {sg:Str} {c m:Int} {b:Bool} (S:Sgn P sz sg) (hb:b=true→sz=6∧∀ x:Str,1≤x.length→x.length≤6→vN P x→yF x=true) (h1:0≤m) (h2:m≤4) (q:∀ nm ws H',Same H H'→NamesAt H' nm ws→(ws.length:Int)=m→Q (.ref nm) H') :
  w6 K t { nx:=fun _ H'=>Q .non H',rt:=Q } [some (.int c),some (.int m),some (.int sz),some (.str sg),some (.bl b),some (.str ""),none,none,none] H:=by
 simp only [w6,zo,L2.start,zq,zG,zl,zu,zx,tOp,zc,tC,zb,zi,ym,zA,tB,tCB,tSl,xR,yW,zm,y7,Yr,ve,vL,xQ,Yk,rI,rI0,qX,jT,wp,List.map,List.replicate,List.length,List.append,jqa,jqb,jqc,jqd,jqe,jqf,jqg,jqh,jqi,jqj,jqk,jql,jqm,jqn,and_true,true_and,and_assoc,jqo,jqp,jqq,jqr,jqs,jqt,if_true,ite_true,jqu,ite_false,if_false]
 have lo:=S.lo
 have hi:=S.hi
 have s1:=S.s1
 have s6:=S.s6
 refine ⟨by lia,by lia,qu (nmI P c m sz sg b H) ⟨⟨_,none,rfl,by decide +kernel,by show [].all P=true;rfl⟩,Same.refl H⟩ ?_ ?_⟩
 ·rintro i σ H' hi ⟨⟨x,o,rfl,hx,hp⟩,s⟩
  simp only [L2.start,zq,zG,zl,zu,zx,tOp,zc,tC,zb,zi,ym,zA,tB,tCB,tSl,xR,yW,zm,y7,Yr,ve,vL,xQ,Yk,rI,rI0,qX,jT,wp,List.map,List.replicate,List.length,List.append,jqa,jqb,jqc,jqd,jqe,jqf,jqg,jqh,jqi,jqj,jqk,jql,jqm,jqn,and_true,true_and,and_assoc,jqo,jqp,jqq,jqr,jqs,jqt,if_true,ite_true,jqu,ite_false,if_false]
  refine ⟨by lia,by lia,fun r1 H1 a1 b1 s1'=>⟨yi (by lia),by lia,?_⟩⟩
  obtain ⟨d,hd,hP⟩:=zav S (i:=r1 % (sg.length:Int)) (Int.emod_nonneg _ (by lia)) (Int.emod_lt_of_pos _ (by lia))
  exact ⟨yi (by lia),d,hd,yi (by rw [Zg];lia),⟨_,_,rfl,by rw [kS,Zg];lia,Zh hp (V2 hP)⟩,s.trans s1'⟩
 ·rintro σ H' ⟨⟨x,o,rfl,hx,hp⟩,s⟩
  simp only [L2.start,zq,zG,zl,zu,zx,tOp,zc,tC,zb,zi,ym,zA,tB,tCB,tSl,xR,yW,zm,y7,Yr,ve,vL,xQ,Yk,rI,rI0,qX,jT,wp,List.map,List.replicate,List.length,List.append,jqa,jqb,jqc,jqd,jqe,jqf,jqg,jqh,jqi,jqj,jqk,jql,jqm,jqn,and_true,true_and,and_assoc,jqo,jqp,jqq,jqr,jqs,jqt,if_true,ite_true,jqu,ite_false,if_false]
  have hx:x.length=sz:=by lia
  refine yE (fun eb=>?_) fun _=>zbs S hx hp h1 (by lia) fun nm ws H2 s2 hn hl=>q nm ws H2 (s.trans s2) hn hl
  obtain ⟨e6,nm⟩:=hb eb
  refine ⟨by lia,by lia,fun D hD=>?_⟩
  refine Vk (J:=Itr 0 m.toNat) m.toNat (by lia) (fun τ=>∃ o,τ=[o,some (.str x)]) (fun i v=>nmV v) ⟨_,rfl⟩ (fun i H _ h=>h) (fun H _=>Nat.le_refl _) hD ?_ ?_
  ·rintro i v τ H2 H3 ⟨o,rfl⟩ s hi ⟨rfl,rfl⟩
   simp only [L2.start,zq,zG,zl,zu,zx,tOp,zc,tC,zb,zi,ym,zA,tB,tCB,tSl,xR,yW,zm,y7,Yr,ve,vL,xQ,Yk,rI,rI0,qX,jT,wp,List.map,List.replicate,List.length,List.append,jqa,jqb,jqc,jqd,jqe,jqf,jqg,jqh,jqi,jqj,jqk,jql,jqm,jqn,and_true,true_and,and_assoc,jqo,jqp,jqq,jqr,jqs,jqt,if_true,ite_true,jqu,ite_false,if_false]
   have e:(6:Int) - (0 + (i:Int))=((6 - i:Nat):Int):=by lia
   rw [e]
   have l1:=JI x (6 - i) (by lia)
   exact ⟨yi (by lia),⟨_,rfl⟩,⟨_,rfl,nm _ (by lia) (by lia) (WM hp (6 - i))⟩,Same.refl _⟩
  ·intro ys H2 hly hv s2 hq
   obtain ⟨ls,rfl,hp⟩:=WN (P:=fun x=>yF x=true) (ys:=ys) fun v hv2=>by
    obtain ⟨i,hi⟩:=List.getElem?_of_mem hv2
    exact hv i v hi
   rw [List.length_map] at hly
   exact q D ls H2 (s.trans s2) ⟨hq,hp⟩ (by lia)
theorem Y5 {c m:Int} (h1:0≤m) (h2:m≤4) (q:∀ nm ws H',Same H H'→NamesAt H' nm ws→(ws.length:Int)=m→Q (.ref nm) H') :
  v0 K t { nx:=fun _ H'=>Q .non H',rt:=Q } (L2.start ["cell","many","size","signs","shorter","stem","k","at","turn"] [.int c,.int m]) H:=by
 simp only [v0,jW,zo,L2.start,zq,zG,zl,zu,zx,tOp,zc,tC,zb,zi,ym,zA,zp,tB,tCB,tSl,xR,yW,zm,y7,Yr,ve,vL,xQ,Yk,rEq,rI,rI0,qX,jT,wp,yn,List.map,List.replicate,List.length,List.append,jqa,jqb,jqc,jqd,jqe,jqf,jqg,jqh,jqi,jqj,jqk,jql,jqm,jqn,and_true,true_and,and_assoc,jqo,jqp,jqq,jqr,jqs,jqt,if_true,ite_true,jqu,ite_false,if_false]
 refine ⟨by decide,by decide,fun r1 H1 a1 b1 s1'=>⟨by decide,by decide,by decide,fun r2 H2 a2 b2 s2'=>⟨by decide,?_⟩⟩⟩
 have q':∀ nm ws H',Same H2 H'→NamesAt H' nm ws→(ws.length:Int)=m→Q (.ref nm) H':=fun nm ws H' s=>q nm ws H' (s1'.trans (s2'.trans s))
 obtain ⟨k,ek⟩:∃ k:Nat,1 + r1 % 6=k:=⟨(1 + r1 % 6).toNat,by lia⟩
 rw [ek]
 have lc:(Str.ofString "zyxwvtsrqpnmlkjhgfdcb").length=21:=by decide +kernel
 have lz:(Str.ofString "zyxwvutsrqponmlkjihgfedcba").length=26:=by decide +kernel
 refine yE (fun e=>?_) fun e=>yE (fun e6=>?_) fun e6=>?_
 ·exact WO (P:=inC) (sz:=6) (b:=decide (r2 % 3=0)) (sg:="zyxwvtsrqpnmlkjhgfdcb") ⟨List.all_eq_true.mpr zcX,by rw [lc];lia,by rw [lc];lia,by lia,by lia,fun x hx hp=>Z8 (by lia) (by lia) (.inr hp)⟩ (fun _=>⟨rfl,fun x l1 l2 hp=>Z8 l1 l2 (.inr hp)⟩) h1 h2 q'
 ·have e6:k=6:=by lia
  exact WO (P:=inL) (b:=decide (r2 % 3=0)) (sg:="zyxwvutsrqponmlkjihgfedcba") ⟨List.all_eq_true.mpr zdq,by rw [lz];lia,by rw [lz];lia,by lia,by lia,fun x hx hp=>Z8 (by lia) (by lia) (.inl ⟨by lia,hp⟩)⟩ (fun z=>absurd (of_decide_eq_true z) e) h1 h2 q'
 ·exact WO (P:=inC) (b:=decide (r2 % 3=0)) (sg:="zyxwvtsrqpnmlkjhgfdcb") ⟨List.all_eq_true.mpr zcX,by rw [lc];lia,by rw [lc];lia,by lia,by lia,fun x hx hp=>Z8 (by lia) (by lia) (.inr hp)⟩ (fun z=>absurd (of_decide_eq_true z) e) h1 h2 q'
theorem wN {a b:List V} {w:Str} (ha:TermOk a) (hb:TermOk b) (hw:wdJ w) (l:a.length + b.length < 1000):TermOk (a ++ b ++ [.str w]):=by
 refine ⟨fun kvs=>?_,fun z hz=>?_,by rw [List.length_append,List.length_append,List.length_singleton];lia⟩
 ·obtain ⟨r1,g1⟩:=ha.1 kvs
  obtain ⟨r2,g2⟩:=hb.1 kvs
  exact ⟨_,KU hw.1 g1 g2⟩
 ·rcases List.mem_append.mp hz with hz | hz
  ·rcases List.mem_append.mp hz with hz | hz
   ·exact ha.2.1 z hz
   ·exact hb.2.1 z hz
  ·rw [List.mem_singleton.mp hz];exact .inr ⟨w,rfl,hw.2.1⟩
theorem jP {a b:List V} {w:Str} (ha:tmP a) (hb:tmP b) (hw:wdJ w):tmP (a ++ b ++ [.str w]):=fun z hz=>by
 rcases List.mem_append.mp hz with hz | hz
 ·rcases List.mem_append.mp hz with hz | hz
  ·exact ha z hz
  ·exact hb z hz
 ·rw [List.mem_singleton.mp hz];exact .inr ⟨w,rfl,hw.2.2⟩
theorem Zi {u:V} (h:lfV u):TermOk [u]∧tmP [u]:=by
 obtain ⟨o1,j1,p1⟩:=zcV h
 exact ⟨zam o1 j1,fun z hz=>by rw [List.mem_singleton.mp hz];exact p1⟩
theorem Xn {c j:Int} {a:Addr} {ws:List Str} (h1:0≤j) (h2:j≤800) (h3:NamesAt H a ws) (h4:ws.length=4) (q:∀ v H',lfV v→Same H H'→Q v H') :
  jI K t { nx:=fun _ H'=>Q .non H',rt:=Q } (L2.start ["cell","j","slots"] [.int c,.int j,.ref a]) H:=by
 simp only [jI,zo,yA,L2.start,zq,zu,zx,tOp,zc,tC,zb,zi,zA,zp,tCB,zm,vL,yo,rEq,rI,rI0,wp,yn,List.map,List.replicate,List.length,List.append,jqa,jqb,jqc,jqd,jqe,jqf,jqg,jqh,jqi,jqj,jqk,jql,jqm,jqn,and_true,true_and,and_assoc,jqo,jqp,jqq,jqr,jqs,jqt,if_true,ite_true,jqu,ite_false,if_false]
 refine ⟨by lia,by lia,fun r1 H1 a1 b1 s1=>⟨by decide,yE (fun _=>⟨by lia,by lia,fun r2 H2 a2 b2 s2=>?_⟩) fun _=>⟨h1,by lia,fun w H2 hw s2=>q _ _ (.inl ⟨w,rfl,hw⟩) (s1.trans s2)⟩⟩⟩
 obtain ⟨x,hx,_,hn⟩:=kJ h3 4 h4 (by decide) r2
 have S:=s1.trans s2
 exact ⟨4,.inl ⟨_,SqL.of (S _ _ h3.1),by rw [List.length_map,h4]⟩,by decide,_,SqL.of (S _ _ h3.1),_,hx,q _ _ (.inr ⟨x,rfl,hn⟩) S⟩
theorem Xo {c j:Int} (h1:0≤j) (h2:j≤900) (q:∀ w H',wdJ w→Same H H'→Q (.str w) H') :
  jJ K t { nx:=fun _ H'=>Q .non H',rt:=Q } (L2.start ["cell","j","words"] [.int c,.int j]) H:=by
 simp only [jJ,zo,L2.start,zq,zG,zl,zu,tOp,zc,tC,yS,zb,zi,zm,yo,rI,List.map,List.replicate,List.length,List.append,jqa,jqb,jqc,jqd,jqe,jqf,jqg,jqh,jqi,jqj,jqk,jql,jqm,jqn,and_true,true_and,and_assoc,jqo,jqp,jqq,jqr,jqs,jqt,if_true,ite_true,jqu,ite_false,if_false]
 refine ⟨by decide,fun l hl=>⟨h1,by lia,fun r H2 a2 b2 s2=>⟨by decide,?_⟩⟩⟩
 have s1:=isV (o:=HO.lst [V.str (Str.ofString "plus"),V.str (Str.ofString "minus"),V.str (Str.ofString "times"),V.str (Str.ofString "over"),V.str (Str.ofString "rest"),V.str (Str.ofString "under"),V.str (Str.ofString "same"),V.str (Str.ofString "plus"),V.str (Str.ofString "minus")]) l hl
 obtain ⟨x,hx,hm⟩:=JF r 9 (xs:=[V.str (Str.ofString "plus"),V.str (Str.ofString "minus"),V.str (Str.ofString "times"),V.str (Str.ofString "over"),V.str (Str.ofString "rest"),V.str (Str.ofString "under"),V.str (Str.ofString "same"),V.str (Str.ofString "plus"),V.str (Str.ofString "minus")]) rfl (by decide)
 obtain ⟨w,rfl,jw⟩:∃ w:Str,x=.str w∧wdJ w:=by
  simp only [List.mem_cons,List.not_mem_nil,or_false] at hm
  rcases hm with rfl | rfl | rfl | rfl | rfl | rfl | rfl | rfl | rfl <;> exact ⟨_,rfl,by decide +kernel,by decide +kernel,by decide +kernel⟩
 exact ⟨_,SqL.of (s2 _ _ zf),_,hx,q w H2 jw (s1.trans s2)⟩
def lgI (c j kd:Int) (a:Addr) (u v w:V) (H0:Hp) (i:Nat) (σ:St) (H:Hp):Prop:=Same H0 H∧∃ (L:Addr) (e:List V) (o8 o9:Option V),σ=[some (.int c),some (.int j),some (.ref a),some (.int kd),some u,some v,some w,some (.ref L),o8,o9]∧H0 L=none∧H L=some (.tup e)∧TermOk e∧tmP e∧e.length=2 * i + 1
section
variable {c j kd:Int} {a:Addr} {ws:List Str} {u v w:V} {Hb:Hp}
theorem Qb (h1:0≤j) (h2:j≤700) (h3:NamesAt H a ws) (h4:ws.length=4) (hu:lfV u) (sb:Same Hb H) (q:∀ p e H',Same Hb H'→Hb p=none→H' p=some (.tup e)→TermOk e→tmP e→Q (.ref p) H') :
  vz K t { nx:=fun _ H'=>Q .non H',rt:=Q } [some (.int c),some (.int j),some (.ref a),some (.int kd),some u,some v,some w,none,none,none] H:=by
 simp only [vz,zo,L2.start,XH,zq,zG,zl,zu,tOp,zc,tC,yS,zS,zb,zi,ym,zm,xQ,yo,rI,rI0,List.map,List.replicate,List.length,List.append,jqa,jqb,jqc,jqd,jqe,jqf,jqg,jqh,jqi,jqj,jqk,jql,jqm,jqn,and_true,true_and,and_assoc,jqo,jqp,jqq,jqr,jqs,jqt,if_true,ite_true,jqu,ite_false,if_false]
 obtain ⟨t1,p1⟩:=Zi hu
 refine ⟨by decide,fun L hL=>⟨by lia,by lia,fun r H1 _ _ s1=>⟨by decide,?_⟩⟩⟩
 have s0:=isV (o:=HO.tup [u]) L hL
 have g1:=Int.emod_nonneg r (b:=13) (by decide)
 have g2:=Int.emod_lt_of_pos r (b:=13) (by decide)
 refine ⟨by lia,by lia,qu (lgI c j kd a u v w H) ⟨s0.trans s1,L,[u],none,none,rfl,hL,s1 _ _ zf,t1,p1,rfl⟩ ?_ ?_⟩
 ·rintro i σ H2 hil ⟨S,L,e,o8,o9,rfl,fL,hL,te,pe,le⟩
  have il:i < 13:=by lia
  simp only [zo,xc,L2.start,XH,zq,zG,zl,zu,tOp,zc,tC,yS,zS,zb,zi,ym,zm,xQ,yo,rI,rI0,List.map,List.replicate,List.length,List.append,jqa,jqb,jqc,jqd,jqe,jqf,jqg,jqh,jqi,jqj,jqk,jql,jqm,jqn,and_true,true_and,and_assoc,jqo,jqp,jqq,jqr,jqs,jqt,if_true,ite_true,jqu,ite_false,if_false,Int.zero_add]
  refine ⟨by decide,fun pl hpl=>⟨by lia,by lia,fun r2 H3 _ _ s3=>⟨by decide,?_⟩⟩⟩
  have s2:=isV (o:=HO.lst [V.str (Str.ofString "plus"),V.str (Str.ofString "minus"),V.str (Str.ofString "under")]) pl hpl
  obtain ⟨x,hx,hm⟩:=JF r2 3 (xs:=[V.str (Str.ofString "plus"),V.str (Str.ofString "minus"),V.str (Str.ofString "under")]) rfl (by decide)
  obtain ⟨y,rfl,jy⟩:∃ y:Str,x=.str y∧wdJ y:=by
   simp only [List.mem_cons,List.not_mem_nil,or_false] at hm
   rcases hm with rfl | rfl | rfl <;> exact ⟨_,rfl,by decide +kernel,by decide +kernel,by decide +kernel⟩
  have T:=S.trans (s2.trans s3)
  refine ⟨_,SqL.of (s3 _ _ zf),_,hx,by lia,by lia,ws,h3.same T,h4,fun v1 H4 hv1 s4=>⟨by decide,fun pt hpt=>?_⟩⟩
  have s5:=isV (o:=HO.tup [v1,V.str y]) pt hpt
  have hL':=(s2.trans (s3.trans (s4.trans s5))) _ _ hL
  obtain ⟨tv,pv⟩:=Zi hv1
  have ee:e ++ [v1,.str y]=e ++ [v1] ++ [.str y]:=by simp
  refine ⟨e,SqT.of hL',_,SqT.of zf,(fun z=>by rw [z] at le;simp at le),yi (by show e.length + 2≤_;lia),(fun z=>nomatch z),fun _ p1 hp1=>?_⟩
  rw [ee]
  have U:=T.trans (s4.trans s5)
  exact ⟨U.trans (isV p1 hp1),p1,_,_,_,rfl,zD U hp1,zf,wN te tv jy (by simp;lia),jP pe pv jy,by simp;lia⟩
 ·rintro σ H2 ⟨S,L,e,o8,o9,rfl,fL,hL,te,pe,le⟩
  exact ⟨_,rfl,q L e H2 (sb.trans S) (zD sb fL) hL te pe⟩
theorem Qc (h1:0≤j) (h2:j≤700) (h3:NamesAt H a ws) (h4:ws.length=4) (hu:lfV u) (hv:lfV v) (hw:lfV w) (sb:Same Hb H) (q:∀ p e H',Same Hb H'→Hb p=none→H' p=some (.tup e)→TermOk e→tmP e→Q (.ref p) H') :
  vA K t { nx:=fun _ H'=>Q .non H',rt:=Q } [some (.int c),some (.int j),some (.ref a),some (.int kd),some u,some v,some w,none,none,none] H:=by
 simp only [vA,xg,L2.start,XH,zq,zG,zl,zu,zx,tOp,zc,tC,yS,zS,zb,zi,ym,zA,zp,zm,xQ,yo,rI,rI0,List.map,List.replicate,List.length,List.append,jqa,jqb,jqc,jqd,jqe,jqf,jqg,jqh,jqi,jqj,jqk,jql,jqm,jqn,and_true,true_and,and_assoc,jqo,jqp,jqq,jqr,jqs,jqt,if_true,ite_true,jqu,ite_false,if_false]
 obtain ⟨t1,p1⟩:=Zi hu
 obtain ⟨t2,p2⟩:=Zi hv
 obtain ⟨t3,p3⟩:=Zi hw
 refine yE (fun _=>⟨by decide,fun p hp=>?_⟩) fun _=>yE (fun _=>⟨by lia,by lia,fun x H1 jx s1=>⟨by decide,fun p hp=>?_⟩⟩) fun _=>yE (fun _=>⟨by lia,by lia,fun x H1 jx s1=>⟨by lia,by lia,fun y H2 jy s2=>⟨by decide,fun p hp=>?_⟩⟩⟩) fun _=>yE (fun _=>⟨by lia,by lia,fun x H1 jx s1=>⟨by lia,by lia,fun y H2 jy s2=>⟨by decide,fun p hp=>?_⟩⟩⟩) fun _=>Qb h1 h2 h3 h4 hu sb q
 ·exact q p [u] _ (sb.trans (isV p hp)) (zD sb hp) zf t1 p1
 ·have S:=sb.trans s1
  exact q p ([u] ++ [v] ++ [.str x]) _ (S.trans (isV p hp)) (zD S hp) zf (wN t1 t2 jx (by simp)) (jP p1 p2 jx)
 ·have S:=sb.trans (s1.trans s2)
  exact q p (([u] ++ [v] ++ [.str x]) ++ [w] ++ [.str y]) _ (S.trans (isV p hp)) (zD S hp) zf (wN (wN t1 t2 jx (by simp)) t3 jy (by simp)) (jP (jP p1 p2 jx) p3 jy)
 ·have S:=sb.trans (s1.trans s2)
  exact q p ([u] ++ ([v] ++ [w] ++ [.str x]) ++ [.str y]) _ (S.trans (isV p hp)) (zD S hp) zf (wN t1 (wN t2 t3 jx (by simp)) jy (by simp)) (jP p1 (jP p2 p3 jx) jy)
end
theorem Xp {c j:Int} {a:Addr} {ws:List Str} (h1:0≤j) (h2:j≤700) (h3:NamesAt H a ws) (h4:ws.length=4) (q:∀ p e H',Same H H'→H p=none→H' p=some (.tup e)→TermOk e→tmP e→Q (.ref p) H') :
  jK K t { nx:=fun _ H'=>Q .non H',rt:=Q } (L2.start ["cell","j","slots","kind","one","two","three","long","k","word"] [.int c,.int j,.ref a]) H:=by
 simp only [jK,zo,xc,L2.start,XH,zq,zG,zl,zu,zx,tOp,zc,tC,yS,zS,zb,zi,ym,zA,zp,zm,xQ,yo,rI,rI0,List.map,List.replicate,List.length,List.append,jqa,jqb,jqc,jqd,jqe,jqf,jqg,jqh,jqi,jqj,jqk,jql,jqm,jqn,and_true,true_and,and_assoc,jqo,jqp,jqq,jqr,jqs,jqt,if_true,ite_true,jqu,ite_false,if_false]
 refine ⟨h1,by lia,fun r1 H1 _ _ s1=>⟨by decide,by lia,by lia,ws,h3.same s1,h4,fun u H2 hu s2=>⟨by lia,by lia,ws,h3.same (s1.trans s2),h4,fun v H3 hv s3=>⟨by lia,by lia,ws,h3.same (s1.trans (s2.trans s3)),h4,fun w H4 hw s4=>?_⟩⟩⟩⟩
 have S:=s1.trans (s2.trans (s3.trans s4))
 exact Qc h1 h2 (h3.same S) h4 hu hv hw S q
theorem Xq {c j:Int} {a:Addr} {ws:List Str} (h1:0≤j) (h2:j≤600) (h3:NamesAt H a ws) (h4:ws.length=4) (q:∀ p e H',Same H H'→H p=none→H' p=some (.tup e)→TermOk e→tmP e→Q (.ref p) H') :
  jL K t { nx:=fun _ H'=>Q .non H',rt:=Q } (L2.start ["cell","j","slots"] [.int c,.int j,.ref a]) H:=by
 simp only [jL,zo,yw,L2.start,zq,zu,zx,tOp,zc,tC,zS,zb,zi,zA,zp,zm,rEq,rI,rI0,yn,List.map,List.replicate,List.length,List.append,jqa,jqb,jqc,jqd,jqe,jqf,jqg,jqh,jqi,jqj,jqk,jql,jqm,jqn,and_true,true_and,and_assoc,jqo,jqp,jqq,jqr,jqs,jqt,if_true,ite_true,jqu,ite_false,if_false]
 refine ⟨h1,by lia,fun r1 H1 a1 b1 s1=>⟨by decide,yE (fun _=>⟨by lia,by lia,ws,h3.same s1,h4,fun p e H2 s2 fp hp te pe=>q p e H2 (s1.trans s2) (zD s1 fp) hp te pe⟩) fun _=>⟨by lia,by lia,fun r2 H2 a2 b2 s2=>⟨by decide,by decide,fun p hp=>?_⟩⟩⟩⟩
 have S:=s1.trans s2
 have lf:lfV (.int (r2 % 4 - 1)):=.inl ⟨_,rfl,inW_iff.mpr (by lia)⟩
 exact q p _ _ (S.trans (isV p hp)) (zD S hp) zf (Zi lf).1 (Zi lf).2
theorem zax {c kd:Int} {a b:Addr} {ws:List Str} {sh sl:Str} {Hb:Hp} (h3:NamesAt H a ws) (h4:ws.length=4) (nsh:yF sh=true) (nsl:yF sl=true) (S:Same Hb H)
  (q:∀ v r H',Same Hb H'→RwAt (fun b=>Hb b=none) H' v r→rwV r→Q v H') :
  v4 K t { nx:=fun _ H'=>Q .non H',rt:=Q } [some (.int c),some (.ref a),some (.ref b),some (.int kd),some (.str sh),some (.str sl)] H:=by
 simp only [v4,vg,yw,zo,yA,L2.start,zq,zu,zx,tOp,zc,tC,zS,zb,zi,zA,zp,zm,yo,rEq,rI,rI0,yn,List.map,List.replicate,List.length,List.append,jqa,jqb,jqc,jqd,jqe,jqf,jqg,jqh,jqi,jqj,jqk,jql,jqm,jqn,and_true,true_and,and_assoc,jqo,jqp,jqq,jqr,jqs,jqt,if_true,ite_true,jqu,ite_false,if_false]
 have inn:∀ {e f:List V},qA nmP (.give sh e f):=fun {e f}=>by unfold qA;exact fun _ _ _=>nsh
 refine yE (fun _=>⟨by decide,by decide,ws,h3,h4,fun p e H1 s1 fp hp te pe=>⟨by decide,fun r hr=>?_⟩⟩) fun _=>yE (fun _=>⟨by decide,by decide,ws,h3,h4,fun p e H1 s1 fp hp te pe=>⟨by decide,by decide,ws,h3.same s1,h4,fun p2 f H2 s2 fp2 hp2 tf pf=>⟨by decide,fun r hr=>?_⟩⟩⟩) fun _=>yE (fun _=>⟨by decide,by decide,ws,h3,h4,fun p e H1 s1 fp hp te pe=>⟨by decide,fun r hr=>?_⟩⟩) fun _=>yE (fun _=>⟨by decide,by decide,fun r1 H1 _ _ s1=>⟨by decide,?_⟩⟩) fun _=>⟨by decide,by decide,ws,h3,h4,fun p e H1 s1 fp hp te pe=>⟨by decide,fun r hr=>?_⟩⟩
 ·have T:=S.trans s1
  exact q _ (.take sh e sl) _ (T.trans (isV r hr)) ⟨r,p,rfl,zD T hr,zD S fp,zf,isV r hr _ _ hp⟩ ⟨trivial,⟨qa nsh,pe,qa nsl⟩,te,by unfold qA;trivial⟩
 ·have T:=S.trans (s1.trans s2)
  exact q _ (.give sh e f) _ (T.trans (isV r hr)) ⟨r,p,p2,rfl,zD T hr,zD S fp,zD (S.trans s1) fp2,zf,(s2.trans (isV r hr)) _ _ hp,isV r hr _ _ hp2⟩ ⟨trivial,⟨qa nsh,pe,pf⟩,⟨te,tf⟩,inn⟩
 ·have T:=S.trans s1
  exact q _ (.lt sl e) _ (T.trans (isV r hr)) ⟨r,p,rfl,zD T hr,zD S fp,zf,isV r hr _ _ hp⟩ ⟨trivial,⟨qa nsl,pe⟩,te,by unfold qA;trivial⟩
 ·obtain ⟨x,hx,_,hn⟩:=kJ (h3.same s1) 4 h4 (by decide) r1
  refine ⟨_,SqL.of (s1 _ _ h3.1),_,hx,by decide,by decide,fun w H2 hw s2=>⟨by decide,fun p hp=>⟨by decide,fun r hr=>?_⟩⟩⟩
  have T:=S.trans (s1.trans s2)
  have s3:=isV (o:=HO.tup [V.str x,V.int w,V.str (Str.ofString "same")]) p hp
  have jw:wdJ (Str.ofString "same"):=⟨by decide +kernel,by decide +kernel,by decide +kernel⟩
  obtain ⟨t1,p1⟩:=Zi (u:=.str x) (.inr ⟨x,rfl,hn⟩)
  obtain ⟨t2,p2⟩:=Zi (u:=.int w) (.inl ⟨w,rfl,hw⟩)
  exact q _ (.off ([.str x] ++ [.int w] ++ [.str (Str.ofString "same")])) _ (T.trans (s3.trans (isV r hr))) ⟨r,p,rfl,zD (T.trans s3) hr,zD T hp,zf,isV r hr _ _ zf⟩ ⟨trivial,(by unfold wZ;exact jP p1 p2 jw),(by unfold wW;exact wN t1 t2 jw (by simp)),by unfold qA;trivial⟩
 ·have T:=S.trans s1
  exact q _ (.say e) _ (T.trans (isV r hr)) ⟨r,p,rfl,zD T hr,zD S fp,zf,isV r hr _ _ hp⟩ ⟨trivial,pe,te,by unfold qA;trivial⟩
theorem WP {c:Int} {a b:Addr} {ws us:List Str} (h1:NamesAt H a ws) (h2:ws.length=4) (h3:NamesAt H b us) (h4:us.length=3) (q:∀ v r H',Same H H'→RwAt (fun b=>H b=none) H' v r→rwV r→Q v H') :
  kA K t { nx:=fun _ H'=>Q .non H',rt:=Q } (L2.start ["cell","slots","shelves","kind","shelf","slot"] [.int c,.ref a,.ref b]) H:=by
 simp only [kA,zo,L2.start,zq,zG,zl,zu,zx,tOp,zc,tC,zS,zb,zi,zA,zp,zm,yo,rEq,rI,rI0,yn,List.map,List.replicate,List.length,List.append,jqa,jqb,jqc,jqd,jqe,jqf,jqg,jqh,jqi,jqj,jqk,jql,jqm,jqn,and_true,true_and,and_assoc,jqo,jqp,jqq,jqr,jqs,jqt,if_true,ite_true,jqu,ite_false,if_false]
 refine ⟨by decide,by decide,fun r1 H1 a1 b1 s1=>⟨by decide,by decide,by decide,fun r2 H2 a2 b2 s2=>⟨by decide,?_⟩⟩⟩
 obtain ⟨x,hx,_,nx⟩:=kJ (h3.same (s1.trans s2)) 3 h4 (by decide) r2
 refine ⟨_,SqL.of ((s1.trans s2) _ _ h3.1),_,hx,by decide,by decide,fun r3 H3 a3 b3 s3=>⟨by decide,?_⟩⟩
 have S:=s1.trans (s2.trans s3)
 obtain ⟨y,hy,_,ny⟩:=kJ (h1.same S) 4 h2 (by decide) r3
 exact ⟨_,SqL.of (S _ _ h1.1),_,hy,zax (h1.same S) h2 nx ny S q⟩
theorem FsAt.to {F G:Addr→Prop} {H H':Hp} (g:∀ b o,F b→H b=some o→G b) (s:∀ b o,F b→H b=some o→H' b=some o):∀ (gs:List Gm) {fs:List V} {sp:List Addr},(∀ a∈sp,∀ o,H a=some o→H' a=some o)→FsAt F H gs fs sp→FsAt G H' gs fs sp
 | [],fs,sp,p,h=>h
 | m :: gs,fs,sp,p,h=>by
  obtain ⟨f,tv,fi,c,xs,fs',sp',e1,e2,h1,h2,h3,h4,h5,h6⟩:=h
  subst e2
  refine ⟨f,tv,fi,c,xs,fs',sp',e1,rfl,p f (by simp) _ h1,p c (by simp) _ h2,RwsAt.to _ g s h3,fun n=>?_,?_,FsAt.to g s gs (fun a ha=>p a (by simp [ha])) h6⟩
  ·obtain ⟨te,a1,a2,a3,a4⟩:=h4 n
   exact ⟨te,a1,g _ _ a2 a3,s _ _ a2 a3,a4⟩
  ·rcases h5 with h5 | ⟨a,ys,A,a1,a2,a3,a4,a5⟩
   ·exact .inl h5
   ·exact .inr ⟨a,ys,A,a1,a2,g _ _ a3 a4,s _ _ a3 a4,RwsAt.to _ g s a5⟩
theorem FsAt.alive {F:Addr→Prop} {H:Hp}:∀ (gs:List Gm) {fs:List V} {sp:List Addr},FsAt F H gs fs sp→∀ a∈sp,∃ o,H a=some o
 | [],fs,sp,h,a,ha=>by rw [h.2] at ha;cases ha
 | m :: gs,fs,sp,h,a,ha=>by
  obtain ⟨f,tv,fi,c,xs,fs',sp',e1,e2,h1,h2,h3,h4,h5,h6⟩:=h
  subst e2
  simp only [List.mem_cons] at ha
  rcases ha with rfl | rfl | ha
  ·exact ⟨_,h1⟩
  ·exact ⟨_,h2⟩
  ·exact FsAt.alive gs h6 a ha
theorem FsAt.len {F:Addr→Prop} {H:Hp}:∀ (gs:List Gm) {fs:List V} {sp:List Addr},FsAt F H gs fs sp→fs.length=gs.length
 | [],fs,sp,h=>by rw [h.1];rfl
 | m :: gs,fs,sp,h=>by
  obtain ⟨f,tv,fi,c,xs,fs',sp',e1,e2,h1,h2,h3,h4,h5,h6⟩:=h
  rw [e1,List.length_cons,List.length_cons,FsAt.len gs h6]
theorem FZ.same {H0 H H':Hp} {FR:Addr} {gs:List Gm} {fs:List V} {sp:List Addr} (Z:FZ H0 H FR gs fs sp) (s:Same H H'):FZ H0 H' FR gs fs sp :=
 ⟨Z.sm.trans s,s _ _ Z.hf,FsAt.to (fun _ _ f _=>f) (fun _ _ _ e=>s _ _ e) gs (fun _ _ _ e=>s _ _ e) Z.fa,Z.nd,Z.nf,Z.fr,Z.f0⟩
theorem qL {α:Type} {xs:List α} {a:α}:atI (xs ++ [a]) (-1)=some a:=by
 unfold atI ixN
 rw [if_neg (by decide),if_pos (by simp;lia)]
 have e:(-1 + ((xs ++ [a]).length:Int)).toNat=xs.length:=by simp;lia
 rw [e]
 simp
theorem FZ.push {H0 H:Hp} {FR c:Addr} {g:Gm} {gs:List Gm} {fs:List V} {sp:List Addr} {xs:List V} {v:V} {r:Rw} {f:Addr} {tv fi:V} {fs':List V} {sp':List Addr} (Z:FZ H0 H FR (g :: gs) fs sp) (e1:fs=.ref f :: fs') (e2:sp=f :: c :: sp') (h1:H f=some (.lst [tv,fi,.ref c])) (h2:H c=some (.lst xs)) (hv:RwAt (Fz H0 sp FR) H v r):FZ H0 (upd H c (.lst (xs ++ [v]))) FR ({ g with D:=g.D.snoc r } :: gs) fs sp:=by
 have fa:=Z.fa
 obtain ⟨f',tv',fi',c',xs',fs1,sp1,e1',e2',h1',h2',h3,h4,h5,h6⟩:=fa
 have nd:=Z.nd
 have ec:c∈sp:=by rw [e2];simp
 subst e1
 subst e2
 obtain ⟨rfl,rfl⟩:f=f'∧fs'=fs1:=by injection e1' with a b;exact ⟨V.ref.inj a,b⟩
 obtain ⟨_,rfl,rfl⟩:f=f∧c=c'∧sp'=sp1:=by injection e2' with a b;injection b with b d;exact ⟨rfl,b,d⟩
 rw [h1] at h1'
 cases h1'
 rw [h2] at h2'
 cases h2'
 rw [List.nodup_cons,List.nodup_cons] at nd
 obtain ⟨n1,n2,n3⟩:=nd
 have nfc:f≠c:=fun z=>n1 (by simp [z])
 have s:∀ b o,Fz H0 (f :: c :: sp') FR b→H b=some o→upd H c (.lst (xs ++ [v])) b=some o:=fun b o fz e=>by rw [zk (fun z=>fz.1 (by simp [z]))];exact e
 refine ⟨z8 Z.sm (Z.fr c ec),by rw [zk (fun z=>Z.nf (by rw [z];exact ec))];exact Z.hf,?_,Z.nd,Z.nf,Z.fr,Z.f0⟩
 refine ⟨f,tv,fi,c,xs ++ [v],fs',sp',rfl,rfl,by rw [zk nfc];exact h1,zf,RwsAt.snoc (hv.to r (fun _ _ f _=>f) s) g.D (RwsAt.to _ (fun _ _ f _=>f) s h3),fun n=>?_,?_,FsAt.to (fun _ _ f _=>f) s gs (fun a ha o e=>by rw [zk (fun z=>n2 (by rw [← z];exact ha))];exact e) h6⟩
 ·obtain ⟨te,a1,a2,a3,a4⟩:=h4 n
  exact ⟨te,a1,a2,s _ _ a2 a3,a4⟩
 ·rcases h5 with h5 | ⟨a,ys,A,a1,a2,a3,a4,a5⟩
  ·exact .inl h5
  ·exact .inr ⟨a,ys,A,a1,a2,a3,s _ _ a3 a4,RwsAt.to _ (fun _ _ f _=>f) s a5⟩
theorem FZ.pop {H0 H:Hp} {FR:Addr} {g h:Gm} {gs:List Gm} {fs:List V} {sp:List Addr} (Z:FZ H0 H FR (g :: h :: gs) fs sp):∃ f te fi c xs fs' sp',fs=.ref f :: fs'∧sp=f :: c :: sp'∧FZ H0 (upd H FR (.lst fs'.reverse)) FR (h :: gs) fs' sp'∧upd H FR (.lst fs'.reverse) f=some (.lst [.ref te,fi,.ref c])∧upd H FR (.lst fs'.reverse) te=some (.tup g.e)∧tmP g.e∧Fz H0 sp' FR te∧Fz H0 sp' FR c∧upd H FR (.lst fs'.reverse) c=some (.lst xs)∧RwsAt (Fz H0 sp' FR) (upd H FR (.lst fs'.reverse)) xs g.D∧((g.a=none∧fi=.non)∨∃ a ys A,g.a=some A∧fi=.ref a∧Fz H0 sp' FR a∧upd H FR (.lst fs'.reverse) a=some (.lst ys)∧RwsAt (Fz H0 sp' FR) (upd H FR (.lst fs'.reverse)) ys A):=by
 have fa:=Z.fa
 obtain ⟨f,tv,fi,c,xs,fs',sp',e1,e2,h1,h2,h3,h4,h5,h6⟩:=fa
 have nd:=Z.nd
 have fr:=Z.fr
 have nf:=Z.nf
 subst e2
 rw [List.nodup_cons,List.nodup_cons] at nd
 obtain ⟨n1,n2,n3⟩:=nd
 obtain ⟨te,rfl,a2,a3,a4⟩:=h4 (by simp)
 have g':∀ b o,Fz H0 (f :: c :: sp') FR b→H b=some o→Fz H0 sp' FR b:=fun b o fz _=>⟨fun z=>fz.1 (by simp [z]),fz.2⟩
 have s:∀ b o,Fz H0 (f :: c :: sp') FR b→H b=some o→upd H FR (.lst fs'.reverse) b=some o:=fun b o fz e=>by rw [zk fz.2.1];exact e
 have p:∀ a∈f :: c :: sp',∀ o,H a=some o→upd H FR (.lst fs'.reverse) a=some o:=fun a ha o e=>by rw [zk (fun z=>nf (by rw [← z];exact ha))];exact e
 refine ⟨f,te,fi,c,xs,fs',sp',e1,rfl,⟨z8 Z.sm Z.f0,zf,FsAt.to g' s _ (fun a ha=>p a (by simp [ha])) h6,n3,fun z=>nf (by simp [z]),fun a ha=>fr a (by simp [ha]),Z.f0⟩,p f (by simp) _ h1,s _ _ a2 a3,a4,g' _ _ a2 a3,⟨n2,fun z=>nf (by simp [← z]),fr c (by simp)⟩,p c (by simp) _ h2,RwsAt.to _ g' s h3,?_⟩
 rcases h5 with h5 | ⟨a,ys,A,b1,b2,b3,b4,b5⟩
 ·exact .inl h5
 ·exact .inr ⟨a,ys,A,b1,b2,g' _ _ b3 b4,s _ _ b3 b4,RwsAt.to _ g' s b5⟩
theorem ZQ {FR:Addr} {H0:Hp} {g h:Gm} {gs:List Gm} {fs:List V} {sp:List Addr} (Z:FZ H0 H FR (g :: h :: gs) fs sp) (hc:h.D.cnt≤500) (q:∀ fs' sp' H',FZ H0 H' FR (qE g h :: gs) fs' sp'→Q .non H') :
  vy K t { nx:=fun _ H'=>Q .non H',rt:=Q } (L2.start ["frames","frame"] [.ref FR]) H:=by
 simp only [vy,L2.start,zn,yz,zP,Ym,zq,zG,zl,zR,tOp,tUn,zc,tC,yS,zS,zb,zi,zA,zp,tBM,qc,tyV,yo,rU,ZM,List.map,List.replicate,List.length,List.append,jqa,jqb,jqc,jqd,jqe,jqf,jqg,jqh,jqi,jqj,jqk,jql,jqm,jqn,and_true,true_and,and_assoc,jqo,jqp,jqq,jqr,jqs,jqt,if_true,ite_true,jqu,ite_false,if_false]
 have hf:=Z.hf
 obtain ⟨f,te,fi,c,xs,fs1,sp1,e1,e2,Z1,h1,h2,h3,h4,h5,h6,h7,h8⟩:=Z.pop
 have er:fs.reverse=fs1.reverse ++ [.ref f]:=by rw [e1,List.reverse_cons]
 rw [er] at hf
 refine ⟨.inl ⟨_,SqL.of hf⟩,fs1.reverse ++ [.ref f],hf,.ref f,kH,?_⟩
 rw [wM]
 obtain ⟨f2,tv2,fi2,c2,xs2,fs2,sp2,d1,d2,k1,k2,k3,k4,k5,k6⟩:=Z1.fa
 have hF1:=Z1.hf
 have er1:fs1.reverse=fs2.reverse ++ [.ref f2]:=by rw [d1,List.reverse_cons]
 generalize upd H FR (HO.lst fs1.reverse)=H1 at *
 rw [er1] at hF1
 have lx:xs2.length < sizeLine:=by
  have:=RwsAt.len h.D k3
  exact Nat.lt_of_le_of_lt (by lia:_≤900) (by decide)
 refine ⟨f,rfl,_,SqL.of h1,_,rfl,?_⟩
 rcases h8 with ⟨ga,rfl⟩ | ⟨a,ys,A,ga,rfl,b3,b4,b5⟩
 ·rw [if_pos rfl]
  refine ⟨_,SqL.of hF1,_,qL,f2,rfl,_,SqL.of k1,_,rfl,.inl ⟨_,SqL.of k2⟩,f,rfl,_,SqL.of h1,_,rfl,f,rfl,_,SqL.of h1,_,rfl,by decide,fun p3 g3=>⟨by decide,fun r hr=>?_⟩⟩
  have s1:=isV (o:=HO.lst []) p3 g3
  have s2:=isV (o:=HO.tup [V.str (Str.ofString "if"),V.ref te,V.ref c,V.ref p3]) r hr
  have S:=s1.trans s2
  have Z2:=Z1.same S
  have al:∀ a∈sp1,∃ o,H1 a=some o:=FsAt.alive _ Z1.fa
  have f3:Fz H0 sp1 FR p3:=⟨(fun z=>by obtain ⟨o,e⟩:=al p3 z;rw [g3] at e;cases e),wu hF1 g3,zD Z1.sm g3⟩
  have fr:Fz H0 sp1 FR r:=⟨(fun z=>by obtain ⟨o,e⟩:=al r z;rw [s1 _ _ e] at hr;cases hr),wu (s1 _ _ hF1) hr,zD (Z1.sm.trans s1) hr⟩
  refine ⟨c2,rfl,xs2,S _ _ k2,lx,?_⟩
  have hv:RwAt (Fz H0 sp1 FR) (upd (upd H1 p3 (HO.lst [])) r (HO.tup [V.str (Str.ofString "if"),V.ref te,V.ref c,V.ref p3])) (.ref r) (.iff g.e g.D .nil):=by
   unfold RwAt
   exact ⟨r,te,c,p3,xs,[],rfl,fr,h4,h5,f3,zf,S _ _ h2,S _ _ h6,h7.mono S,s2 _ _ zf,by unfold RwsAt;rfl⟩
  have:=Z2.push d1 d2 (S _ _ k1) (S _ _ k2) hv
  refine q fs1 sp1 _ ?_
  unfold qE
  rw [ga]
  exact this
 ·rw [if_neg (by simp)]
  refine ⟨_,SqL.of hF1,_,qL,f2,rfl,_,SqL.of k1,_,rfl,.inl ⟨_,SqL.of k2⟩,f,rfl,_,SqL.of h1,_,rfl,f,rfl,_,SqL.of h1,_,rfl,f,rfl,_,SqL.of h1,_,rfl,by decide,fun r hr=>?_⟩
  have s2:=isV (o:=HO.tup [V.str (Str.ofString "if"),V.ref te,V.ref a,V.ref c]) r hr
  have Z2:=Z1.same s2
  have al:∀ a∈sp1,∃ o,H1 a=some o:=FsAt.alive _ Z1.fa
  have fr:Fz H0 sp1 FR r:=⟨(fun z=>by obtain ⟨o,e⟩:=al r z;rw [e] at hr;cases hr),wu hF1 hr,zD Z1.sm hr⟩
  refine ⟨c2,rfl,xs2,s2 _ _ k2,lx,?_⟩
  have hv:RwAt (Fz H0 sp1 FR) (upd H1 r (HO.tup [V.str (Str.ofString "if"),V.ref te,V.ref a,V.ref c])) (.ref r) (.iff g.e A g.D):=by
   unfold RwAt
   exact ⟨r,te,a,c,ys,xs,rfl,fr,h4,b3,h5,zf,s2 _ _ h2,s2 _ _ b4,b5.mono s2,s2 _ _ h6,h7.mono s2⟩
  have:=Z2.push d1 d2 (s2 _ _ k1) (s2 _ _ k2) hv
  refine q fs1 sp1 _ ?_
  unfold qE
  rw [ga]
  exact this
mutual
def szR:Rw→Nat
 | .iff _ a b=>y0 a + y0 b + 2
 | _=>1
def y0:Rws→Nat
 | .nil=>0
 | .cons r rs=>szR r + y0 rs
end
mutual
theorem zbt:∀ (r:Rw),r.cnt≤szR r
 | .iff e a b=>by
  have h1:=jQ a
  have h2:=jQ b
  have c:(Rw.iff e a b).cnt=max a.cnt b.cnt + 1:=by rw [Rw.cnt]
  have z:szR (.iff e a b)=y0 a + y0 b + 2:=by rw [szR]
  lia
 | .take sh e sl=>by simp [szR,Rw.cnt]
 | .give sh e f=>by simp [szR,Rw.cnt]
 | .lt sl e=>by simp [szR,Rw.cnt]
 | .say e=>by simp [szR,Rw.cnt]
 | .off e=>by simp [szR,Rw.cnt]
theorem jQ:∀ (r:Rws),r.cnt≤y0 r
 | .nil=>by simp [y0,Rws.cnt]
 | .cons r rs=>by
  have h1:=zbt r
  have h2:=jQ rs
  rw [y0,Rws.cnt]
  lia
end
theorem Zz (x:Rw):∀ (r:Rws),y0 (r.snoc x)=y0 r + szR x
 | .nil=>by show y0 (.cons x .nil)=_;simp [y0]
 | .cons y r=>by
  show y0 (.cons y (r.snoc x))=_
  rw [y0,y0,Zz x r];lia
def szA:Option Rws→Nat
 | none=>0
 | some A=>y0 A
def szG:List Gm→Nat
 | []=>0
 | g :: gs=>y0 g.D + szA g.a + 2 + szG gs
def okG:List Gm→Prop
 | []=>True
 | g :: gs=>g.D.deep + gs.length≤5∧(yX g.D∧yJ g.D∧x0 nmP g.D)∧(tmP g.e∧(gs≠[]→TermOk g.e))∧(∀ A,g.a=some A→A.deep + gs.length≤5∧yX A∧yJ A∧x0 nmP A)∧okG gs
theorem V4 {g h:Gm} {gs:List Gm} (k:okG (g :: h :: gs)):okG (qE g h :: gs)∧szG (qE g h :: gs)=szG (g :: h :: gs):=by
 obtain ⟨k1,k2,k3,k4,k5,k6,k7,k8,k9⟩:=k
 rw [List.length_cons] at k1 k4
 have hx:∀ (x:Rw),x.deep + gs.length≤5→wZ x→wW x→qA nmP x→szR x=y0 g.D + szA g.a + 2→okG ({ h with D:=h.D.snoc x } :: gs)∧szG ({ h with D:=h.D.snoc x } :: gs)=szG (g :: h :: gs):=fun x d p po pn z =>
  ⟨⟨by show (h.D.snoc x).deep + gs.length≤5;rw [Zv];lia,⟨WE p h.D k6.1,WD po h.D k6.2.1,WF pn h.D k6.2.2⟩,k7,k8,k9⟩,by show y0 (h.D.snoc x) + szA h.a + 2 + szG gs=y0 g.D + szA g.a + 2 + (y0 h.D + szA h.a + 2 + szG gs);rw [Zz,z];lia⟩
 unfold qE
 cases ga:g.a with
 | none =>
  refine hx (.iff g.e g.D .nil) ?_ ?_ (by unfold wW;exact ⟨k3.2 (by simp),k2.2.1,by unfold yJ;trivial⟩) (by unfold qA;exact ⟨k2.2.2,by unfold x0;trivial⟩) ?_
  ·have:(Rw.iff g.e g.D .nil).deep=max g.D.deep Rws.nil.deep + 1:=by rw [Rw.deep]
   rw [this,Rws.deep];lia
  ·unfold wZ
   exact ⟨k3.1,k2.1,by unfold yX;trivial⟩
  ·rw [ga,szR,y0];rfl
 | some A =>
  obtain ⟨a1,a2⟩:=k4 A ga
  refine hx (.iff g.e A g.D) ?_ ?_ (by unfold wW;exact ⟨k3.2 (by simp),a2.2.1,k2.2.1⟩) (by unfold qA;exact ⟨a2.2.2,k2.2.2⟩) ?_
  ·have:(Rw.iff g.e A g.D).deep=max A.deep g.D.deep + 1:=by rw [Rw.deep]
   rw [this];lia
  ·unfold wZ
   exact ⟨k3.1,a2.1,k2.1⟩
  ·rw [ga,szR]
   show y0 A + y0 g.D + 2=y0 g.D + y0 A + 2
   lia
theorem rwV.deep {r:Rw} (h:rwV r):r.deep=0∧szR r=1:=by
 have:=h.ni
 cases r with
 | iff e a b=>exact this.elim
 | _=>exact ⟨by simp [Rw.deep],by simp [szR]⟩
def rwI (p FR sa sb:Addr) (H:Hp) (i:Nat) (σ:St) (H':Hp):Prop:=∃ gs fs sp,(∃ o3 o4,σ=[some (.ref p),some (.ref sa),some (.ref sb),some (.ref FR),o3,o4])∧FZ H H' FR gs fs sp∧okG gs∧gs≠[]∧gs.length≤6∧szG gs≤2 * i + 2
section
variable {p FR sa sb:Addr} {ws us:List Str} {c k:Int} {H0:Hp} {i:Nat} {gs:List Gm} {fs:List V} {sp:List Addr} {E:Xd}
theorem Y6 (Z:FZ H0 H FR gs fs sp):(fs.reverse).length=gs.length:=by rw [List.length_reverse];exact FsAt.len gs Z.fa
theorem Kx (n1:NamesAt H0 sa ws) (n2:ws.length=4) (n3:NamesAt H0 sb us) (n4:us.length=3) (Z:FZ H0 H FR gs fs sp) (ok:okG gs) (ne:gs≠[]) (l6:gs.length≤6) (sz:szG gs≤2 * i + 2) (hi:i < 63) (q:∀ σ H',rwI p FR sa sb H0 (i + 1) σ H'→E.nx σ H') :
  vB K t E [some (.ref p),some (.ref sa),some (.ref sb),some (.ref FR),some (.int c),some (.int k)] H:=by
 simp only [vB,ky,L2.start,zn,zP,zR,tOp,tUn,zc,tC,zb,zi,tBM,tyV,zm,yo,rU,List.map,List.replicate,List.length,List.append,jqa,jqb,jqc,jqd,jqe,jqf,jqg,jqh,jqi,jqj,jqk,jql,jqm,jqn,and_true,true_and,and_assoc,jqo,jqp,jqq,jqr,jqs,jqt,if_true,ite_true,jqu,ite_false,if_false]
 cases gs with
 | nil=>exact absurd rfl ne
 | cons g gs =>
  obtain ⟨f,tv,fi,cc,xs,fs',sp',e1,e2,h1,h2,h3,h4,h5,h6⟩:=Z.fa
  have hf:=Z.hf
  have er:fs.reverse=fs'.reverse ++ [.ref f]:=by rw [e1,List.reverse_cons]
  rw [er] at hf
  have lx:xs.length < sizeLine:=by
   have a1:=RwsAt.len g.D h3
   have a2:=jQ g.D
   have a3:szG (g :: gs)=y0 g.D + szA g.a + 2 + szG gs:=rfl
   exact Nat.lt_of_le_of_lt (by lia:_≤900) (by decide)
  refine ⟨_,SqL.of hf,_,qL,f,rfl,_,SqL.of h1,_,rfl,.inl ⟨_,SqL.of h2⟩,ws,n1.same Z.sm,n2,us,n3.same Z.sm,n4,fun v r H1 s1 hr vr=>?_⟩
  have Z1:=Z.same s1
  refine ⟨cc,rfl,xs,s1 _ _ h2,lx,?_⟩
  have al:∀ a∈sp,∃ o,H a=some o:=FsAt.alive _ Z.fa
  have hv:RwAt (Fz H0 sp FR) H1 v r:=hr.to r (fun b o fz _=>⟨(fun z=>by obtain ⟨o,e⟩:=al b z;rw [fz] at e;cases e),wu hf fz,zD Z.sm fz⟩) fun b o _ e=>e
  have Z2:=Z1.push e1 e2 (s1 _ _ h1) (s1 _ _ h2) hv
  obtain ⟨d0,z1⟩:=vr.deep
  obtain ⟨o1,o2,o3,o4,o5⟩:=ok
  refine q _ _ ⟨_,fs,sp,⟨_,_,rfl⟩,Z2,⟨by show (g.D.snoc r).deep + gs.length≤5;rw [Zv,d0];lia,⟨WE vr.pl g.D o2.1,WD vr.ok g.D o2.2.1,WF vr.nm g.D o2.2.2⟩,o3,o4,o5⟩,by simp,by simpa using l6,?_⟩
  have a3:szG (g :: gs)=y0 g.D + szA g.a + 2 + szG gs:=rfl
  show y0 (g.D.snoc r) + szA g.a + 2 + szG gs≤2 * (i + 1) + 2
  rw [Zz,z1]
  lia
end
theorem FZ.out {H0 H:Hp} {FR c:Addr} {gs:List Gm} {fs:List V} {sp:List Addr} (Z:FZ H0 H FR gs fs sp) (c0:H c=none):c ∉ sp∧c≠FR∧H0 c=none :=
 ⟨(fun z=>by obtain ⟨o,e⟩:=FsAt.alive _ Z.fa c z;rw [c0] at e;cases e),wu Z.hf c0,zD Z.sm c0⟩
theorem FZ.new {H0 Hz H:Hp} {FR f c pt:Addr} {gs:List Gm} {fs:List V} {sp:List Addr} {e:List V} (Z:FZ H0 Hz FR gs fs sp) (s:Same Hz H) (te:tmP e) (hp:H pt=some (.tup e)) (p0:Hz pt=none) (hc:H c=some (.lst [])) (c0:Hz c=none) (hf:H f=none):FZ H0 (upd (upd H f (.lst [.ref pt,.non,.ref c])) FR (.lst (fs.reverse ++ [.ref f]))) FR (⟨e,none,.nil⟩ :: gs) (.ref f :: fs) (f :: c :: sp):=by
 obtain ⟨nc,ncF,fc⟩:=Z.out c0
 obtain ⟨np,npF,fp⟩:=Z.out p0
 have ZH:=Z.same s
 obtain ⟨nfs,nF,ff⟩:=ZH.out hf
 have ncf:c≠f:=fun z=>by rw [z,hf] at hc;cases hc
 have npf:pt≠f:=fun z=>by rw [z,hf] at hp;cases hp
 have npc:pt≠c:=xF hp hc (fun z=>nomatch z)
 have kp:∀ {b:Addr} {o:HO},b≠FR→H b=some o→upd (upd H f (.lst [.ref pt,.non,.ref c])) FR (.lst (fs.reverse ++ [.ref f])) b=some o:=fun n e=>by rw [zk n,zk (zE e hf)];exact e
 refine ⟨z8 (ZH.sm.trans (isV f hf)) Z.f0,by rw [zf,List.reverse_cons],?_,?_,?_,?_,Z.f0⟩
 ·refine ⟨f,.ref pt,.non,c,[],fs,sp,rfl,rfl,by rw [zk nF,zf],kp ncF hc,by unfold RwsAt;rfl,fun _=>⟨pt,rfl,⟨by simp [npf,npc,np],npF,fp⟩,kp npF hp,te⟩,.inl ⟨rfl,rfl⟩,?_⟩
  refine FsAt.to (fun b o fz e=>⟨?_,fz.2⟩) (fun b o fz e=>kp fz.2.1 (s _ _ e)) gs (fun a ha o e=>kp (fun z=>Z.nf (z ▸ ha)) (s _ _ e)) Z.fa
  simp only [List.mem_cons,not_or]
  exact ⟨zE (s _ _ e) hf,zE e c0,fz.1⟩
 ·rw [List.nodup_cons,List.nodup_cons]
  exact ⟨by simp [Ne.symm ncf,nfs],nc,Z.nd⟩
 ·simp only [List.mem_cons,not_or]
  exact ⟨Ne.symm nF,Ne.symm ncF,Z.nf⟩
 ·intro a ha
  simp only [List.mem_cons] at ha
  rcases ha with rfl | rfl | ha
  ·exact ff
  ·exact fc
  ·exact Z.fr a ha
theorem FZ.turn {H0 H:Hp} {FR f c d:Addr} {g:Gm} {gs:List Gm} {fs fs':List V} {sp sp':List Addr} {tv fi:V} (Z:FZ H0 H FR (g :: gs) fs sp) (e1:fs=.ref f :: fs') (e2:sp=f :: c :: sp') (h1:H f=some (.lst [tv,fi,.ref c])) (d0:H d=none) {H2:Hp} (k:∀ b o,b≠f→H b=some o→H2 b=some o) (hf:H2 f=some (.lst [tv,.ref c,.ref d])) (hd:H2 d=some (.lst [])):FZ H0 H2 FR (⟨g.e,some g.D,.nil⟩ :: gs) fs (f :: d :: sp'):=by
 obtain ⟨nd1,ndF,fd⟩:=Z.out d0
 have fa:=Z.fa
 obtain ⟨f',tv',fi',c',xs',fs1,sp1,e1',e2',h1',h2',h3,h4,h5,h6⟩:=fa
 have nd:=Z.nd
 have nf:=Z.nf
 have fr:=Z.fr
 subst e1
 subst e2
 obtain ⟨rfl,rfl⟩:f=f'∧fs'=fs1:=by injection e1' with a b;exact ⟨V.ref.inj a,b⟩
 obtain ⟨_,rfl,rfl⟩:f=f∧c=c'∧sp'=sp1:=by injection e2' with a b;injection b with b d;exact ⟨rfl,b,d⟩
 rw [h1] at h1'
 cases h1'
 rw [List.nodup_cons,List.nodup_cons] at nd
 obtain ⟨n1,n2,n3⟩:=nd
 simp only [List.mem_cons,not_or] at nd1 nf n1
 have gF:∀ b o,Fz H0 (f :: c :: sp') FR b→H b=some o→Fz H0 (f :: d :: sp') FR b:=fun b o fz e=>⟨by
  have:=fz.1
  simp only [List.mem_cons,not_or] at this ⊢
  exact ⟨this.1,zE e d0,this.2.2⟩,fz.2⟩
 have sF:∀ b o,Fz H0 (f :: c :: sp') FR b→H b=some o→H2 b=some o:=fun b o fz e=>k b o (fun z=>fz.1 (by simp [z])) e
 refine ⟨fun b o e=>k b o (fun z=>by rw [z,fr f (by simp)] at e;cases e) (Z.sm b o e),k _ _ nf.1 Z.hf,?_,?_,?_,?_,Z.f0⟩
 ·refine ⟨f,tv,.ref c,d,[],fs',sp',rfl,rfl,hf,hd,by unfold RwsAt;rfl,fun n=>?_,.inr ⟨c,xs',g.D,rfl,rfl,⟨?_,fun z=>nf.2.1 z.symm,fr c (by simp)⟩,k _ _ (fun z=>n1.1 z.symm) h2',RwsAt.to _ gF sF h3⟩,FsAt.to gF sF gs (fun a ha o e=>k a o (fun z=>n1.2 (z ▸ ha)) e) h6⟩
  ·obtain ⟨te,a1,a2,a3,a4⟩:=h4 n
   exact ⟨te,a1,gF _ _ a2 a3,sF _ _ a2 a3,a4⟩
  ·simp only [List.mem_cons,not_or]
   exact ⟨fun z=>n1.1 z.symm,zE h2' d0,n2⟩
 ·rw [List.nodup_cons,List.nodup_cons]
  exact ⟨by simp only [List.mem_cons,not_or];exact ⟨fun z=>nd1.1 z.symm,n1.2⟩,nd1.2.2,n3⟩
 ·simp only [List.mem_cons,not_or]
  exact ⟨nf.1,Ne.symm ndF,nf.2.2⟩
 ·intro a ha
  simp only [List.mem_cons] at ha
  rcases ha with rfl | rfl | ha
  ·exact fr _ (by simp)
  ·exact fd
  ·exact fr a (by simp [ha])
theorem FZ.sp_nF {H0 H:Hp} {FR f c:Addr} {gs:List Gm} {fs:List V} {sp sp':List Addr} (Z:FZ H0 H FR gs fs sp) (e2:sp=f :: c :: sp'):FR≠f:=fun z=>Z.nf (by rw [e2,z];simp)
section
variable {p FR sa sb:Addr} {ws us:List Str} {c k:Int} {H0:Hp} {i:Nat} {gs:List Gm} {fs:List V} {sp:List Addr} {E:Xd}
theorem zbu (n1:NamesAt H0 sa ws) (n2:ws.length=4) (n3:NamesAt H0 sb us) (n4:us.length=3) (Z:FZ H0 H FR gs fs sp) (ok:okG gs) (l6:gs.length < 6) (sz:szG gs≤2 * i + 2) (q:∀ σ H',rwI p FR sa sb H0 (i + 1) σ H'→E.nx σ H') :
  vD K t E [some (.ref p),some (.ref sa),some (.ref sb),some (.ref FR),some (.int c),some (.int k)] H:=by
 simp only [vD,yw,L2.start,zn,zP,zR,zc,tC,yS,zb,zi,tBM,tyV,zm,List.map,List.replicate,List.length,List.append,jqa,jqb,jqc,jqd,jqe,jqf,jqg,jqh,jqi,jqj,jqk,jql,jqm,jqn,and_true,true_and,and_assoc,jqo,jqp,jqq,jqr,jqs,jqt,if_true,ite_true,jqu,ite_false,if_false]
 have lf:=Y6 Z
 refine ⟨.inl ⟨_,SqL.of Z.hf⟩,by decide,by decide,ws,n1.same Z.sm,n2,fun pt e H1 s1 fp1 hpt to te=>⟨by decide,fun cc gc=>⟨by decide,fun f gf=>?_⟩⟩⟩
 have s2:=isV (o:=HO.lst []) cc gc
 have S:=s1.trans s2
 have Z3:=Z.new (f:=f) S te (s2 _ _ hpt) fp1 zf (zD s1 gc) gf
 refine ⟨_,(S.trans (isV f gf)) _ _ Z.hf,Nat.lt_of_le_of_lt (by lia:_≤900) (by decide),?_⟩
 refine q _ _ ⟨_,_,_,⟨_,_,rfl⟩,Z3,⟨by show Rws.nil.deep + gs.length≤5;rw [Rws.deep];lia,⟨by unfold yX;trivial,by unfold yJ;trivial,by unfold x0;trivial⟩,⟨te,fun _=>to⟩,(fun A z=>nomatch z),ok⟩,by simp,by simp;lia,?_⟩
 show y0 .nil + 0 + 2 + szG gs≤_
 rw [y0];lia
theorem WQ (n1:NamesAt H0 sa ws) (n2:ws.length=4) (n3:NamesAt H0 sb us) (n4:us.length=3) (Z:FZ H0 H FR gs fs sp) (ok:okG gs) (ne:gs≠[]) (l6:gs.length≤6) (sz:szG gs≤2 * i + 2) (hi:i < 63) (q:∀ σ H',rwI p FR sa sb H0 (i + 1) σ H'→E.nx σ H') :
  vC K t E [some (.ref p),some (.ref sa),some (.ref sb),some (.ref FR),some (.int c),some (.int k)] H:=by
 simp only [vC,L2.start,zn,zP,zR,tOp,tUn,zc,tC,zb,zi,zA,qM,zp,tCB,tBM,tyV,zm,vL,yo,rEq,rI0,rU,wp,yn,List.map,List.replicate,List.length,List.append,jqa,jqb,jqc,jqd,jqe,jqf,jqg,jqh,jqi,jqj,jqk,jql,jqm,jqn,and_true,true_and,and_assoc,jqo,jqp,jqq,jqr,jqs,jqt,if_true,ite_true,jqu,ite_false,if_false]
 refine yE (fun _=>⟨gs.length,.inl ⟨_,SqL.of Z.hf,(Y6 Z).symm⟩,yE (fun h1=>?_) fun _=>Kx n1 n2 n3 n4 Z ok ne l6 sz hi q⟩) fun _=>Kx n1 n2 n3 n4 Z ok ne l6 sz hi q
 simp only [kB,xx,L2.start,zn,zP,zR,tOp,tUn,zc,tC,zb,zi,zA,qM,zp,tCB,tBM,tyV,zm,vL,yo,rEq,rI0,rU,wp,yn,List.map,List.replicate,List.length,List.append,jqa,jqb,jqc,jqd,jqe,jqf,jqg,jqh,jqi,jqj,jqk,jql,jqm,jqn,and_true,true_and,and_assoc,jqo,jqp,jqq,jqr,jqs,jqt,if_true,ite_true,jqu,ite_false,if_false]
 match gs,Z,ok,ne,l6,sz,h1 with
 | g :: h :: gs,Z,ok,ne,l6,sz,_ =>
  obtain ⟨k1,k2⟩:=V4 ok
  have a2:=jQ h.D
  have a3:szG (g :: h :: gs)=y0 g.D + szA g.a + 2 + (y0 h.D + szA h.a + 2 + szG gs):=rfl
  refine ⟨H0,g,h,gs,fs,sp,Z,by lia,fun fs' sp' H' Z'=>q _ _ ⟨_,fs',sp',⟨_,_,rfl⟩,Z',k1,by simp,by simp at l6 ⊢;lia,by rw [k2];lia⟩⟩
 | [g],Z,ok,ne,l6,sz,h1=>exact absurd h1 (by simp)
theorem Ky (n1:NamesAt H0 sa ws) (n2:ws.length=4) (n3:NamesAt H0 sb us) (n4:us.length=3) (Z:FZ H0 H FR gs fs sp) (ok:okG gs) (ne:gs≠[]) (l6:gs.length≤6) (sz:szG gs≤2 * i + 2) (hi:i < 63) (q:∀ σ H',rwI p FR sa sb H0 (i + 1) σ H'→E.nx σ H') :
  vE K t E [some (.ref p),some (.ref sa),some (.ref sb),some (.ref FR),some (.int c),some (.int k)] H:=by
 simp only [vE,ZK,L2.start,zn,zP,zq,zR,tOp,tUn,zc,tC,yS,zb,zi,zA,qM,zp,tCB,tBM,tyV,zm,vL,yo,rEq,rI0,rU,ZM,wp,yn,List.map,List.replicate,List.length,List.append,jqa,jqb,jqc,jqd,jqe,jqf,jqg,jqh,jqi,jqj,jqk,jql,jqm,jqn,and_true,true_and,and_assoc,jqo,jqp,jqq,jqr,jqs,jqt,if_true,ite_true,jqu,ite_false,if_false]
 have Z1:=Z
 refine yE (fun _=>⟨gs.length,.inl ⟨_,SqL.of Z1.hf,(Y6 Z1).symm⟩,yE (fun h1=>?_) fun _=>WQ n1 n2 n3 n4 Z1 ok ne l6 sz hi q⟩) fun _=>WQ n1 n2 n3 n4 Z1 ok ne l6 sz hi q
 cases gs with
 | nil=>exact absurd rfl ne
 | cons g gs =>
  obtain ⟨f,tv,fi,cc,xs,fs',sp',e1,e2,h1,h2,h3,h4,h5,h6⟩:=Z1.fa
  have hf:=Z1.hf
  have er:fs.reverse=fs'.reverse ++ [.ref f]:=by rw [e1,List.reverse_cons]
  rw [er] at hf
  refine ⟨_,SqL.of hf,_,qL,f,rfl,_,SqL.of h1,_,rfl,?_⟩
  refine yE (fun hn=>?_) fun _=>WQ n1 n2 n3 n4 Z1 ok ne l6 sz hi q
  simp only [kC,ZK,L2.start,zn,zP,zq,zR,tOp,tUn,zc,tC,yS,zb,zi,zA,qM,zp,tCB,tBM,tyV,zm,vL,yo,rEq,rI0,rU,ZM,wp,yn,List.map,List.replicate,List.length,List.append,jqa,jqb,jqc,jqd,jqe,jqf,jqg,jqh,jqi,jqj,jqk,jql,jqm,jqn,and_true,true_and,and_assoc,jqo,jqp,jqq,jqr,jqs,jqt,if_true,ite_true,jqu,ite_false,if_false]
  have sp0:=Z1.sp_nF e2
  refine ⟨_,SqL.of hf,_,qL,f,rfl,_,SqL.of h1,_,rfl,_,SqL.of hf,_,qL,f,rfl,_,h1,1,rfl,by decide,by decide,by decide,fun d gd=>?_⟩
  have ndf:d≠f:=fun z=>by rw [z,zf] at gd;cases gd
  have d0:H d=none:=by rw [zk ndf] at gd;exact gd
  have nFf:FR≠f:=sp0
  have hF2:upd (upd H f (HO.lst ([tv,fi,V.ref cc].set 1 (.ref cc)))) d (HO.lst []) FR=some (.lst (fs'.reverse ++ [.ref f])):=by
   rw [zk (fun z=>by rw [← z,hf] at d0;cases d0),zk nFf];exact hf
  have hf2:upd (upd H f (HO.lst ([tv,fi,V.ref cc].set 1 (.ref cc)))) d (HO.lst []) f=some (.lst [tv,.ref cc,.ref cc]):=by
   rw [zk (Ne.symm ndf),zf];rfl
  refine ⟨_,SqL.of hF2,_,qL,f,rfl,_,hf2,2,rfl,by decide,by decide,?_⟩
  have fn:fi=.non:=by simpa using hn
  have ga:g.a=none:=by
   rcases h5 with h5 | ⟨a,ys,A,a1,a2,_⟩
   ·exact h5.1
   ·rw [fn] at a2;cases a2
  have Z2:=Z1.turn e1 e2 h1 d0 (H2:=upd (upd (upd H f (HO.lst ([tv,fi,V.ref cc].set 1 (.ref cc)))) d (HO.lst [])) f (HO.lst ([tv,V.ref cc,V.ref cc].set 2 (.ref d)))) (fun b o n e=>by
   rw [zk n,zk (fun z=>by rw [z,d0] at e;cases e),zk n];exact e) (by rw [zf];rfl) (by rw [zk ndf,zf])
  obtain ⟨o1,o2,o3,o4,o5⟩:=ok
  refine q _ _ ⟨_,_,_,⟨_,_,rfl⟩,Z2,⟨by show Rws.nil.deep + gs.length≤5;rw [Rws.deep];lia,⟨by unfold yX;trivial,by unfold yJ;trivial,by unfold x0;trivial⟩,o3,fun A z=>?_,o5⟩,by simp,by simpa using l6,?_⟩
  ·have z:g.D=A:=Option.some.inj z
   rw [← z];exact ⟨o1,o2⟩
  ·have a3:szG (g :: gs)=y0 g.D + szA g.a + 2 + szG gs:=rfl
   rw [ga] at a3
   have a4:szA none=0:=rfl
   show y0 .nil + y0 g.D + 2 + szG gs≤_
   rw [y0];lia
end
def whI (p FR sa sb:Addr) (H0:Hp) (N:Nat) (o3 o4:Option V) (m:Nat) (σ:St) (H':Hp):Prop:=∃ gs fs sp,σ=[some (.ref p),some (.ref sa),some (.ref sb),some (.ref FR),o3,o4]∧FZ H0 H' FR gs fs sp∧okG gs∧gs.length=m∧gs≠[]∧szG gs≤N
theorem Qd {p FR sa sb:Addr} {H0:Hp} {o3 o4:Option V} {gs:List Gm} {fs:List V} {sp:List Addr} (Z:FZ H0 H FR gs fs sp) (ok:okG gs) (ne:gs≠[]) {N:Nat} (hN:N≤34) (sz:szG gs≤N) (q:∀ v r H',Same H0 H'→RlAt (fun b=>H0 b=none) H' v r→Xj r→r.cnt + 2≤N→Q v H') :
  vF K t { nx:=fun _ H'=>Q .non H',rt:=Q } [some (.ref p),some (.ref sa),some (.ref sb),some (.ref FR),o3,o4] H:=by
 simp only [vF,Jf,xx,L2.start,zq,zu,zR,tOp,zc,tC,zb,zi,zp,tCB,zm,vL,yo,rI0,wp,List.map,List.replicate,List.length,List.append,jqa,jqb,jqc,jqd,jqe,jqf,jqg,jqh,jqi,jqj,jqk,jql,jqm,jqn,and_true,true_and,and_assoc,jqo,jqp,jqq,jqr,jqs,jqt,if_true,ite_true,jqu,ite_false,if_false]
 refine ⟨whI p FR sa sb H0 N o3 o4,⟨_,gs,fs,sp,rfl,Z,ok,rfl,ne,sz⟩,?_⟩
 rintro m σ H1 ⟨gs,fs,sp,rfl,Z,ok,rfl,ne,sz⟩
 simp only [L2.start,zq,zu,zR,tOp,zc,tC,zb,zi,zp,tCB,zm,vL,yo,rI0,wp,List.map,List.replicate,List.length,List.append,jqa,jqb,jqc,jqd,jqe,jqf,jqg,jqh,jqi,jqj,jqk,jql,jqm,jqn,and_true,true_and,and_assoc,jqo,jqp,jqq,jqr,jqs,jqt,if_true,ite_true,jqu,ite_false,if_false]
 refine ⟨gs.length,.inl ⟨_,SqL.of Z.hf,(Y6 Z).symm⟩,yE (fun c1=>?_) fun c1=>?_⟩
 ·match gs,Z,ok,ne,sz,c1 with
  | g :: h :: gs,Z,ok,ne,sz,_ =>
   obtain ⟨k1,k2⟩:=V4 ok
   have a2:=jQ h.D
   have a3:szG (g :: h :: gs)=y0 g.D + szA g.a + 2 + (y0 h.D + szA h.a + 2 + szG gs):=rfl
   refine ⟨whI p FR sa sb H0 N o3 o4 (gs.length + 1),fun σ' H' z=>⟨gs.length + 1,by simp,z⟩,H0,g,h,gs,fs,sp,Z,by lia,fun fs' sp' H' Z'=>⟨_,fs',sp',rfl,Z',k1,by simp,by simp,by rw [k2];exact sz⟩⟩
  | [g],Z,ok,ne,sz,h1=>exact absurd h1 (by simp)
 ·match gs,Z,ok,ne,sz,c1 with
  | [g],Z,ok,ne,sz,_ =>
   obtain ⟨f,tv,fi,cc,xs,fs',sp',e1,e2,h1,h2,h3,h4,h5,h6⟩:=Z.fa
   have hf:=Z.hf
   obtain ⟨rfl,rfl⟩:=h6
   subst e1
   obtain ⟨o1,o2,o3',o4',o5⟩:=ok
   have a1:=jQ g.D
   have a3:szG [g]=y0 g.D + szA g.a + 2 + 0:=rfl
   have fr:=Z.fr cc (by rw [e2];simp)
   refine ⟨_,SqL.of hf,_,rfl,f,rfl,_,SqL.of h1,_,rfl,?_⟩
   exact q (.ref cc) g.D _ Z.sm ⟨cc,xs,rfl,fr,h2,RwsAt.to _ (fun b o fz _=>fz.2.2) (fun b o _ e=>e) h3⟩ ⟨o2.2.1,by simp at o1;lia,by lia,o2.1,o2.2.2⟩ (by lia)
  | g :: h :: gs,Z,ok,ne,sz,h1=>exact absurd (show (1:Int) < ((g :: h :: gs).length:Nat) by simp;lia) h1
  | [],Z,ok,ne,sz,h1=>exact absurd rfl ne
theorem Qe {p FR sa sb:Addr} {ws us:List Str} {H0:Hp} {ns:List Int} {gs:List Gm} {fs:List V} {sp:List Addr} (hp:H0 p=some (.lst (ns.map V.int))) (hn:ns.length≤16) (n1:NamesAt H0 sa ws) (n2:ws.length=4) (n3:NamesAt H0 sb us) (n4:us.length=3) (Z:FZ H0 H FR gs fs sp) (ok:okG gs) (ne:gs≠[]) (l6:gs.length≤6) (sz:szG gs≤2) (q:∀ v r H',Same H0 H'→RlAt (fun b=>H0 b=none) H' v r→Xj r→r.cnt≤2 * ns.length→Q v H') :
  vG K t { nx:=fun _ H'=>Q .non H',rt:=Q } [some (.ref p),some (.ref sa),some (.ref sb),some (.ref FR),none,none] H:=by
 simp only [vG,zo,ZK,L2.start,zn,zP,zq,zG,zl,zu,zR,tOp,tUn,zc,tC,yS,zS,zb,zi,ym,zA,qM,zp,tCB,tBM,tyV,zm,vL,yQ,yo,rEq,rI,rI0,rU,rIn,ZM,wp,yn,List.map,List.replicate,List.length,List.append,jqa,jqb,jqc,jqd,jqe,jqf,jqg,jqh,jqi,jqj,jqk,jql,jqm,jqn,and_true,true_and,and_assoc,jqo,jqp,jqq,jqr,jqs,jqt,if_true,ite_true,jqu,ite_false,if_false]
 refine ⟨⟨_,SqL.of (Z.sm _ _ hp)⟩,jj (ns.map V.int) (rwI p FR sa sb H0) ⟨gs,fs,sp,⟨_,_,rfl⟩,Z,ok,ne,l6,sz⟩ (fun i σ H' ⟨_,_,_,_,Z,_⟩=>SqL.of (Z.sm _ _ hp)) ?_ ?_⟩
 ·rintro i v σ H' hv ⟨gs,fs,sp,⟨o3,o4,rfl⟩,Z,ok,ne,l6,sz⟩
  obtain ⟨c,_,rfl⟩:=List.mem_map.mp (List.mem_of_getElem? hv)
  have hi:i < 63:=by have:=(List.getElem?_eq_some_iff.mp hv).1;rw [List.length_map] at this;lia
  simp only [ZK,L2.start,zn,zP,zq,zG,zl,zu,zR,tOp,tUn,zc,tC,yS,zS,zb,zi,ym,zA,qM,zp,tCB,tBM,tyV,zm,vL,yQ,yo,rEq,rI,rI0,rU,rIn,ZM,wp,yn,List.map,List.replicate,List.length,List.append,jqa,jqb,jqc,jqd,jqe,jqf,jqg,jqh,jqi,jqj,jqk,jql,jqm,jqn,and_true,true_and,and_assoc,jqo,jqp,jqq,jqr,jqs,jqt,if_true,ite_true,jqu,ite_false,if_false]
  refine ⟨by decide,by decide,fun r1 H1 a1 b1 s1=>⟨by decide,by decide,fun p1 g1=>?_⟩⟩
  have Zp:=(Z.same s1).same (isV (o:=HO.tup [V.int 12,V.int 13]) p1 g1)
  exact ⟨_,.inr (SqT.of zf),rfl,by decide,yE (fun _=>⟨gs.length,.inl ⟨_,SqL.of Zp.hf,(Y6 Zp).symm⟩,yE (fun h6=>zbu n1 n2 n3 n4 Zp ok (by lia) sz fun σ H' z=>z) fun _=>Ky n1 n2 n3 n4 Zp ok ne l6 sz hi fun σ H' z=>z⟩) fun _=>Ky n1 n2 n3 n4 Zp ok ne l6 sz hi fun σ H' z=>z⟩
 ·rintro σ H' ⟨gs,fs,sp,⟨o3,o4,rfl⟩,Z,ok,ne,l6,sz⟩
  rw [List.length_map] at sz
  exact Qd Z ok ne (N:=2 * ns.length + 2) (by lia) (by lia) fun v r H' z1 z2 z3 z4=>q v r H' z1 z2 z3 (by lia)
theorem Xr {p:Addr} {ns:List Int} {sa sb:Addr} {ws us:List Str} (hp:H p=some (.lst (ns.map V.int))) (hn:ns.length≤16) (n1:NamesAt H sa ws) (n2:ws.length=4) (n3:NamesAt H sb us) (n4:us.length=3) (q:∀ v r H',Same H H'→RlAt (fun b=>H b=none) H' v r→Xj r→r.cnt≤2 * ns.length→Q v H') :
  jM K t { nx:=fun _ H'=>Q .non H',rt:=Q } (L2.start ["cells","slots","shelves","frames","cell","kind"] [.ref p,.ref sa,.ref sb]) H:=by
 simp only [jM,ZK,L2.start,zn,zP,zq,zG,zl,zu,zR,tOp,tUn,zc,tC,yS,zS,zb,zi,ym,zA,qM,zp,tCB,tBM,tyV,zm,vL,yQ,yo,rEq,rI,rI0,rU,rIn,ZM,wp,yn,List.map,List.replicate,List.length,List.append,jqa,jqb,jqc,jqd,jqe,jqf,jqg,jqh,jqi,jqj,jqk,jql,jqm,jqn,and_true,true_and,and_assoc,jqo,jqp,jqq,jqr,jqs,jqt,if_true,ite_true,jqu,ite_false,if_false]
 refine ⟨by decide,fun c gc=>⟨by decide,fun f gf=>⟨by decide,fun FR gF=>?_⟩⟩⟩
 have s1:=isV (o:=HO.lst []) c gc
 have s2:=isV (o:=HO.lst [V.non,V.non,V.ref c]) f gf
 have s3:=isV (o:=HO.lst [V.ref f]) FR gF
 have nfc:f≠c:=wu zf gf
 have nF1:FR≠f:=wu zf gF
 have nF2:FR≠c:=wu (s2 _ _ zf) gF
 refine Qe (gs:=[⟨[],none,.nil⟩]) (fs:=[.ref f]) (sp:=[f,c]) hp hn n1 n2 n3 n4 ⟨s1.trans (s2.trans s3),zf,?_,by simp [nfc],by simp [nF1,nF2],fun a ha=>?_,zD (s1.trans s2) gF⟩ ⟨by simp [Rws.deep],⟨by unfold yX;trivial,by unfold yJ;trivial,by unfold x0;trivial⟩,⟨(fun _ z=>nomatch z),fun z=>absurd rfl z⟩,(fun A z=>nomatch z),trivial⟩ (by simp) (by decide) (by simp [szG,y0,szA]) q
 ·exact ⟨f,.non,.non,c,[],[],[],rfl,rfl,s3 _ _ zf,(s2.trans s3) _ _ zf,by unfold RwsAt;rfl,fun n=>absurd rfl n,.inl ⟨rfl,rfl⟩,rfl,rfl⟩
 ·simp only [List.mem_cons,List.not_mem_nil,or_false] at ha
  rcases ha with rfl | rfl
  ·exact zD s1 gf
  ·exact gc
def zbv (R:List Row) (n:Nat):Prop:=R.length≤n∧∀ r∈R,yF r.1.1=true∧inW r.2=true
def tbI (σ0:Option V→Option V→St) (wd:Addr) (H0:Hp) (i:Nat) (σ:St) (H:Hp):Prop:=(∃ o o',σ=σ0 o o')∧(∀ b u,b≠wd→H0 b=some u→H b=some u)∧∃ R,H wd=some (.dT (dOf R))∧zbv R i
theorem zcr {wd pl:Addr} {R:List Row} {n:Nat} {p:Pl} {w:Int} (hw:H wd=some (.dT (dOf R))) (hi:zbv R n) (lq:n≤310) (hp:H pl=some (.tup [.str p.1,.int p.2])) (np:yF p.1=true) (sw:inW w=true):∃ H',DPut H wd (.ref pl) (.int w) H'∧H' wd=some (.dT (dOf (R ++ [(p,w)])))∧zbv (R ++ [(p,w)]) (n + 1)∧∀ b u,b≠wd→H b=some u→H' b=some u:=by
 have l:=vf R
 have l2:=hi.1
 refine ⟨_,DPut.t (k:=zV p) hw hp (Nat.lt_of_le_of_lt (by lia:_≤900) (by decide)),?_,⟨by rw [List.length_append,List.length_singleton];lia,fun r hr=>?_⟩,fun b u n e=>by rw [zk n];exact e⟩
 ·rw [zf,Za]
 ·rcases List.mem_append.mp hr with hr | hr
  ·exact hi.2 r hr
  ·rw [List.mem_singleton.mp hr];exact ⟨np,sw⟩
theorem JJ {c:Int} {b wd:Addr} {H0:Hp} {R:List Row} {o3 o4:Option V} (hw:H wd=some (.dT (dOf R))) (hi:zbv R 8) (S:Same H0 H) (q:∀ l tab H',Same H0 H'→H0 l=none→LsAt H' l tab→TaK 8 tab→Q (.ref l) H') :
  va K t { nx:=fun _ H'=>Q .non H',rt:=Q } [some (.int c),some (.ref b),some (.ref wd),o3,o4] H:=by
 simp only [va,jF,VG,L2.start,zu,zc,zb,zi,tCB,List.map,List.replicate,List.length,List.append,jqa,jqb,jqc,jqd,jqe,jqf,jqg,jqh,jqi,jqj,jqk,jql,jqm,jqn,and_true,true_and,and_assoc,jqo,jqp,jqq,jqr,jqs,jqt,if_true,ite_true,jqu,ite_false,if_false]
 have l1:=vf R
 have l2:=hi.1
 refine ⟨_,hw,fun r hr=>⟨wd,zf,R,isV r hr _ _ hw,by lia,fun l zs srt H3 s3 fl hl pz ri mi=>?_⟩⟩
 have S3:=(isV (o:=qi r wd) r hr).trans s3
 refine q l srt H3 (S.trans S3) (zD (S.trans (isV (o:=qi r wd) r hr)) fl) ⟨zs,hl,pz⟩ ⟨ri,fun x hx=>hi.2 _ (kI ((mi x.1 x.2).mp hx)),?_⟩
 have:=Zt ri.nd (b:=R.map (·.1)) fun p hp=>by
  obtain ⟨x,hx,rfl⟩:=List.mem_map.mp hp
  exact List.mem_map_of_mem (f:=(·.1)) (kI ((mi x.1 x.2).mp hx))
 rw [List.length_map,List.length_map] at this
 lia
theorem Y7 {c:Int} {b:Addr} {us:List Str} (h1:NamesAt H b us) (h2:us.length=3) (q:∀ l tab H',Same H H'→H l=none→LsAt H' l tab→TaK 8 tab→Q (.ref l) H') :
  v3 K t { nx:=fun _ H'=>Q .non H',rt:=Q } (L2.start ["cell","shelves","worths","k","worth"] [.int c,.ref b]) H:=by
 simp only [v3,jX,zo,xj,Wk,jF,VG,L2.start,zq,zG,zl,zu,zx,tOp,zc,tC,zS,zb,zi,ym,zA,zp,tCB,zm,xQ,yo,rNe,rI,rI0,yn,List.map,List.replicate,List.length,List.append,jqa,jqb,jqc,jqd,jqe,jqf,jqg,jqh,jqi,jqj,jqk,jql,jqm,jqn,and_true,true_and,and_assoc,jqo,jqp,jqq,jqr,jqs,jqt,if_true,ite_true,jqu,ite_false,if_false]
 intro wd hwd
 have big':(1000000000000000000000000000000000000000000000000000000000000:Int) < big:=by decide +kernel
 have s0:=isV (o:=HO.dT []) wd hwd
 have hw:upd H wd (HO.dT []) wd=some (.dT (dOf [])):=zf
 generalize upd H wd (HO.dT [])=H0 at *
 refine ⟨by decide,by decide,fun r1 H1 _ _ s1=>⟨by decide,?_⟩⟩
 have g1:=Int.emod_nonneg r1 (b:=9) (by decide)
 have g2:=Int.emod_lt_of_pos r1 (b:=9) (by decide)
 have hw1:=s1 _ _ hw
 have S1:=s0.trans s1
 have hb1:=h1.same S1
 have ne:∀ {b:Addr} {zs:List V},H1 b=some (.lst zs)→b≠wd:=fun e=>xF e hw1 (fun z=>nomatch z)
 refine ⟨by lia,by lia,qu (tbI (fun o o'=>[some (.int c),some (.ref b),some (.ref wd),o,o']) wd H1) ⟨⟨_,_,rfl⟩,fun b u _ e=>e,[],hw1,Nat.zero_le _,fun r h=>nomatch h⟩ ?_ ?_⟩
 ·rintro i σ H2 hil ⟨⟨o,o',rfl⟩,kp,R,hw,hi⟩
  have il:i < 9:=by lia
  simp only [zo,yA,xj,Wk,jF,VG,L2.start,zq,zG,zl,zu,zx,tOp,zc,tC,zS,zb,zi,ym,zA,zp,tCB,zm,xQ,yo,rNe,rI,rI0,yn,List.map,List.replicate,List.length,List.append,jqa,jqb,jqc,jqd,jqe,jqf,jqg,jqh,jqi,jqj,jqk,jql,jqm,jqn,and_true,true_and,and_assoc,jqo,jqp,jqq,jqr,jqs,jqt,if_true,ite_true,jqu,ite_false,if_false,Int.zero_add]
  refine ⟨⟨⟨by lia,by lia⟩,by lia,by lia⟩,by lia,by lia,fun w H3 sw s3=>yE (fun _=>?_) fun _=>⟨⟨_,_,rfl⟩,fun b u n e=>s3 _ _ (kp b u n e),R,s3 _ _ hw,Nat.le_trans hi.1 (by lia),hi.2⟩⟩
  have hb3:NamesAt H3 b us:=⟨s3 _ _ (kp _ _ (ne hb1.1) hb1.1),hb1.2⟩
  refine ⟨by lia,by lia,fun r2 H4 _ _ s4=>⟨by decide,?_⟩⟩
  obtain ⟨x,hx,_,hn⟩:=kJ (hb3.same s4) 3 h2 (by decide) r2
  refine ⟨_,SqL.of (s4 _ _ hb3.1),_,hx,by lia,by lia,fun r3 H5 _ _ s5=>⟨by decide,by decide,fun p1 hp1=>?_⟩⟩
  have s6:=isV (o:=HO.tup [V.str x,V.int (r3 % 4 - 1)]) p1 hp1
  have e6:upd H5 p1 (HO.tup [V.str x,V.int (r3 % 4 - 1)]) p1=some (.tup [.str (x,r3 % 4 - 1).1,.int (x,r3 % 4 - 1).2]):=zf
  generalize upd H5 p1 (HO.tup [V.str x,V.int (r3 % 4 - 1)])=H6 at *
  have T:=s3.trans (s4.trans (s5.trans s6))
  obtain ⟨H7,g1,g2,g3,g4⟩:=zcr (p:=(x,r3 % 4 - 1)) (w:=w) (T _ _ hw) hi (by lia) e6 hn sw
  exact ⟨H7,g1,⟨_,_,rfl⟩,fun b u n e=>g4 b u n (T _ _ (kp b u n e)),_,g2,g3⟩
 ·rintro σ H2 ⟨⟨o,o',rfl⟩,kp,R,hw,hi⟩
  exact JJ (H0:=H) hw ⟨Nat.le_trans hi.1 (by lia),hi.2⟩ (fun b u e=>kp b u (fun z=>by rw [z,hwd] at e;cases e) (S1 _ _ e)) q
theorem Qf (a b:Int):yD (Str.ofString "plus") a b=a + b:=rfl
theorem JK (a b:Int):yD (Str.ofString "minus") a b=a - b:=by unfold yD;rw [if_neg (by decide +kernel),if_pos rfl]
theorem JL (a b:Int):yD (Str.ofString "times") a b=a * b:=by unfold yD;rw [if_neg (by decide +kernel),if_neg (by decide +kernel),if_pos rfl]
theorem JM (a b:Int):yD (Str.ofString "under") a b=if a < b then 1 else 0:=by unfold yD;rw [if_neg (by decide +kernel),if_neg (by decide +kernel),if_neg (by decide +kernel),if_pos rfl]
theorem Qg (a b:Int):yD (Str.ofString "same") a b=if a=b then 1 else 0:=by unfold yD;rw [if_neg (by decide +kernel),if_neg (by decide +kernel),if_neg (by decide +kernel),if_neg (by decide +kernel),if_pos rfl]
theorem Qh (a b:Int):yD (Str.ofString "over") a b=a.fdiv b:=by unfold yD;rw [if_neg (by decide +kernel),if_neg (by decide +kernel),if_neg (by decide +kernel),if_neg (by decide +kernel),if_neg (by decide +kernel),if_pos rfl]
theorem Qi (a b:Int):yD (Str.ofString "rest") a b=a.fmod b:=by unfold yD;rw [if_neg (by decide +kernel),if_neg (by decide +kernel),if_neg (by decide +kernel),if_neg (by decide +kernel),if_neg (by decide +kernel),if_neg (by decide +kernel)]
theorem zay {a b:Int} (ha:inW a=true) (hb:inW b=true):CMulB a b:=by
 rw [inW_iff] at ha hb
 have hb':(1000000000000000000000000000000000000000000000000000000000000:Int) < big:=by decide +kernel
 exact ⟨by lia,by lia⟩
theorem zbw {w:Str} (h:isJ (.str w)=true):w=Str.ofString "plus"∨w=Str.ofString "minus"∨w=Str.ofString "times"∨w=Str.ofString "over"∨w=Str.ofString "rest"∨w=Str.ofString "under"∨w=Str.ofString "same":=by
 unfold isJ inV jw at h
 simp only [List.any_cons,List.any_nil,eqV,Bool.or_false,Bool.or_eq_true,decide_eq_true_eq,beq_iff_eq] at h
 rcases h with h | h | h | h | h | h | h
 ·exact .inl h.symm
 ·exact .inr (.inl h.symm)
 ·exact .inr (.inr (.inl h.symm))
 ·exact .inr (.inr (.inr (.inl h.symm)))
 ·exact .inr (.inr (.inr (.inr (.inl h.symm))))
 ·exact .inr (.inr (.inr (.inr (.inr (.inl h.symm)))))
 ·exact .inr (.inr (.inr (.inr (.inr (.inr h.symm)))))
theorem WR {a b v:Int} {w:Str} (e:yD w a b=v) (nd:¬ qh w) (q:∀ H',Same H H'→Q (zar (yR w a b)) H'):Yi 10 30∧if 1000000000000000000000000000000 < v then Q (V.str (Str.ofString "great")) H else Yi 10 30∧if v < -1000000000000000000000000000000 then Q (V.str (Str.ofString "great")) H else Q (V.int v) H:=by
 have P30:=VU (j:=30) (by decide) (by decide)
 have q:=q H (Same.refl H)
 unfold yR at q
 rw [if_neg (fun z=>nd z.1),e] at q
 refine ⟨P30,yE (fun c=>?_) fun c=>⟨P30,yE (fun d=>?_) fun d=>?_⟩⟩
 ·rw [if_neg (fun z=>by have:=inW_iff.mp z;lia)] at q;exact q
 ·rw [if_neg (fun z=>by have:=inW_iff.mp z;lia)] at q;exact q
 ·rw [if_pos (inW_iff.mpr (by lia))] at q;exact q
theorem Z9 {w:Str} {a b v:Int} (e:yD w a b=v) (hn:¬ (qh w∧b=0)) (hv:inW v=true):yR w a b=.ok v:=by unfold yR;rw [if_neg hn,e,if_pos hv]
theorem Y8 {a b:Int} {w:Str} (hw:w=Str.ofString "plus"∨w=Str.ofString "minus"∨w=Str.ofString "times") (ia:inW a=true) (ib:inW b=true) (q:∀ H',Same H H'→Q (zar (yR w a b)) H') :
  v5 K t { nx:=fun _ H'=>Q .non H',rt:=Q } [some (.int a),some (.int b),some (.str w),none] H:=by
 simp only [v5,L2.start,zq,zG,zl,zu,zx,tOp,tUn,zc,tC,zA,tOr,zp,rEq,rI,rI0,rU,yn,List.map,List.replicate,List.length,List.append,jqa,jqb,jqc,jqd,jqe,jqf,jqg,jqh,jqi,jqj,jqk,jql,jqm,jqn,and_true,true_and,and_assoc,jqo,jqp,jqq,jqr,jqs,jqt,if_true,ite_true,jqu,ite_false,if_false]
 refine ⟨zay ia ib,?_⟩
 rcases hw with rfl | rfl | rfl
 ·rw [if_pos rfl,if_neg (by decide +kernel)];exact WR (Qf a b) (by decide +kernel) q
 ·rw [if_neg (by decide +kernel),if_pos rfl];exact WR (JK a b) (by decide +kernel) q
 ·rw [if_neg (by decide +kernel),if_neg (by decide +kernel)];exact WR (JL a b) (by decide +kernel) q
theorem WS {a b:Int} {w:Str} (h1:isJ (.str w)=true) (h2:inW a=true) (h3:inW b=true) (q:∀ H',Same H H'→Q (zar (yR w a b)) H') :
  kD K t { nx:=fun _ H'=>Q .non H',rt:=Q } (L2.start ["one","other","word","made"] [.int a,.int b,.str w]) H:=by
 simp only [kD,L2.start,ZD,zq,zG,zl,zu,zx,tOp,tUn,zc,tC,zS,zb,zi,zA,qM,tOr,zp,tCB,rEq,rI,rI0,rU,rIn,yn,List.map,List.replicate,List.length,List.append,jqa,jqb,jqc,jqd,jqe,jqf,jqg,jqh,jqi,jqj,jqk,jql,jqm,jqn,and_true,true_and,and_assoc,jqo,jqp,jqq,jqr,jqs,jqt,if_true,ite_true,jqu,ite_false,if_false]
 refine ⟨by decide,fun p hp=>⟨_,.inr (SqT.of zf),rfl,by decide +kernel,?_⟩⟩
 have s1:=isV (o:=HO.tup [V.str (Str.ofString "over"),V.str (Str.ofString "rest")]) p hp
 have q:∀ H',Same (upd H p (HO.tup [V.str (Str.ofString "over"),V.str (Str.ofString "rest")])) H'→Q (zar (yR w a b)) H':=fun H' s=>q H' (s1.trans s)
 have q0:=q _ (Same.refl _)
 have B:=Z4 h3
 rcases zbw h1 with rfl | rfl | rfl | rfl | rfl | rfl | rfl
 ·rw [if_neg (by decide +kernel),if_neg (by decide +kernel),if_neg (by decide +kernel),if_neg (by decide +kernel),if_neg (by decide +kernel)]
  exact Y8 (.inl rfl) h2 h3 q
 ·rw [if_neg (by decide +kernel),if_neg (by decide +kernel),if_neg (by decide +kernel),if_neg (by decide +kernel),if_neg (by decide +kernel)]
  exact Y8 (.inr (.inl rfl)) h2 h3 q
 ·rw [if_neg (by decide +kernel),if_neg (by decide +kernel),if_neg (by decide +kernel),if_neg (by decide +kernel),if_neg (by decide +kernel)]
  exact Y8 (.inr (.inr rfl)) h2 h3 q
 ·rw [if_pos (by decide +kernel)]
  refine yE (fun e=>?_) fun e=>?_
  ·unfold yR at q0
   rw [if_pos ⟨by decide +kernel,e⟩] at q0
   exact q0
  ·rw [if_pos rfl]
   rw [Z9 (Qh a b) (fun z=>e z.2) (Vm h2 e)] at q0
   exact ⟨⟨e,B.1,B.2⟩,q0⟩
 ·rw [if_pos (by decide +kernel)]
  refine yE (fun e=>?_) fun e=>?_
  ·unfold yR at q0
   rw [if_pos ⟨by decide +kernel,e⟩] at q0
   exact q0
  ·rw [if_neg (by decide +kernel),if_pos rfl]
   rw [Z9 (Qi a b) (fun z=>e z.2) (QP h3 e)] at q0
   have e2:a - a.fdiv b * b=a.fmod b:=by
    have:=Int.mul_fdiv_add_fmod a b
    rw [Int.mul_comm] at this
    lia
   rw [e2]
   exact ⟨⟨e,B.1,B.2⟩,zay (Vm h2 e) h3,q0⟩
 ·rw [if_neg (by decide +kernel),if_neg (by decide +kernel),if_neg (by decide +kernel),if_pos rfl]
  rw [Z9 (JM a b) (fun z=>absurd z.1 (by decide +kernel)) (by split <;> decide +kernel)] at q0
  exact q0
 ·rw [if_neg (by decide +kernel),if_neg (by decide +kernel),if_neg (by decide +kernel),if_neg (by decide +kernel),if_pos rfl]
  rw [Z9 (Qg a b) (fun z=>absurd z.1 (by decide +kernel)) (by split <;> decide +kernel)] at q0
  exact q0
section
variable {tm d sl wo sa l:Addr} {e:List V} {s:Sta} {w:Str}
theorem LsH.same {H':Hp} (L:LsH H d sl wo sa s w) (k:Same H H'):LsH H' d sl wo sa s w:=⟨k _ _ L.hd,k _ _ L.hs,k _ _ L.hw,k _ _ L.ha,L.nd⟩
theorem Lk4.of {H':Hp} (k:Same H H'):Lk4 d sl wo sa H H':=fun b o _ _ _ _ e=>k b o e
theorem Lk4.trans {H' H'':Hp} (h:Lk4 d sl wo sa H H') (k:Lk4 d sl wo sa H' H''):Lk4 d sl wo sa H H'':=fun b o n1 n2 n3 n4 e=>k b o n1 n2 n3 n4 (h b o n1 n2 n3 n4 e)
theorem LsH.gS (L:LsH H d sl wo sa s w):DGet H d (.str (Str.ofString "slots")) (some (.ref sl)):=by
 have:=DGet.k (k:=.inr (Str.ofString "slots")) L.hd
 exact this
theorem LsH.gN (L:LsH H d sl wo sa s w):DGet H d (.str (Str.ofString "now")) (some (.ref wo)):=by
 have:=DGet.k (k:=.inr (Str.ofString "now")) L.hd
 exact this
theorem LsH.gA (L:LsH H d sl wo sa s w):DGet H d (.str (Str.ofString "said")) (some (.ref sa)):=by
 have:=DGet.k (k:=.inr (Str.ofString "said")) L.hd
 exact this
theorem LsH.gW (L:LsH H d sl wo sa s w):DGet H d (.str (Str.ofString "why")) (some (.str w)):=by
 have:=DGet.k (k:=.inr (Str.ofString "why")) L.hd
 exact this
theorem LsH.nds (L:LsH H d sl wo sa s w):d≠wo∧d≠sa∧sl≠wo∧sl≠sa∧wo≠sa:=⟨xF L.hd L.hw (fun z=>nomatch z),xF L.hd L.ha (fun z=>nomatch z),xF L.hs L.hw (fun z=>nomatch z),xF L.hs L.ha (fun z=>nomatch z),xF L.hw L.ha (fun z=>nomatch z)⟩
theorem LsH.putW (L:LsH H d sl wo sa s w) (y:Str):∃ H',DPut H d (.str (Str.ofString "why")) (.str y) H'∧LsH H' d sl wo sa s y∧∀ b o,b≠d→H b=some o→H' b=some o:=by
 have P:=DPut.k (k:=.inr (Str.ofString "why")) (v:=V.str y) L.hd (Nat.lt_of_le_of_lt (show 4≤900 by decide) (by decide))
 have n:=L.nds
 refine ⟨_,P,⟨?_,by rw [zk (Ne.symm L.nd)];exact L.hs,by rw [zk (Ne.symm n.1)];exact L.hw,by rw [zk (Ne.symm n.2.1)];exact L.ha,L.nd⟩,fun b o m e=>by rw [zk m];exact e⟩
 rw [zf]
 rfl
theorem Y9 (F:KF K) (h1:H tm=some (.tup e)) (L:LsH H d sl wo sa s w) (h3:TermOk e) (h4:xy s.sl) (q1:∀ i H',rk s.sl e=.ok i→Same H H'→Q (.int i) H') (q2:∀ x H',rk s.sl e=.error x→Lk4 d sl wo sa H H'→LsH H' d sl wo sa s (YQ x)→Q .non H') :
  v6 K t { nx:=fun _ H'=>Q .non H',rt:=Q } (L2.start ["term","state","parts","part","other","made"] [.ref tm,.ref d]) H:=by
 simp only [v6,xj,yC,zW,L2.start,zW,zn,yz,zP,Ym,zq,zG,zl,zu,zR,zx,tOp,zc,tC,yS,zS,zb,zi,ym,zA,zp,tB,tCB,tBM,qc,tyV,zm,Yg,yo,rIn,ki,List.map,List.replicate,List.length,List.append,jqa,jqb,jqc,jqd,jqe,jqf,jqg,jqh,jqi,jqj,jqk,jql,jqm,jqn,and_true,true_and,and_assoc,jqo,jqp,jqq,jqr,jqs,jqt,if_true,ite_true,jqu,ite_false,if_false]
 refine ⟨by decide,fun l hl=>⟨⟨_,SqT.of (isV l hl _ _ h1)⟩,?_⟩⟩
 have G:=h3.good s.sl
 have run0:=G.1 []
 have ns:wz s.sl e []≠.error .stuck:=fun z=>by
  rw [z] at run0
  cases r:rk s.sl e with
  | ok i=>rw [r] at run0;cases run0
  | error e'=>rw [r] at run0;cases run0;exact G.2 r
 refine Yx e (rkI s.sl e tm d l H) ⟨[],⟨_,_,_,rfl⟩,rfl,(fun x z=>nomatch z),Nat.le_refl _,zf,isV l hl⟩ (fun i σ H' ⟨st,a,b,c,dd,ee,s⟩=>SqT.of (s _ _ h1)) ?_ ?_
 ·rintro i v σ H' hv ⟨st,⟨o3,o4,o5,rfl⟩,hr,hW,hl',hst,hS⟩
  have hi:i < e.length:=(List.getElem?_eq_some_iff.mp hv).1
  have le:=h3.2.2
  have one:=J7 hr hv
  have ok:=h3.2.1 v (List.mem_of_getElem? hv)
  have fl:qe v=true:=by rcases ok with ⟨j,rfl,_⟩ | ⟨x,rfl,_⟩ <;> rfl
  simp only [jY,kz,xj,yC,zW,L2.start,zW,zn,yz,zP,Ym,zq,zG,zl,zu,zR,zx,tOp,zc,tC,yS,zS,zb,zi,ym,zA,zp,tB,tCB,tBM,qc,tyV,zm,Yg,yo,rIn,ki,List.map,List.replicate,List.length,List.append,jqa,jqb,jqc,jqd,jqe,jqf,jqg,jqh,jqi,jqj,jqk,jql,jqm,jqn,and_true,true_and,and_assoc,jqo,jqp,jqq,jqr,jqs,jqt,if_true,ite_true,jqu,ite_false,if_false]
  refine ⟨by decide,fun p hp=>⟨jw,.inr (SqT.of zf),fl,rfl,?_⟩⟩
  have s1:=isV (o:=HO.tup [V.str (Str.ofString "plus"),V.str (Str.ofString "minus"),V.str (Str.ofString "times"),V.str (Str.ofString "over"),V.str (Str.ofString "rest"),V.str (Str.ofString "under"),V.str (Str.ofString "same")]) p hp
  have hst1:=s1 _ _ hst
  have hS1:=hS.trans s1
  have hl1:∀ b u,H b=some u→b≠l:=fun b u z y=>by rw [y,hl] at z;cases z
  generalize upd H' p (HO.tup [V.str (Str.ofString "plus"),V.str (Str.ofString "minus"),V.str (Str.ofString "times"),V.str (Str.ofString "over"),V.str (Str.ofString "rest"),V.str (Str.ofString "under"),V.str (Str.ofString "same")])=H1 at *
  refine yE (fun c=>?_) fun c=>?_
  ·rcases zat st with ⟨ll,a,b,rfl⟩ | z
   ·obtain ⟨x,rfl,hx⟩:∃ x:Str,v=.str x∧x.length≤1000:=by
     rcases ok with ⟨j,rfl,_⟩ | h
     ·exact absurd c (by rw [show inV (V.int j) jw=false from rfl];decide)
     ·exact h
    have e1:List.map V.int (ll ++ [a,b])=(ll.map V.int ++ [.int a]) ++ [.int b]:=by simp
    rw [e1] at hst1
    have one':=one.trans (VY c)
    have wa:=hW a (by simp)
    have wb:=hW b (by simp)
    refine ⟨.inl ⟨_,SqL.of hst1⟩,_,hst1,_,kH,.inl ⟨_,SqL.of zf⟩,_,by rw [wM];exact zf,_,kH,a,rfl,b,rfl,x,rfl,c,wa,wb,fun H2 s2=>?_⟩
    rw [wM,wM] at s2
    have S2:Same H H2:=(z8 (z8 hS1 hl) hl).trans s2
    cases ej:yR x a b with
    | ok dd =>
     rw [ej] at one'
     have hd:inW dd=true:=by
      unfold yR at ej
      split at ej
      ·cases ej
      ·split at ej
       ·rename_i z;cases ej;exact z
       ·cases ej
     refine ⟨_,.int dd,false,F.i_s,?_⟩
     rw [if_neg (by decide)]
     refine ⟨.inl ⟨_,SqL.of (s2 _ _ zf)⟩,_,s2 _ _ zf,?_,ll ++ [dd],⟨_,_,_,rfl⟩,one',?_,?_,?_,z8 S2 hl⟩
     ·rw [List.length_map]
      have:(ll ++ [a,b]).length=ll.length + 2:=by simp
      exact Nat.lt_of_le_of_lt (by lia:ll.length≤1000) (by decide)
     ·intro y hy
      rcases List.mem_append.mp hy with h | h
      ·exact hW y (List.mem_append_left _ h)
      ·have:y=dd:=by simpa using h
       rw [this];exact hd
     ·have:(ll ++ [a,b]).length=ll.length + 2:=by simp
      rw [List.length_append];show ll.length + 1≤i + 1
      lia
     ·rw [List.map_append];exact zf
    | error er =>
     rw [ej] at one'
     have er':rk s.sl e=.error er:=by
      have z:=Z0 one'
      rw [z] at run0
      cases r:rk s.sl e with
      | ok i=>rw [r] at run0;cases run0
      | error e2=>rw [r] at run0;cases run0;rfl
     refine ⟨_,.str _,true,Zf "str",?_⟩
     rw [if_pos rfl]
     obtain ⟨H3,g1,g2,g3⟩:=(L.same S2).putW (YQ er)
     exact ⟨H3,g1,q2 er H3 er' (fun b o n1 _ _ _ z=>g3 b o n1 (S2 _ _ z)) g2⟩
   ·exact absurd (Z0 (one.trans (z s.sl v c))) ns
  ·have st1:xT s.sl st v=.ok (st ++ [YA s.sl v]):=by
    unfold xT
    rw [if_neg (by unfold isJ;exact c)]
   have one':=one.trans st1
   have hwv:=YB h4 ok
   have fin1:∀ u,u=V.int (YA s.sl v)→rkI s.sl e tm d l H (i + 1) [some (V.ref tm),some (V.ref d),some (V.ref l),some v,o4,o5] (upd H1 l (HO.lst (List.map V.int st ++ [u]))):=fun u hu=>by
    subst hu
    refine ⟨st ++ [YA s.sl v],⟨_,_,_,rfl⟩,one',?_,?_,?_,z8 hS1 hl⟩
    ·intro y hy
     rcases List.mem_append.mp hy with h | h
     ·exact hW y h
     ·have:y=YA s.sl v:=by simpa using h
      rw [this];exact hwv
    ·rw [List.length_append];show st.length + 1≤i + 1
     lia
    ·rw [List.map_append];exact zf
   have sz:(List.map V.int st).length < sizeLine:=by
    rw [List.length_map]
    exact Nat.lt_of_le_of_lt (by lia:st.length≤1000) (by decide)
   have L1:=L.same hS1
   rcases ok with ⟨j,rfl,hj⟩ | ⟨x,rfl,hx⟩
   ·refine ⟨_,.int j,true,Zf "int",?_⟩
    rw [if_pos rfl]
    exact ⟨.inl ⟨_,SqL.of hst1⟩,_,hst1,sz,fin1 _ rfl⟩
   ·refine ⟨_,.str x,false,F.s_i,?_⟩
    rw [if_neg (by decide)]
    refine ⟨.inl ⟨_,SqL.of hst1⟩,_,L1.gS,sl,rfl,.inl ⟨_,.inl L1.hs⟩,_,DGet.k (k:=.inr x) L1.hs,_,hst1,sz,fin1 _ ?_⟩
    show (yB s.sl (.inr x)).getD (V.int 0)=V.int (match yB s.sl (.inr x) with | some (.int i)=>i | _=>0)
    cases e:yB s.sl (.inr x) with
    | none=>rfl
    | some u =>
     obtain ⟨i,rfl,_⟩:=h4 _ _ e
     rfl
 ·rintro σ H' ⟨st,⟨o3,o4,o5,rfl⟩,hr,hW,hl',hst,hS⟩
  rw [List.take_length] at hr
  simp only [jZ,xj,yC,zW,L2.start,zW,zn,yz,zP,Ym,zq,zG,zl,zu,zR,zx,tOp,zc,tC,yS,zS,zb,zi,ym,zA,zp,tB,tCB,tBM,qc,tyV,zm,Yg,yo,rIn,ki,List.map,List.replicate,List.length,List.append,jqa,jqb,jqc,jqd,jqe,jqf,jqg,jqh,jqi,jqj,jqk,jql,jqm,jqn,and_true,true_and,and_assoc,jqo,jqp,jqq,jqr,jqs,jqt,if_true,ite_true,jqu,ite_false,if_false]
  rw [hr] at run0
  cases r:rk s.sl e with
  | error e'=>rw [r] at run0;cases run0
  | ok i =>
   rw [r] at run0
   have es:st=[i]:=by injection run0
   subst es
   exact ⟨_,SqL.of hst,_,rfl,q1 i H' r hS⟩
end
def hdE:Rw→List V
 | .take _ e _=>e
 | .give _ e _=>e
 | .lt _ e=>e
 | .say e=>e
 | .off e=>e
 | .iff e _ _=>e
theorem zcs {r:Rw} {s:Sta} {x:Er} (h:rk s.sl (hdE r)=.error x):goR r s=.er x:=by
 cases r <;> (unfold hdE at h;unfold goR;rw [h])
theorem zct {e:List V} {s:Sta} {i:Int} (h:rk s.sl e=.ok i):goR (.say e) s=.go { s with sa:=s.sa ++ [i] }:=by unfold goR;rw [h]
theorem zcu {x:Str} {e:List V} {s:Sta} {i:Int} (h:rk s.sl e=.ok i):goR (.lt x e) s=.go { s with sl:=yT s.sl (.inr x) (.int i) }:=by unfold goR;rw [h]
theorem zbx {sh x:Str} {e:List V} {s:Sta} {n:Int} (h:rk s.sl e=.ok n):goR (.take sh e x) s=.go { s with sl:=yT s.sl (.inr x) (.int ((z7 s.wo (sh,n)).getD 0)) }:=by unfold goR;rw [h]
theorem zby {sh:Str} {e f:List V} {s:Sta} {n i:Int} (h:rk s.sl e=.ok n) (h2:rk s.sl f=.ok i):goR (.give sh e f) s=.go { s with wo:=s.wo ++ [((sh,n),i)] }:=by unfold goR;rw [h];show (match rk s.sl f with | .ok w=>Res.go { s with wo:=s.wo ++ [((sh,n),w)] } | .error x=>.er x)=_;rw [h2]
section
variable {d sl wo sa:Addr} {v:V} {r:Rw} {s:Sta} {m n:Nat}
theorem zaz {F:Addr→Prop} (h:RwAt F H v r):∃ p xs hd te,v=.ref p∧F p∧H p=some (.tup xs)∧atI xs 0=some (.str hd)∧atI xs (1 + if inV (.str hd) [V.str (Str.ofString "take"),V.str (Str.ofString "give"),V.str (Str.ofString "let")]=true then 1 else 0)=some (.ref te)∧F te∧H te=some (.tup (hdE r)):=by
 cases r with
 | take sh e x=>unfold RwAt at h;obtain ⟨p,te,rfl,f1,f2,e1,e2⟩:=h;exact ⟨p,_,Str.ofString "take",te,rfl,f1,e1,rfl,by rw [if_pos (by decide +kernel)];rfl,f2,e2⟩
 | give sh e f=>unfold RwAt at h;obtain ⟨p,te,tf,rfl,f1,f2,f3,e1,e2,e3⟩:=h;exact ⟨p,_,Str.ofString "give",te,rfl,f1,e1,rfl,by rw [if_pos (by decide +kernel)];rfl,f2,e2⟩
 | lt x e=>unfold RwAt at h;obtain ⟨p,te,rfl,f1,f2,e1,e2⟩:=h;exact ⟨p,_,Str.ofString "let",te,rfl,f1,e1,rfl,by rw [if_pos (by decide +kernel)];rfl,f2,e2⟩
 | say e=>unfold RwAt at h;obtain ⟨p,te,rfl,f1,f2,e1,e2⟩:=h;exact ⟨p,_,Str.ofString "say",te,rfl,f1,e1,rfl,by rw [if_neg (by decide +kernel)];rfl,f2,e2⟩
 | off e=>unfold RwAt at h;obtain ⟨p,te,rfl,f1,f2,e1,e2⟩:=h;exact ⟨p,_,Str.ofString "off",te,rfl,f1,e1,rfl,by rw [if_neg (by decide +kernel)];rfl,f2,e2⟩
 | iff e a b=>unfold RwAt at h;obtain ⟨p,te,la,lb,xs,ys,rfl,f1,f2,f3,f4,e1,e2,_⟩:=h;exact ⟨p,_,Str.ofString "if",te,rfl,f1,e1,rfl,by rw [if_neg (by decide +kernel)];rfl,f2,e2⟩
theorem zbz (h:wW r):TermOk (hdE r):=by
 cases r <;> (unfold wW at h;unfold hdE)
 ·exact h
 ·exact h.1
 ·exact h
 ·exact h
 ·exact h
 ·exact h.1
theorem LawGo.frm {Hb:Hp} {r:Res} (S:Lk4 d sl wo sa Hb H) (q:LawGo d sl wo sa Hb r Q):LawGo d sl wo sa H r Q:=by
 cases r with
 | go s'=>exact fun H' k=>q H' (S.trans k)
 | off=>exact fun H' s' k=>q H' s' (S.trans k)
 | er e=>exact fun H' s' k=>q H' s' (S.trans k)
theorem LsH.sayA {w:Str} (L:LsH H d sl wo sa s w) (i:Int):LsH (upd H sa (.lst (s.sa.map V.int ++ [.int i]))) d sl wo sa { s with sa:=s.sa ++ [i] } w:=by
 have n:=L.nds
 exact ⟨by rw [zk n.2.1];exact L.hd,by rw [zk n.2.2.2.1];exact L.hs,by rw [zk n.2.2.2.2];exact L.hw,by rw [zf,List.map_append];rfl,L.nd⟩
theorem LsH.putS {w:Str} (L:LsH H d sl wo sa s w) (kvs:List (Key × V)):LsH (upd H sl (.dK kvs)) d sl wo sa { s with sl:=kvs } w:=by
 have n:=L.nds
 exact ⟨by rw [zk L.nd];exact L.hd,zf,by rw [zk (Ne.symm n.2.2.1)];exact L.hw,by rw [zk (Ne.symm n.2.2.2.1)];exact L.ha,L.nd⟩
theorem LsH.putG {w:Str} (L:LsH H d sl wo sa s w) (p:Pl) (i:Int):LsH (upd H wo (.dT (yT (dOf s.wo) (zV p) (.int i)))) d sl wo sa { s with wo:=s.wo ++ [(p,i)] } w:=by
 have n:=L.nds
 exact ⟨by rw [zk n.1];exact L.hd,by rw [zk n.2.2.1];exact L.hs,by rw [zf,Za],by rw [zk (Ne.symm n.2.2.2.2)];exact L.ha,L.nd⟩
theorem WT {b:Addr} {o:HO} (h:b=d∨b=sl∨b=wo∨b=sa):Lk4 d sl wo sa H (upd H b o):=fun c u n1 n2 n3 n4 e=>by
 rw [zk (fun z=>by rcases h with h | h | h | h <;> (rw [h] at z;first | exact n1 z | exact n2 z | exact n3 z | exact n4 z))];exact e
theorem zaA {p:Addr} {i:Int} {o3:Option V} {Hb:Hp} (h1:RwAt (fun b=>b≠d∧b≠sl∧b≠wo∧b≠sa) H (.ref p) r) (h2:wW r) (h3:wZ r) (h4:r.deep≤n) (L:LsH H d sl wo sa s "told") (h6:StOk m s) (h7:m + r.cnt≤900) (hi:rk s.sl (hdE r)=.ok i) (S:Lk4 d sl wo sa Hb H) (q:LawGo d sl wo sa Hb (goR r s) Q) :
  v7 K t n { nx:=fun _ H'=>Q .non H',rt:=Q } [some (.ref p),some (.ref d),some (.int i),o3] H:=by
 simp only [v7,qj,xI,yu,xj,yC,zW,L2.start,ZD,zW,zn,zP,zT,zq,zG,zl,zu,zR,zx,tOp,zc,tC,zS,zb,zi,zA,zp,tCB,tBM,tyV,zm,zT,rEq,rNe,rI0,ZM,yn,List.map,List.replicate,List.length,List.append,jqa,jqb,jqc,jqd,jqe,jqf,jqg,jqh,jqi,jqj,jqk,jql,jqm,jqn,and_true,true_and,and_assoc,jqo,jqp,jqq,jqr,jqs,jqt,if_true,ite_true,jqu,ite_false,if_false]
 have big:∀ {n:Nat},n≤900→n < sizeLine:=fun h=>Nat.lt_of_le_of_lt h (by decide)
 have l1:=h6.l1
 have l2:=h6.l2
 have l3:=h6.l3
 have ld:=vf s.wo
 cases r with
 | say e =>
  unfold RwAt at h1;obtain ⟨p',te,ep,f1,f2,e1,e2⟩:=h1
  cases ep
  refine ⟨_,SqT.of e1,_,rfl,rfl,?_⟩
  rw [if_neg (fun z=>absurd (V.str.inj z) (by decide +kernel))]
  refine ⟨_,SqT.of e1,_,rfl,rfl,?_⟩
  rw [if_neg (fun z=>absurd (V.str.inj z) (by decide +kernel))]
  refine ⟨_,SqT.of e1,_,rfl,rfl,?_⟩
  rw [if_neg (fun z=>absurd (V.str.inj z) (by decide +kernel))]
  refine ⟨_,SqT.of e1,_,rfl,rfl,?_⟩
  rw [if_pos (by rfl)]
  have q:∀ H',Lk4 d sl wo sa Hb H'→LsH H' d sl wo sa { s with sa:=s.sa ++ [i] } "told"→Q (.bl true) H':=by rw [zct (show rk s.sl e=.ok i from hi)] at q;exact q
  exact ⟨_,L.gA,.inl ⟨_,SqL.of L.ha⟩,sa,rfl,_,L.ha,big (by rw [List.length_map];lia),q _ (S.trans (WT (.inr (.inr (.inr rfl))))) (L.sayA i)⟩
 | lt x e =>
  unfold RwAt at h1;obtain ⟨p',te,ep,f1,f2,e1,e2⟩:=h1
  cases ep
  refine ⟨_,SqT.of e1,_,rfl,rfl,?_⟩
  rw [if_neg (fun z=>absurd (V.str.inj z) (by decide +kernel))]
  refine ⟨_,SqT.of e1,_,rfl,rfl,?_⟩
  rw [if_neg (fun z=>absurd (V.str.inj z) (by decide +kernel))]
  refine ⟨_,SqT.of e1,_,rfl,rfl,?_⟩
  rw [if_pos (by rfl)]
  have q:∀ H',Lk4 d sl wo sa Hb H'→LsH H' d sl wo sa { s with sl:=yT s.sl (.inr x) (.int i) } "told"→Q (.bl true) H':=by rw [zcu (show rk s.sl e=.ok i from hi)] at q;exact q
  exact ⟨_,L.gS,_,SqT.of e1,_,rfl,sl,rfl,_,DPut.k (k:=.inr x) L.hs (big (by lia)),q _ (S.trans (WT (.inr (.inl rfl)))) (L.putS _)⟩
 | take sh e x =>
  unfold RwAt at h1;obtain ⟨p',te,ep,f1,f2,e1,e2⟩:=h1
  cases ep
  refine ⟨_,SqT.of e1,_,rfl,rfl,?_⟩
  rw [if_pos (by rfl)]
  have q:∀ H',Lk4 d sl wo sa Hb H'→LsH H' d sl wo sa { s with sl:=yT s.sl (.inr x) (.int ((z7 s.wo (sh,i)).getD 0)) } "told"→Q (.bl true) H':=by rw [zbx (show rk s.sl e=.ok i from hi)] at q;exact q
  refine ⟨_,L.gN,wo,rfl,.inr ⟨_,.inl L.hw⟩,_,SqT.of e1,_,rfl,by decide,fun q0 hq0=>?_⟩
  have s2:=isV (o:=HO.tup [V.str sh,V.int i]) q0 hq0
  have hq:upd H q0 (HO.tup [V.str sh,V.int i]) q0=some (.tup ((zV (sh,i)).map kV)):=zf
  generalize upd H q0 (HO.tup [V.str sh,V.int i])=H2 at *
  have L2:=L.same s2
  have g:DGet H2 wo (.ref q0) ((z7 s.wo (sh,i)).map V.int):=.inr ⟨dOf s.wo,zV (sh,i),q0,.inl L2.hw,rfl,hq,(q9 s.wo (sh,i)).symm⟩
  have eg:((z7 s.wo (sh,i)).map V.int).getD (V.int 0)=V.int ((z7 s.wo (sh,i)).getD 0):=by cases z7 s.wo (sh,i) <;> rfl
  refine ⟨_,g,?_⟩
  rw [eg]
  exact ⟨_,L2.gS,_,SqT.of (s2 _ _ e1),_,rfl,sl,rfl,_,DPut.k (k:=.inr x) L2.hs (big (by lia)),q _ (S.trans ((Lk4.of s2).trans (WT (.inr (.inl rfl))))) (L2.putS _)⟩
 | give sh e f =>
  unfold RwAt at h1;obtain ⟨p',te,tf,ep,f1,f2,f3,e1,e2,e3⟩:=h1
  cases ep
  refine ⟨_,SqT.of e1,_,rfl,rfl,?_⟩
  rw [if_neg (fun z=>absurd (V.str.inj z) (by decide +kernel))]
  refine ⟨_,SqT.of e1,_,rfl,rfl,?_⟩
  rw [if_pos (by rfl)]
  refine ⟨_,SqT.of e1,_,rfl,tf,rfl,sl,wo,sa,f,e3,s,_,L,h2.2,h6.so,(fun j H2 ej s2=>?_),fun x H2 ex k2 L2=>?_⟩
  ·rw [if_neg (fun z=>nomatch z)]
   have q:∀ H',Lk4 d sl wo sa Hb H'→LsH H' d sl wo sa { s with wo:=s.wo ++ [((sh,i),j)] } "told"→Q (.bl true) H':=by rw [zby (show rk s.sl e=.ok i from hi) ej] at q;exact q
   have L2:=L.same s2
   refine ⟨_,L2.gN,_,SqT.of (s2 _ _ e1),_,rfl,by decide,fun q0 hq0=>?_⟩
   have s3:=isV (o:=HO.tup [V.str sh,V.int i]) q0 hq0
   have hq:upd H2 q0 (HO.tup [V.str sh,V.int i]) q0=some (.tup ((zV (sh,i)).map kV)):=zf
   generalize upd H2 q0 (HO.tup [V.str sh,V.int i])=H3 at *
   have L3:=L2.same s3
   exact ⟨wo,rfl,_,DPut.t (k:=zV (sh,i)) L3.hw hq (big (by lia)),q _ (S.trans ((Lk4.of (s2.trans s3)).trans (WT (.inr (.inr (.inl rfl)))))) (L3.putG _ _)⟩
  ·have ge:goR (.give sh e f) s=.er x:=by
    unfold goR
    rw [show rk s.sl e=.ok i from hi]
    show (match rk s.sl f with | .ok w=>Res.go { s with wo:=s.wo ++ [((sh,i),w)] } | .error x=>.er x)=_
    rw [ex]
   rw [ge] at q
   exact q H2 s (S.trans k2) L2
 | off e =>
  unfold RwAt at h1;obtain ⟨p',te,ep,f1,f2,e1,e2⟩:=h1
  cases ep
  refine ⟨_,SqT.of e1,_,rfl,rfl,?_⟩
  rw [if_neg (fun z=>absurd (V.str.inj z) (by decide +kernel))]
  refine ⟨_,SqT.of e1,_,rfl,rfl,?_⟩
  rw [if_neg (fun z=>absurd (V.str.inj z) (by decide +kernel))]
  refine ⟨_,SqT.of e1,_,rfl,rfl,?_⟩
  rw [if_neg (fun z=>absurd (V.str.inj z) (by decide +kernel))]
  refine ⟨_,SqT.of e1,_,rfl,rfl,?_⟩
  rw [if_neg (fun z=>absurd (V.str.inj z) (by decide +kernel))]
  refine ⟨_,SqT.of e1,_,rfl,rfl,?_⟩
  rw [if_pos (by rfl)]
  have ge:goR (.off e) s=if i=0 then .go s else .off:=by unfold goR;rw [show rk s.sl e=.ok i from hi]
  rw [ge] at q
  by_cases c:i=0
  ·rw [if_pos c] at q
   rw [decide_eq_true c]
   exact q H S L
  ·rw [if_neg c] at q
   rw [decide_eq_false c]
   exact q H s S L
 | iff e a b =>
  unfold RwAt at h1;obtain ⟨p',te,la,lb,xs,ys,ep,f1,f2,f3,f4,e1,e2,e3,e4,e5,e6⟩:=h1
  cases ep
  refine ⟨_,SqT.of e1,_,rfl,rfl,?_⟩
  rw [if_neg (fun z=>absurd (V.str.inj z) (by decide +kernel))]
  refine ⟨_,SqT.of e1,_,rfl,rfl,?_⟩
  rw [if_neg (fun z=>absurd (V.str.inj z) (by decide +kernel))]
  refine ⟨_,SqT.of e1,_,rfl,rfl,?_⟩
  rw [if_neg (fun z=>absurd (V.str.inj z) (by decide +kernel))]
  refine ⟨_,SqT.of e1,_,rfl,rfl,?_⟩
  rw [if_neg (fun z=>absurd (V.str.inj z) (by decide +kernel))]
  refine ⟨_,SqT.of e1,_,rfl,rfl,?_⟩
  rw [if_neg (fun z=>absurd (V.str.inj z) (by decide +kernel))]
  have ge:goR (.iff e a b) s=if i=0 then yM b s else yM a s:=by unfold goR;rw [show rk s.sl e=.ok i from hi]
  have dp:(Rw.iff e a b).deep=max a.deep b.deep + 1:=by rw [Rw.deep]
  have ct:(Rw.iff e a b).cnt=max a.cnt b.cnt + 1:=by rw [Rw.cnt]
  unfold wW at h2
  unfold wZ at h3
  rw [ge] at q
  by_cases c:i=0
  ·rw [if_pos c] at q
   refine ⟨_,SqT.of e1,.ref lb,by rw [if_neg (fun z=>z c)];rfl,lb,rfl,f4.1,ys,sl,f4.2.1,wo,f4.2.2.1,sa,f4.2.2.2,e5,b,e6,h2.2.2,h3.2.2,by lia,m,s,L,h6,by lia,q.frm S⟩
  ·rw [if_neg c] at q
   refine ⟨_,SqT.of e1,.ref la,by rw [if_pos c];rfl,la,rfl,f3.1,xs,sl,f3.2.1,wo,f3.2.2.1,sa,f3.2.2.2,e3,a,e4,h2.2.1,h3.2.1,by lia,m,s,L,h6,by lia,q.frm S⟩
theorem WU (h1:RwAt (fun b=>b≠d∧b≠sl∧b≠wo∧b≠sa) H v r) (h2:wW r) (h3:wZ r) (h4:r.deep≤n) (L:LsH H d sl wo sa s "told") (h6:StOk m s) (h7:m + r.cnt≤900) (q:LawGo d sl wo sa H (goR r s) Q) :
  kE K t n { nx:=fun _ H'=>Q .non H',rt:=Q } (L2.start ["row","state","first","second"] [v,.ref d]) H:=by
 obtain ⟨p,xs,hd,te,rfl,fp,e1,e2,e3,ft,e4⟩:=zaz h1
 simp only [kE,xI,xj,yC,zW,L2.start,ZD,zW,zn,zP,zT,zq,zG,zl,zu,zR,zx,tOp,zc,tC,zS,zb,zi,zA,zp,tCB,tBM,tyV,zm,zT,rEq,rNe,rI0,rIn,ZM,yn,List.map,List.replicate,List.length,List.append,jqa,jqb,jqc,jqd,jqe,jqf,jqg,jqh,jqi,jqj,jqk,jql,jqm,jqn,and_true,true_and,and_assoc,jqo,jqp,jqq,jqr,jqs,jqt,if_true,ite_true,jqu,ite_false,if_false]
 refine ⟨_,SqT.of e1,_,e2,by decide,fun pt hpt=>?_⟩
 have s1:=isV (o:=HO.tup [V.str (Str.ofString "take"),V.str (Str.ofString "give"),V.str (Str.ofString "let")]) pt hpt
 refine ⟨_,.inr (SqT.of zf),rfl,by decide +kernel,_,SqT.of (s1 _ _ e1),_,e3,te,rfl,sl,wo,sa,hdE r,s1 _ _ e4,s,_,L.same s1,zbz h2,h6.so,(fun i H2 ei s2=>?_),fun x H2 ex k2 L2=>?_⟩
 ·rw [if_neg (fun z=>nomatch z)]
  have S:=s1.trans s2
  exact zaA (RwAt.to_ (fun _ _ f _=>f) (fun b o _ e=>S b o e) r h1) h2 h3 h4 (L.same S) h6 h7 ei (Lk4.of S) q
 ·rw [zcs ex] at q
  exact q H2 s ((Lk4.of s1).trans k2) L2
end
theorem jq {vs:List V} {H:Hp} {Q:VK} {E:XK} (h:yu 0 vs H Q E):False:=by
 obtain ⟨_,_,_,_,_,_,_,_,_,_,_,_,_,_,_,h,_⟩:=h
 exact Nat.not_lt_zero _ h
section
variable {l d sl wo sa:Addr} {xs:List V} {rws:Rws} {m n:Nat} {s:Sta}
def thI (l d sl wo sa:Addr) (xs:List V) (rws:Rws) (s:Sta) (n:Nat) (H0:Hp) (i:Nat) (σ:St) (H':Hp):Prop:=∃ (s':Sta) (rest:Rws) (m:Nat),(∃ o,σ=[some (.ref l),some (.ref d),o])∧Lk4 d sl wo sa H0 H'∧LsH H' d sl wo sa s' "told"∧RwsAt (fun b=>b≠d∧b≠sl∧b≠wo∧b≠sa) H0 (xs.drop i) rest∧yJ rest∧yX rest∧rest.deep < n + 1∧StOk m s'∧m + rest.cnt≤900∧yM rws s=yM rest s'
theorem ZA (h1:l≠d∧l≠sl∧l≠wo∧l≠sa) (h2:H l=some (.lst xs)) (h3:RwsAt (fun b=>b≠d∧b≠sl∧b≠wo∧b≠sa) H xs rws) (h4:yJ rws) (h5:yX rws) (h6:rws.deep < n + 1) (L:LsH H d sl wo sa s "told") (h8:StOk m s) (h9:m + rws.cnt≤900) (q:LawGo d sl wo sa H (yM rws s) Q) :
  vc K t n { nx:=fun _ H'=>Q .non H',rt:=Q } (L2.start ["rows","state","row"] [.ref l,.ref d]) H:=by
 simp only [vc,vV,L2.start,zq,zl,zu,zx,zc,tC,zb,zi,ym,zA,xv,tB,zm,yQ,List.map,List.replicate,List.length,List.append,jqa,jqb,jqc,jqd,jqe,jqf,jqg,jqh,jqi,jqj,jqk,jql,jqm,jqn,and_true,true_and,and_assoc,jqo,jqp,jqq,jqr,jqs,jqt,if_true,ite_true,jqu,ite_false,if_false]
 refine ⟨⟨_,SqL.of h2⟩,jj xs (thI l d sl wo sa xs rws s n H) ⟨s,rws,m,⟨_,rfl⟩,fun _ _ _ _ _ _ e=>e,L,by rw [List.drop_zero];exact h3,h4,h5,h6,h8,h9,rfl⟩ (fun i σ H' ⟨_,_,_,_,k,_⟩=>SqL.of (k _ _ h1.1 h1.2.1 h1.2.2.1 h1.2.2.2 h2)) ?_ ?_⟩
 ·rintro i v σ H' hv ⟨s',rest,m,⟨o,rfl⟩,k,L',hr,ok,pl,dp,st,ct,ge⟩
  obtain ⟨r,rs,rfl,rx,rr⟩:=hr.get hv
  unfold yJ at ok
  unfold yX at pl
  have c1:(Rws.cons r rs).deep=max r.deep rs.deep:=by rw [Rws.deep]
  have c2:(Rws.cons r rs).cnt=r.cnt + rs.cnt:=by rw [Rws.cnt]
  rw [c1] at dp
  rw [c2] at ct
  simp only [vV,L2.start,zq,zl,zu,zx,zc,tC,zb,zi,ym,zA,xv,tB,zm,yQ,List.map,List.replicate,List.length,List.append,jqa,jqb,jqc,jqd,jqe,jqf,jqg,jqh,jqi,jqj,jqk,jql,jqm,jqn,and_true,true_and,and_assoc,jqo,jqp,jqq,jqr,jqs,jqt,if_true,ite_true,jqu,ite_false,if_false]
  refine ⟨sl,wo,sa,r,RwAt.to_ (fun _ _ f _=>f) (fun b o f e=>k b o f.1 f.2.1 f.2.2.1 f.2.2.2 e) r rx,ok.1,pl.1,by lia,m,s',L',st,by lia,?_⟩
  cases hg:goR r s' with
  | go s2 =>
   intro H2 k2 M2
   simp only [L2.start,zq,zl,zu,zx,zc,tC,zb,zi,ym,zA,xv,tB,zm,yQ,List.map,List.replicate,List.length,List.append,jqa,jqb,jqc,jqd,jqe,jqf,jqg,jqh,jqi,jqj,jqk,jql,jqm,jqn,and_true,true_and,and_assoc,jqo,jqp,jqq,jqr,jqs,jqt,if_true,ite_true,jqu,ite_false,if_false]
   exact ⟨s2,rs,m + r.cnt,⟨_,rfl⟩,k.trans k2,M2,rr,ok.2,pl.2,by lia,Jz r st ok.1 hg,by lia,by rw [ge,yM,hg]⟩
  | off =>
   intro H2 s2 k2 M2
   simp only [L2.start,zq,zl,zu,zx,zc,tC,zb,zi,ym,zA,xv,tB,zm,yQ,List.map,List.replicate,List.length,List.append,jqa,jqb,jqc,jqd,jqe,jqf,jqg,jqh,jqi,jqj,jqk,jql,jqm,jqn,and_true,true_and,and_assoc,jqo,jqp,jqq,jqr,jqs,jqt,if_true,ite_true,jqu,ite_false,if_false]
   rw [ge,yM,hg] at q
   exact q H2 s2 (k.trans k2) M2
  | er e =>
   intro H2 s2 k2 M2
   simp only [L2.start,zq,zl,zu,zx,zc,tC,zb,zi,ym,zA,xv,tB,zm,yQ,List.map,List.replicate,List.length,List.append,jqa,jqb,jqc,jqd,jqe,jqf,jqg,jqh,jqi,jqj,jqk,jql,jqm,jqn,and_true,true_and,and_assoc,jqo,jqp,jqq,jqr,jqs,jqt,if_true,ite_true,jqu,ite_false,if_false]
   rw [ge,yM,hg] at q
   exact q H2 s2 (k.trans k2) M2
 ·rintro σ H' ⟨s',rest,m,⟨o,rfl⟩,k,L',hr,ok,pl,dp,st,ct,ge⟩
  have e:=hr.none
  subst e
  rw [ge,yM] at q
  exact q H' k L'
end
theorem jr {H H':Hp} (s:Same H H') {xs:List V} {rows:List Row} (h:Paired (jE H) xs rows):Paired (jE H') xs rows:=Paired.mapP h fun _ _ ⟨r,p,e,h1,h2⟩=>⟨r,p,e,s _ _ h1,s _ _ h2⟩
def cIt (its:List Row) (i:Nat) (ys:List V) (H:Hp):Prop:=Paired (jE H) ys ((its.take i).filter fun r=>decide (r.2≠0))
theorem V5 {tl d sl wo sa bl:Addr} {v:V} {H0:Hp} {zs:List V} {s:Sta} {its:List Row} (L:LsH H d sl wo sa s "told") (la:s.sa.length≤900) (hb:H bl=some (.lst zs)) (pz:Paired (jE H) zs its) (nd:(its.map (·.1)).Nodup) (li:its.length≤900) (hm:∀ p w,(p,w)∈its↔z7 s.wo p=some w∧w≠0) (S:Same H0 H)
  (q:∀ r o l out H',Same H0 H'→H' r=some (.tup [o,.ref l])→qd H' o (.done s.sa)→LsAt H' l out→kq s.wo out→Q (.ref r) H') :
  wI K t { nx:=fun _ H'=>Q .non H',rt:=Q } [some v,some (.ref tl),some (.ref d),some (.ref bl)] H:=by
 simp only [wI,qv,yC,jV,L2.start,zu,zc,tC,zS,zb,zi,tCB,List.map,List.replicate,List.length,List.append,jqa,jqb,jqc,jqd,jqe,jqf,jqg,jqh,jqi,jqj,jqk,jql,jqm,jqn,and_true,true_and,and_assoc,jqo,jqp,jqq,jqr,jqs,jqt,if_true,ite_true,jqu,ite_false,if_false]
 refine ⟨_,L.gA,sa,rfl,_,.inl ⟨SqL.of L.ha,fun y hy=>⟨by decide,fun p hp=>?_⟩⟩⟩
 have s1:=isV (o:=HO.tup (s.sa.map V.int)) y hy
 have s2:=isV (o:=HO.tup [V.str (Str.ofString "done"),V.ref y]) p hp
 have T:=s1.trans s2
 refine ⟨_,SqL.of (T _ _ hb),its,jr T pz,nd,by lia,fun l ys srt H3 s3 fl hl pz' ri pm=>⟨by decide,fun r hr=>?_⟩⟩
 have s4:=isV (o:=HO.tup [V.ref p,V.ref l]) r hr
 refine q r (.ref p) l srt _ (S.trans (T.trans (s3.trans s4))) zf ⟨p,y,rfl,(s3.trans s4) _ _ zf,(s2.trans (s3.trans s4)) _ _ zf⟩ ⟨ys,s4 _ _ hl,jr s4 pz'⟩ ⟨ri,fun p w=>?_⟩
 rw [pm.mem_iff];exact hm p w
theorem V6 {tl d sl wo sa:Addr} {v:V} {s:Sta} {H0:Hp} (h:LsH H d sl wo sa s "told") (hn:StOk 600 s) (S:Same H0 H) (fr:H0 wo=none)
  (q:∀ r o l out H',Same H0 H'→H' r=some (.tup [o,.ref l])→qd H' o (.done s.sa)→LsAt H' l out→kq s.wo out→Q (.ref r) H') :
  wJ K t { nx:=fun _ H'=>Q .non H',rt:=Q } [some v,some (.ref tl),some (.ref d),none] H:=by
 simp only [wJ,qv,yC,jV,YU,L2.start,zq,zG,zl,Ye,jR,Yd,zu,tOp,zc,tC,zS,zb,zi,zp,tCB,y7,ve,rNe,yn,List.map,List.replicate,List.length,List.append,jqa,jqb,jqc,jqd,jqe,jqf,jqg,jqh,jqi,jqj,jqk,jql,jqm,jqn,and_true,true_and,and_assoc,jqo,jqp,jqq,jqr,jqs,jqt,if_true,ite_true,jqu,ite_false,if_false]
 refine ⟨wo,_,dOf s.wo,h.hw,.inl rfl,fun o=>?_⟩
 simp only [qv,yC,jV,YU,L2.start,zq,zG,zl,Ye,jR,Yd,zu,tOp,zc,tC,zS,zb,zi,zp,tCB,y7,ve,rNe,yn,List.map,List.replicate,List.length,List.append,jqa,jqb,jqc,jqd,jqe,jqf,jqg,jqh,jqi,jqj,jqk,jql,jqm,jqn,and_true,true_and,and_assoc,jqo,jqp,jqq,jqr,jqs,jqt,if_true,ite_true,jqu,ite_false,if_false]
 have ld:=vf s.wo
 have l2:=hn.l2
 have l3:=hn.l3
 obtain ⟨its,ei⟩:=Kw (dOf s.wo) (vo s.wo).2
 have li:its.length=(dOf s.wo).length:=by have:=congrArg List.length ei;rw [List.length_map] at this;exact this.symm
 have hf:upd H wo (.frz o (.dT (dOf s.wo))) wo=some (.frz o (.dT (dOf s.wo))):=zf
 have kf':∀ b u,b≠wo→H b=some u→upd H wo (.frz o (.dT (dOf s.wo))) b=some u:=fun b u n e=>by rw [zk n];exact e
 generalize upd H wo (.frz o (.dT (dOf s.wo)))=HF at *
 have nwa:sa≠wo:=xF h.ha h.hw (fun z=>nomatch z)
 have ndw:d≠wo:=h.nds.1
 have nsw:sl≠wo:=h.nds.2.2.1
 refine ⟨_,DGet.k (k:=.inr (Str.ofString "now")) (kf' _ _ ndw h.hd),wo,rfl,o,dOf s.wo,hf,fun D hD=>?_⟩
 refine VZ (J:=Itm wo o (dOf s.wo)) its.length (by lia) (fun τ=>∃ x y,τ=[x,y]) (cIt its) (fun i ys H H' s h=>jN s h) ⟨_,_,rfl⟩ .nil (fun i H s h=>⟨s _ _ hf,by lia⟩) (fun H s=>⟨s _ _ hf,by lia⟩) hD ?_ ?_
 ·rintro i v τ ys H4 H5 ⟨x,y,rfl⟩ s4 hi hR ⟨T,k,v',p,hk,rfl,hT,hp,rfl⟩
  have hit:its[i]?=some its[i]:=List.getElem?_eq_getElem hi
  rw [ei,List.getElem?_map,hit] at hk
  obtain ⟨ek,ev⟩:=Prod.mk.inj (Option.some.inj hk)
  have s5:=isV (o:=HO.tup [V.ref p,v']) T hT
  simp only [qv,yC,jV,YU,L2.start,zq,zG,zl,Ye,jR,Yd,zu,tOp,zc,tC,zS,zb,zi,zp,tCB,y7,ve,rNe,yn,List.map,List.replicate,List.length,List.append,jqa,jqb,jqc,jqd,jqe,jqf,jqg,jqh,jqi,jqj,jqk,jql,jqm,jqn,and_true,true_and,and_assoc,jqo,jqp,jqq,jqr,jqs,jqt,if_true,ite_true,jqu,ite_false,if_false]
  subst ek ev
  have tk:its.take (i + 1)=its.take i ++ [its[i]]:=by rw [List.take_add_one,hit];rfl
  refine ⟨_,SqT.of zf,rfl,_,_,rfl,_,_,rfl,rfl,rfl,yE (fun c=>⟨by decide,fun p2 hp2=>⟨⟨_,rfl⟩,?_,s5.trans (isV p2 hp2)⟩⟩) fun c=>⟨⟨_,rfl⟩,?_,s5⟩⟩
  ·have hw0:its[i].2≠0:=fun z=>c (by rw [z])
   unfold cIt at hR ⊢
   rw [tk,List.filter_append,show [its[i]].filter (fun r:Row=>decide (r.2≠0))=[its[i]] by rw [List.filter_cons,if_pos (decide_eq_true hw0)];rfl]
   have s6:=s5.trans (isV (o:=HO.tup [V.ref p,V.int its[i].2]) p2 hp2)
   exact Paired.snocP (jr s6 hR) ⟨p2,p,rfl,zf,s6 _ _ hp⟩
  ·have hw0:its[i].2=0:=by simpa using c
   unfold cIt at hR ⊢
   rw [tk,List.filter_append,show [its[i]].filter (fun r:Row=>decide (r.2≠0))=[] by rw [List.filter_cons,if_neg (by rw [decide_eq_true_eq];exact fun z=>z hw0)];rfl,List.append_nil]
   exact jr s5 hR
 ·rintro ys H4 hly hR s4 hq
  have hR:Paired (jE H4) ys (its.filter fun r=>decide (r.2≠0)):=by
   unfold cIt at hR
   rw [List.take_length] at hR;exact hR
  have t5:X7 H4 (upd H4 wo (.dT (dOf s.wo))):=fun b us e=>by rw [zk (fun z=>by rw [z,s4 _ _ hf] at e;cases e)];exact e
  have nD:D≠wo:=fun z=>by rw [z,hf] at hD;cases hD
  refine ⟨s4 _ _ hf,V5 (H0:=H0) (s:=s) (its:=its.filter fun r=>decide (r.2≠0)) ⟨by rw [zk ndw];exact s4 _ _ (kf' _ _ ndw h.hd),by rw [zk nsw];exact s4 _ _ (kf' _ _ nsw h.hs),zf,by rw [zk nwa];exact s4 _ _ (kf' _ _ nwa h.ha),h.nd⟩ (by lia) (by rw [zk nD];exact hq) (jN t5 hR) ?_ ?_ (fun p w=>?_) (fun b u e=>?_) q⟩
  ·refine List.Nodup.sublist ((List.filter_sublist (l:=its)).map _) ?_
   refine xH (f:=zV) ?_
   have:=(vo s.wo).1
   rw [ei,List.map_map] at this
   rw [List.map_map]
   exact this
  ·exact Nat.le_trans (List.length_filter_le _ _) (by lia)
  ·rw [List.mem_filter]
   have m:(p,w)∈its↔z7 s.wo p=some w:=by
    constructor
    ·intro hm
     have:(zV p,V.int w)∈dOf s.wo:=by rw [ei];exact List.mem_map_of_mem (f:=fun q:Row=>(zV q.1,V.int q.2)) hm
     obtain ⟨p',w',e1,e2⟩:=mem_dOf.mp this
     have ep:p=p':=xZ (congrArg Prod.fst e1)
     have ew:w=w':=V.int.inj (congrArg Prod.snd e1)
     rw [ep,ew];exact e2
    ·intro hm
     have:(zV p,V.int w)∈dOf s.wo:=mem_dOf.mpr ⟨p,w,rfl,hm⟩
     rw [ei] at this
     obtain ⟨x,hx,e1⟩:=List.mem_map.mp this
     have ep:x.1=p:=xZ (congrArg Prod.fst e1)
     have ew:x.2=w:=V.int.inj (congrArg Prod.snd e1)
     rw [← ep,← ew];exact hx
   rw [m]
   exact ⟨fun z=>⟨z.1,of_decide_eq_true z.2⟩,fun z=>⟨z.1,decide_eq_true z.2⟩⟩
  ·have nb:b≠wo:=fun z=>by rw [z,fr] at e;cases e
   rw [zk nb]
   exact s4 _ _ (kf' _ _ nb (S _ _ e))
def wkK (sl wo sa:Addr):List (Key × V):=[(.inr "slots",.ref sl),(.inr "now",.ref wo),(.inr "said",.ref sa),(.inr "why",.str "told")]
theorem kL {H:Hp} {a b:Addr} {o:HO} (h:H a=some o) (hb:H b=none):b≠a:=fun z=>by rw [z,h] at hb;cases hb
section
variable {v:V} {tl d sl wo sa:Addr} {r:Rws} {tab:List Row} {H0:Hp}
theorem V7 {rl:Addr} {xs:List V} (hx:H rl=some (.lst xs)) (hr:RwsAt Zu H0 xs r) (h2:Xj r) (h3:LsAt H0 tl tab) (h4:TaK 400 tab) (L:LsH H d sl wo sa ⟨[],tab,[]⟩ "told") (S:Same H0 H) (f0:H0 rl=some (.lst xs)) (f1:H0 d=none) (f2:H0 sl=none) (f3:H0 wo=none) (f4:H0 sa=none)
  (q:∀ a o l oc out H',Same H0 H'→H' a=some (.tup [o,.ref l])→qd H' o oc→LsAt H' l out→AloneR r tab oc out→Q (.ref a) H') :
  wK K t { nx:=fun _ H'=>Q .non H',rt:=Q } [some (.ref rl),some (.ref tl),some (.ref d),none] H:=by
 have dpr:=h2.dp
 have ctr:=h2.ct
 have le:=h4.le
 have S0:StOk tab.length ⟨[],tab,[]⟩:=⟨fun k v e=>(by cases e),fun r hr=>(h4.nm r hr).2,Nat.zero_le _,Nat.le_refl _,Nat.zero_le _⟩
 have nn:∀ {b:Addr} {o:HO},H0 b=some o→b≠d∧b≠sl∧b≠wo∧b≠sa:=fun e=>⟨zE e f1,zE e f2,zE e f3,zE e f4⟩
 have sm:∀ {H':Hp},Lk4 d sl wo sa H H'→Same H0 H':=fun k b o e=>k b o (nn e).1 (nn e).2.1 (nn e).2.2.1 (nn e).2.2.2 (S _ _ e)
 simp only [wK,yu,qv,yC,jV,YU,L2.start,zq,zG,zl,Ye,jR,Yd,zu,zx,tOp,zc,tC,zS,zb,zi,zA,xv,zp,tB,tCB,zm,y7,ve,rNe,yn,List.map,List.replicate,List.length,List.append,jqa,jqb,jqc,jqd,jqe,jqf,jqg,jqh,jqi,jqj,jqk,jql,jqm,jqn,and_true,true_and,and_assoc,jqo,jqp,jqq,jqr,jqs,jqt,if_true,ite_true,jqu,ite_false,if_false]
 refine ⟨(nn f0).1,xs,sl,(nn f0).2.1,wo,(nn f0).2.2.1,sa,(nn f0).2.2.2,hx,r,RwsAt.to r (fun b o _ e=>nn e) (fun b o _ e=>S b o e) hr,h2.ok,h2.pl,h2.dp,tab.length,_,L,S0,by lia,?_⟩
 have off:∀ (w:Str) (s2:Sta) (H2:Hp),AloneR r tab (.off w) tab→Lk4 d sl wo sa H H2→LsH H2 d sl wo sa s2 w→zu (zS (zb (zS (zb (tC (.str (Str.ofString "off"))) (zb (yC (zc 2) (tC (.str (Str.ofString "why")))) zi))) (zb (zc 1) zi))) { nx:=fun _ H'=>Q .non H',rt:=Q } [some (.ref rl),some (.ref tl),some (.ref d),none] H2:=fun w s2 H2 al k2 M2=>by
  simp only [qv,yC,jV,YU,L2.start,zq,zG,zl,Ye,jR,Yd,zu,zx,tOp,zc,tC,zS,zb,zi,zA,xv,zp,tB,tCB,zm,y7,ve,rNe,yn,List.map,List.replicate,List.length,List.append,jqa,jqb,jqc,jqd,jqe,jqf,jqg,jqh,jqi,jqj,jqk,jql,jqm,jqn,and_true,true_and,and_assoc,jqo,jqp,jqq,jqr,jqs,jqt,if_true,ite_true,jqu,ite_false,if_false]
  refine ⟨_,M2.gW,by decide,fun p hp=>⟨by decide,fun p2 hp2=>?_⟩⟩
  have s3:=isV (o:=HO.tup [V.str (Str.ofString "off"),V.str w]) p hp
  have s4:=isV (o:=HO.tup [V.ref p,V.ref tl]) p2 hp2
  exact q p2 (.ref p) tl (.off w) tab _ ((sm k2).trans (s3.trans s4)) zf ⟨p,rfl,s4 _ _ zf⟩ (h3.same ((sm k2).trans (s3.trans s4))) al
 cases hg:yM r ⟨[],tab,[]⟩ with
 | go s2 =>
  intro H2 k2 M2
  simp only [qv,yC,jV,YU,L2.start,zq,zG,zl,Ye,jR,Yd,zu,zx,tOp,zc,tC,zS,zb,zi,zA,xv,zp,tB,tCB,zm,y7,ve,rNe,yn,List.map,List.replicate,List.length,List.append,jqa,jqb,jqc,jqd,jqe,jqf,jqg,jqh,jqi,jqj,jqk,jql,jqm,jqn,and_true,true_and,and_assoc,jqo,jqp,jqq,jqr,jqs,jqt,if_true,ite_true,jqu,ite_false,if_false]
  refine V6 (H0:=H0) M2 ((kX r S0 h2.ok hg).mono (by lia)) (sm k2) f3 fun a o l out H' S' e1 e2 e3 e4=>q a o l _ out H' S' e1 e2 e3 ?_
  unfold AloneR;rw [hg];exact ⟨rfl,e4⟩
 | off =>
  intro H2 s2 k2 M2
  have:=off "told" s2 H2 (by unfold AloneR;rw [hg];exact ⟨rfl,rfl⟩) k2 M2
  simp only [qv,yC,jV,YU,L2.start,zq,zG,zl,Ye,jR,Yd,zu,zx,tOp,zc,tC,zS,zb,zi,zA,xv,zp,tB,tCB,zm,y7,ve,rNe,yn,List.map,List.replicate,List.length,List.append,jqa,jqb,jqc,jqd,jqe,jqf,jqg,jqh,jqi,jqj,jqk,jql,jqm,jqn,and_true,true_and,and_assoc,jqo,jqp,jqq,jqr,jqs,jqt,if_true,ite_true,jqu,ite_false,if_false] at this ⊢
  exact this
 | er e =>
  intro H2 s2 k2 M2
  have:=off (YQ e) s2 H2 (by unfold AloneR;rw [hg];exact ⟨rfl,rfl⟩) k2 M2
  simp only [qv,yC,jV,YU,L2.start,zq,zG,zl,Ye,jR,Yd,zu,zx,tOp,zc,tC,zS,zb,zi,zA,xv,zp,tB,tCB,zm,y7,ve,rNe,yn,List.map,List.replicate,List.length,List.append,jqa,jqb,jqc,jqd,jqe,jqf,jqg,jqh,jqi,jqj,jqk,jql,jqm,jqn,and_true,true_and,and_assoc,jqo,jqp,jqq,jqr,jqs,jqt,if_true,ite_true,jqu,ite_false,if_false] at this ⊢
  exact this
theorem ZR (h1:RlAt Zu H v r) (h2:Xj r) (h3:LsAt H tl tab) (h4:TaK 400 tab) (q:∀ a o l oc out H',Same H H'→H' a=some (.tup [o,.ref l])→qd H' o oc→LsAt H' l out→AloneR r tab oc out→Q (.ref a) H') :
  vH K t { nx:=fun _ H'=>Q .non H',rt:=Q } (L2.start ["rows","table","state","behind"] [v,.ref tl]) H:=by
 obtain ⟨rl,xs,rfl,_,hx,hr⟩:=h1
 obtain ⟨zs,hz,pz⟩:=h3
 have le:=h4.le
 simp only [vH,qv,yC,ZG,jV,YU,L2.start,QE,Wl,zq,zG,zl,Ye,jR,Yd,zu,zx,tOp,zc,tC,yS,zS,zb,zi,zA,xv,zp,tB,tCB,zm,y7,ve,Yp,rNe,yn,List.map,List.replicate,List.length,List.append,jqa,jqb,jqc,jqd,jqe,jqf,jqg,jqh,jqi,jqj,jqk,jql,jqm,jqn,and_true,true_and,and_assoc,jqo,jqp,jqq,jqr,jqs,jqt,if_true,ite_true,jqu,ite_false,if_false]
 intro p hp
 have s1:=isV (o:=HO.dK []) p hp
 have e1:upd H p (HO.dK []) p=some (HO.dK []):=zf
 generalize upd H p (HO.dK [])=H1 at *
 intro sl hsl
 have s2:=isV (o:=HO.dK []) sl hsl
 have e2:upd H1 sl (HO.dK []) sl=some (HO.dK []):=zf
 generalize upd H1 sl (HO.dK [])=H2 at *
 have S2:=s1.trans s2
 refine ⟨zs,S2 _ _ hz,tab,jr S2 pz,by lia,fun wo hwo=>⟨by decide,fun sa hsa=>?_⟩⟩
 have s3:=isV (o:=HO.dT (dOf tab)) wo hwo
 have e3:upd H2 wo (HO.dT (dOf tab)) wo=some (HO.dT (dOf tab)):=zf
 generalize upd H2 wo (HO.dT (dOf tab))=H3 at *
 have s4:=isV (o:=HO.lst []) sa hsa
 have e4:upd H3 sa (HO.lst []) sa=some (HO.lst []):=zf
 generalize upd H3 sa (HO.lst [])=H4 at *
 refine ⟨(s2.trans (s3.trans s4)) _ _ e1,wkK sl wo sa,rfl,(by show (4:Nat)≤15;decide),?_⟩
 have n2:sl≠p:=kL e1 hsl
 have n3:wo≠p:=kL (s2 _ _ e1) hwo
 have n4:sa≠p:=kL ((s2.trans s3) _ _ e1) hsa
 have T:Same H (upd H4 p (HO.dK (Zo [] (wkK sl wo sa)))):=fun b o e=>by rw [zk (zE e hp)];exact (S2.trans (s3.trans s4)) _ _ e
 refine V7 (H0:=H) (sl:=sl) (wo:=wo) (sa:=sa) (T _ _ hx) hr h2 ⟨zs,hz,pz⟩ h4 ⟨by rw [zf];rfl,by rw [zk n2];exact (s3.trans s4) _ _ e2,by rw [zk n3];exact s4 _ _ e3,by rw [zk n4];exact e4,Ne.symm n2⟩ T hx hp (zD s1 hsl) (zD S2 hwo) (zD (S2.trans s3) hsa) q
end
section
variable {C:List Nat}
theorem zaB:PyData.strOk (Str.ofString "done")=true:=by decide +kernel
def ocD:Oc→PyData
 | .done sa=>.tuple [.str (Str.ofString "done"),.tuple (sa.map PyData.int)]
 | .off w=>.tuple [.str (Str.ofString "off"),.str w]
theorem Kz {H':Hp} {v:V} {oc:Oc} (h:qd H v oc) (s:Same H H'):qd H' v oc:=by
 cases oc with
 | done sa=>obtain ⟨o,y,e1,e2,e3⟩:=h;exact ⟨o,y,e1,s _ _ e2,s _ _ e3⟩
 | off w=>obtain ⟨o,e1,e2⟩:=h;exact ⟨o,e1,s _ _ e2⟩
theorem zcv {v:V} {oc:Oc} (h:qd H v oc):Dat K H v (ocD oc):=by
 cases oc with
 | done sa =>
  obtain ⟨o,y,rfl,e2,e3⟩:=h
  exact .tup (SqT.of e2) (.cons (.str _) (.cons (.tup (SqT.of e3) (DatAll.of fun i _=>.int i)) .nil))
 | off w =>
  obtain ⟨o,rfl,e2⟩:=h
  exact .tup (SqT.of e2) (.cons (.str _) (.cons (.str _) .nil))
theorem Xa:∀ (sa:List Int),zY (sa.map PyData.int)=true
 | []=>rfl
 | i :: t=>by rw [List.map_cons,zY,Xa t];rfl
theorem Wb:∀ (sa:List Int),PyData.depthAll (sa.map PyData.int)=0
 | []=>by simp [PyData.depthAll]
 | i :: t=>by rw [List.map_cons,PyData.depthAll,Wb t,PyData.depth];rfl
theorem zaC {oc:Oc} (h:∀ w,oc=.off w→PyData.strOk w=true):zK (ocD oc)=true:=by
 cases oc with
 | done sa=>have:=zaB;simp [ocD,zK,zY,Xa,this]
 | off w=>have:=h w rfl;have k:=Kt;simp [ocD,zK,zY,this,k]
theorem zbA (oc:Oc):(ocD oc).depth≤3:=by
 cases oc with
 | done sa=>simp only [ocD,PyData.depth,PyData.depthAll,Wb];lia
 | off w=>simp only [ocD,PyData.depth,PyData.depthAll];lia
end
theorem LsAt.dat {H:Hp} {a:Addr} {rows:List Row} (h:LsAt H a rows):Dat K H (.ref a) (.list (rows.map Xk)):=by
 obtain ⟨xs,h1,h2⟩:=h
 exact .lst (SqL.of h1) (V0 h2)
theorem zcw {rows:List Row} {xs:List V} (h:Paired (jE H) xs rows):∀ v∈xs,PlV H 4 v:=by
 intro v hv
 obtain ⟨i,hi⟩:=List.getElem?_of_mem hv
 obtain ⟨q,_,r,p,rfl,e1,e2⟩:=Paired.getP h hi
 refine .tup e1 fun y hy=>?_
 simp only [List.mem_cons,List.not_mem_nil,or_false] at hy
 rcases hy with rfl | rfl
 ·refine .tup e2 fun y hy=>?_
  simp only [List.mem_cons,List.not_mem_nil,or_false] at hy
  rcases hy with rfl | rfl
  ·exact .str _
  ·exact .int _
 ·exact .int _
theorem zbB {F:Addr→Prop} {v:V} {r:Rw} (h:RwAt F H v r) (d:¬ ∃ e a b,r=.iff e a b):∃ p xs hd,v=.ref p∧H p=some (.tup xs)∧atI xs 0=some (.str hd)∧hd≠"if":=by
 rcases Classical.em (YW r) with hD | hD
 ·obtain ⟨p,xs,hd,e1,e2,e3,_,e4⟩:=V1 h hD
  exact ⟨p,xs,hd,e1,e2,e3,e4⟩
 ·cases r with
  | off e =>
   unfold RwAt at h
   obtain ⟨r,te,rfl,_,_,e2,e3⟩:=h
   exact ⟨r,_,_,rfl,e2,rfl,by decide +kernel⟩
  | iff e a b=>exact (d ⟨e,a,b,rfl⟩).elim
  | _=>exact (hD trivial).elim
theorem j7 {vs:List V} {H:Hp} {Q:VK} {E:XK} (h:yd 0 vs H Q E):False:=by
 obtain ⟨F,v,rws,_,_,_,h,_⟩:=h
 exact Nat.not_lt_zero _ h
def cpI (a R:Addr) (F:Addr→Prop) (rws:Rws) (xs:List V) (n:Nat) (H:Hp) (i:Nat) (σ:St) (H':Hp):Prop:=∃ (ys:List V) (d rest:Rws),(∃ o,σ=[some (.ref a),some (.ref R),o])∧Same H H'∧H' R=some (.lst ys)∧ys.length≤i∧RwsAt (fun b=>F b∧b≠R) H' ys d∧RwsAt (fun b=>F b∧b≠R) H (xs.drop i) rest∧d.app rest=rws∧rest.deep < n + 1∧rest.cnt≤500
theorem ZS {F:Addr→Prop} {v:V} {rws:Rws} {n:Nat} (h1:RlAt F H v rws) (h2:∀ b,H b=none→F b) (h3:rws.deep < n + 1) (h4:rws.cnt≤500) (q:∀ v' H',Same H H'→RlAt F H' v' rws→Q v' H') :
  vI K t n { nx:=fun _ H'=>Q .non H',rt:=Q } (L2.start ["rows","found","row"] [v]) H:=by
 obtain ⟨a,xs,rfl,fa,ha,hx⟩:=h1
 have lx:=RwsAt.len rws hx
 simp only [vI,yd,L2.start,zn,zP,zT,zq,zG,zl,zu,zR,tOp,zc,tC,yS,zS,zb,zi,ym,zA,zp,tBM,tyV,zm,yQ,zT,rEq,yn,List.map,List.replicate,List.length,List.append,jqa,jqb,jqc,jqd,jqe,jqf,jqg,jqh,jqi,jqj,jqk,jql,jqm,jqn,and_true,true_and,and_assoc,jqo,jqp,jqq,jqr,jqs,jqt,if_true,ite_true,jqu,ite_false,if_false]
 refine ⟨by decide,fun R hR=>?_⟩
 have s0:=isV (o:=HO.lst []) R hR
 have hx':RwsAt (fun b=>F b∧b≠R) H xs rws:=hx.to rws (fun b o f e=>⟨f,zE e hR⟩) fun b o _ e=>e
 refine ⟨⟨_,SqL.of (s0 _ _ ha)⟩,jj xs (cpI a R F rws xs n H) ⟨[],.nil,rws,⟨_,rfl⟩,s0,zf,Nat.le_refl _,by unfold RwsAt;rfl,by rw [List.drop_zero];exact hx',rfl,h3,h4⟩ (fun i σ H' ⟨ys,d,rest,_,s,_⟩=>SqL.of (s _ _ ha)) ?_ ?_⟩
 ·rintro i v σ H' hv ⟨ys,d,rest,⟨o,rfl⟩,s,hy,ly,hd,hr,ha2,dp,ct⟩
  have hi:=(List.getElem?_eq_some_iff.mp hv).1
  obtain ⟨x,rs,rfl,rx,rr⟩:=hr.get hv
  have c1:(Rws.cons x rs).deep=max x.deep rs.deep:=by rw [Rws.deep]
  have c2:(Rws.cons x rs).cnt=x.cnt + rs.cnt:=by rw [Rws.cnt]
  rw [c1] at dp
  rw [c2] at ct
  have sl:ys.length < sizeLine:=Nat.lt_of_le_of_lt (by lia:ys.length≤500) (by decide)
  have fin:∀ (H2:Hp) (u:V),Same H' H2→RwAt (fun b=>F b∧b≠R) H2 u x→cpI a R F rws xs n H (i + 1) [some (.ref a),some (.ref R),some v] (upd H2 R (.lst (ys ++ [u]))):=fun H2 u s2 hu =>
   ⟨ys ++ [u],d.snoc x,rs,⟨_,rfl⟩,z8 (s.trans s2) hR,zf,by rw [List.length_append,List.length_singleton];lia,RwsAt.snoc (hu.up fun b f=>f.2) d ((hd.mono s2).up fun b f=>f.2),rr,by rw [Rws.snoc_app];exact ha2,by lia,by lia⟩
  by_cases hI:∃ e a b,x=.iff e a b
  ·obtain ⟨e,a',b',rfl⟩:=hI
   have k1:(Rw.iff e a' b').deep=max a'.deep b'.deep + 1:=by rw [Rw.deep]
   have k2:(Rw.iff e a' b').cnt=max a'.cnt b'.cnt + 1:=by rw [Rw.cnt]
   rw [k1] at dp
   rw [k2] at ct
   unfold RwAt at rx
   obtain ⟨r,te,la,lb,as,bs,rfl,f1,f2,f3,f4,e2,e3,e4,e5,e6,e7⟩:=rx
   simp only [wL,yd,L2.start,zn,zP,zT,zq,zG,zl,zu,zR,tOp,zc,tC,yS,zS,zb,zi,ym,zA,zp,tBM,tyV,zm,yQ,zT,rEq,yn,List.map,List.replicate,List.length,List.append,jqa,jqb,jqc,jqd,jqe,jqf,jqg,jqh,jqi,jqj,jqk,jql,jqm,jqn,and_true,true_and,and_assoc,jqo,jqp,jqq,jqr,jqs,jqt,if_true,ite_true,jqu,ite_false,if_false]
   refine ⟨_,SqT.of (s _ _ e2),_,rfl,rfl,?_⟩
   rw [if_pos rfl]
   simp only [jn,yd,L2.start,zn,zP,zT,zq,zG,zl,zu,zR,tOp,zc,tC,yS,zS,zb,zi,ym,zA,zp,tBM,tyV,zm,yQ,zT,rEq,yn,List.map,List.replicate,List.length,List.append,jqa,jqb,jqc,jqd,jqe,jqf,jqg,jqh,jqi,jqj,jqk,jql,jqm,jqn,and_true,true_and,and_assoc,jqo,jqp,jqq,jqr,jqs,jqt,if_true,ite_true,jqu,ite_false,if_false]
   have fr:∀ {H2:Hp},Same H' H2→∀ b,H2 b=none→F b∧b≠R:=fun s2 b hb=>⟨h2 _ (zD (s.trans s2) hb),wu (s2 _ _ hy) hb⟩
   refine ⟨.inl ⟨_,SqL.of hy⟩,_,SqT.of (s _ _ e2),_,rfl,_,SqT.of (s _ _ e2),_,rfl,fun b=>F b∧b≠R,a',⟨la,as,rfl,f3,s _ _ e4,e5.mono s⟩,fr (Same.refl _),by lia,by lia,fun v1 H2 t1 hv1=>?_⟩
   obtain ⟨l1,as1,rfl,g1,hl1,r1⟩:=hv1
   have T1:=s.trans t1
   refine ⟨_,SqT.of (T1 _ _ e2),_,rfl,fun b=>F b∧b≠R,b',⟨lb,bs,rfl,f4,T1 _ _ e6,e7.mono T1⟩,fr t1,by lia,by lia,fun v2 H3 t2 hv2=>⟨by decide,fun r2 hr2=>?_⟩⟩
   obtain ⟨l2,bs1,rfl,g2,hl2,r2'⟩:=hv2
   have t3:=isV (o:=HO.tup [V.str (Str.ofString "if"),V.ref te,V.ref l1,V.ref l2]) r2 hr2
   have T:=t1.trans (t2.trans t3)
   refine ⟨ys,T _ _ hy,sl,fin _ (.ref r2) T ?_⟩
   unfold RwAt
   exact ⟨r2,te,l1,l2,as1,bs1,rfl,fr (t1.trans t2) r2 hr2,f2,g1,g2,zf,(s.trans T) _ _ e3,(t2.trans t3) _ _ hl1,r1.mono (t2.trans t3),t3 _ _ hl2,r2'.mono t3⟩
  ·obtain ⟨p,ws,hd',rfl,e2,e3,n1⟩:=zbB rx hI
   simp only [wL,yd,L2.start,zn,zP,zT,zq,zG,zl,zu,zR,tOp,zc,tC,yS,zS,zb,zi,ym,zA,zp,tBM,tyV,zm,yQ,zT,rEq,yn,List.map,List.replicate,List.length,List.append,jqa,jqb,jqc,jqd,jqe,jqf,jqg,jqh,jqi,jqj,jqk,jql,jqm,jqn,and_true,true_and,and_assoc,jqo,jqp,jqq,jqr,jqs,jqt,if_true,ite_true,jqu,ite_false,if_false]
   refine ⟨_,SqT.of (s _ _ e2),_,e3,rfl,?_⟩
   rw [if_neg (fun z=>n1 (V.str.inj z))]
   simp only [jo,L2.start,zn,zP,zT,zq,zG,zl,zu,zR,tOp,zc,tC,yS,zS,zb,zi,ym,zA,zp,tBM,tyV,zm,yQ,zT,rEq,yn,List.map,List.replicate,List.length,List.append,jqa,jqb,jqc,jqd,jqe,jqf,jqg,jqh,jqi,jqj,jqk,jql,jqm,jqn,and_true,true_and,and_assoc,jqo,jqp,jqq,jqr,jqs,jqt,if_true,ite_true,jqu,ite_false,if_false]
   exact ⟨.inl ⟨_,SqL.of hy⟩,ys,hy,sl,fin _ _ (Same.refl _) (rx.mono s)⟩
 ·rintro σ H' ⟨ys,d,rest,⟨o,rfl⟩,s,hy,ly,hd,hr,ha2,_⟩
  have e:=hr.none
  subst e
  rw [Rws.app_nil] at ha2
  subst ha2
  exact ⟨_,rfl,q (.ref R) H' s ⟨R,ys,rfl,h2 R hR,hy,hd.to d (fun b o f _=>f.1) fun b o _ e=>e⟩⟩
theorem zbC (ns:List Int) (lo hi:Option Int):∃ ys:List Int,Wg (ns.map V.int) lo hi=ys.map V.int∧ys.length≤ns.length:=by
 refine ⟨(ns.drop (HT.sIx ns.length 0 lo)).take (HT.sIx ns.length ns.length hi - HT.sIx ns.length 0 lo),?_,?_⟩
 ·unfold Wg
  rw [List.map_take,List.map_drop,List.length_map]
 ·rw [List.length_take,List.length_drop];lia
theorem V8 {σ:St} {H:Hp} {nx:St→Hp→Prop} {B:V→St→Hp→(St→Hp→Prop)→Prop} {lo c:Int} {n:Nat} (Pv:Nat→St→Hp→Prop) (h0:Pv 0 σ H) (hs:∀ i σ H,i < n→Pv i σ H→B (.int (lo + i * c)) σ H (Pv (i + 1))) (hd:∀ σ H,Pv n σ H→nx σ H) :
  ∃ W:Nat→Nat→St→Hp→Prop,(∃ m,W 0 m σ H)∧∀ i m σ H,W i m σ H→((zag lo c n).stop i H∧nx σ H)∨((zag lo c n).go i H∧∃ N:St→Hp→Prop,(∀ σ' H',N σ' H'→∃ m',m' < m∧W (i + 1) m' σ' H')∧∀ x H',(zag lo c n).yld i H x H'→B x σ H' N):=by
 refine ⟨fun i m σ H=>m=n - i∧i≤n∧Pv i σ H,⟨n,by simp,Nat.zero_le _,h0⟩,?_⟩
 rintro i m σ H ⟨rfl,hi,p⟩
 by_cases hlt:i < n
 ·refine .inr ⟨hlt,Pv (i + 1),fun σ' H' p'=>⟨n - (i + 1),by lia,rfl,hlt,p'⟩,?_⟩
  rintro x H' ⟨rfl,rfl⟩
  exact hs i σ _ hlt p
 ·obtain rfl:i=n:=by lia
  exact .inl ⟨Nat.le_refl _,hd σ H p⟩
theorem zcx {i:Nat} {j c:Int} (hj:0≤j) (hc:0 < c) (h:i < WC 0 j c):(i:Int) * c < j:=by
 unfold WC at h
 split at h
 ·have h2:(i:Int)≤(j - 0 - 1) / c:=by lia
  have h3:=(Int.le_ediv_iff_mul_le hc).mp h2
  lia
 ·lia
theorem zbD (ns:List Int) (k m:Nat) (hk:k < ns.length) (hm:1≤m):∃ ys:List Int,Wg (ns.map V.int) (some (k:Int)) (some ((k + m:Nat):Int))=ys.map V.int∧ys.length≤m∧0 < ys.length:=by
 refine ⟨(ns.drop k).take m,?_,?_,?_⟩
 ·unfold Wg
  rw [List.length_map,HT.sIx_nat,HT.sIx_nat,List.map_take,List.map_drop,Nat.min_eq_left (by lia:k≤ns.length)]
  by_cases c:k + m≤ns.length
  ·rw [Nat.min_eq_left c,Nat.add_sub_cancel_left]
  ·rw [Nat.min_eq_right (by lia)]
   rw [List.take_of_length_le (by simp),List.take_of_length_le (by simp;lia)]
 ·rw [List.length_take];lia
 ·rw [List.length_take,List.length_drop];lia
theorem TaK.mono {n m:Nat} {tab:List Row} (h:TaK n tab) (l:n≤m):TaK m tab:=⟨h.ri,h.nm,Nat.le_trans h.le l⟩
theorem zbT {r:Rws} {tab:List Row} {s:Sta} {n:Nat} (rk:Xj r) (ht:TaK n tab) (hg:yM r ⟨[],tab,[]⟩=.go s):StOk (tab.length + r.cnt) s∧∀ q∈s.wo,nmP q.1 :=
 ⟨kX r ⟨fun k v e=>(by cases e),fun r hr=>(ht.nm r hr).2,Nat.zero_le _,Nat.le_refl _,Nat.zero_le _⟩ rk.ok hg,Z6 (P:=nmP) r (fun q hq=>(ht.nm q hq).1) rk.nm hg⟩
theorem zcy {r:Rws} {tab:List Row} {n:Nat} (rk:Xj r) (ht:TaK n tab) (hn:n≤400):VQ r tab:=by
 have c:=rk.ct
 have l:=ht.le
 refine ⟨rk.ok,rk.dp,fun r hr=>(ht.nm r hr).2,by lia,fun s hg=>?_⟩
 have:=(zbT rk ht hg).1.l2
 have:=vf s.wo
 lia
theorem zcz {r:Rws} {tab out:List Row} {oc:Oc} {n:Nat} (rk:Xj r) (ht:TaK n tab) (al:AloneR r tab oc out):TaK (n + r.cnt) out∧∀ w,oc=.off w→PyData.strOk w=true:=by
 have l:=ht.le
 unfold AloneR at al
 split at al
 ·rename_i s hg
  obtain ⟨S,N⟩:=zbT rk ht hg
  obtain ⟨rfl,ti⟩:=al
  refine ⟨⟨ti.1,fun q hq=>?_,?_⟩,fun w z=>nomatch z⟩
  ·have m:=kI ((ti.2 q.1 q.2).mp hq).1
   exact ⟨N _ m,S.wo _ m⟩
  ·have:=Zt ti.1.nd (b:=s.wo.map (·.1)) fun p hp=>by
    obtain ⟨x,hx,rfl⟩:=List.mem_map.mp hp
    exact List.mem_map_of_mem (f:=(·.1)) (kI ((ti.2 x.1 x.2).mp hx).1)
   rw [List.length_map,List.length_map] at this
   have:=S.l2
   lia
 ·obtain ⟨rfl,rfl⟩:=al
  exact ⟨ht.mono (by lia),fun w z=>by cases z;decide +kernel⟩
 ·rename_i e hg
  obtain ⟨rfl,rfl⟩:=al
  exact ⟨ht.mono (by lia),fun w z=>by cases z;cases e <;> decide +kernel⟩
def zaD (oc:Oc) (out:List Row):PyData:=.tuple [ocD oc,.list (out.map Xk)]
theorem KA {r l:Addr} {o:V} {oc:Oc} {out:List Row} (h1:H r=some (.tup [o,.ref l])) (h2:qd H o oc) (h3:LsAt H l out):Dat K H (.ref r) (zaD oc out):=.tup (SqT.of h1) (.cons (zcv h2) (.cons h3.dat .nil))
theorem Qj {oc:Oc} {out:List Row} {n:Nat} (h:TaK n out) (w:∀ w,oc=.off w→PyData.strOk w=true):zK (zaD oc out)=true∧(zaD oc out).depth≤64:=by
 have p1:=zaC w
 have p2:=qJ (rows:=out) fun q hq=>(h.nm q hq).1
 have d1:=zbA oc
 have d2:=Zy out
 constructor
 ·unfold zaD;rw [zK,zY,zY,zK,p1,p2];rfl
 ·unfold zaD;simp only [PyData.depth,PyData.depthAll] at d1 d2 ⊢;lia
theorem zcA {r l:Addr} {o:V} {oc:Oc} {out:List Row} (h1:H r=some (.tup [o,.ref l])) (h2:qd H o oc) (h3:LsAt H l out):PlV H 6 (.ref r):=by
 obtain ⟨xs,hx,px⟩:=h3
 refine .tup h1 fun z hz=>?_
 simp only [List.mem_cons,List.not_mem_nil,or_false] at hz
 rcases hz with rfl | rfl
 ·cases oc with
  | done sa =>
   obtain ⟨o',y,rfl,e1,e2⟩:=h2
   refine .tup e1 fun z hz=>?_
   simp only [List.mem_cons,List.not_mem_nil,or_false] at hz
   rcases hz with rfl | rfl
   ·exact .str _
   ·refine .tup e2 fun z hz=>?_
    obtain ⟨i,_,rfl⟩:=List.mem_map.mp hz
    exact .int i
  | off w =>
   obtain ⟨o',rfl,e1⟩:=h2
   refine .tup e1 fun z hz=>?_
   simp only [List.mem_cons,List.not_mem_nil,or_false] at hz
   rcases hz with rfl | rfl
   ·exact .str _
   ·exact .str _
 ·exact .lst hx (zcw px)
def lwI (a sa sb cl:Addr) (m:Nat) (H:Hp) (i:Nat) (σ:St) (H':Hp):Prop:=∃ tl tab,(∃ o6 o7 o8 o9 o10 o11,σ=[some (.ref a),some (.ref sa),some (.ref sb),some (.ref tl),some (.int m),some (.ref cl),o6,o7,o8,o9,o10,o11])∧Same H H'∧LsAt H' tl tab∧TaK (8 + 2 * (i * m)) tab
theorem zaE {a sa sb tl cl:Addr} {m:Nat} {cs:List Int} {ws us:List Str} {tab:List Row} (n1:NamesAt H sa ws) (n2:ws.length=4) (n3:NamesAt H sb us) (n4:us.length=3) (ht:LsAt H tl tab) (tk:TaK 8 tab) (hc:H cl=some (.lst (cs.map V.int))) (lc:cs.length≤63) (m1:1≤m) (m2:m≤16) (q:∀ H',Q (.bl true) H') :
  YZ K t { nx:=fun _ H'=>Q .non H',rt:=Q } [some (.ref a),some (.ref sa),some (.ref sb),some (.ref tl),some (.int m),some (.ref cl),none,none,none,none,none,none] H:=by
 simp only [YZ,Jx,VI,L2.start,KW,zT,zq,zG,zl,zu,zx,tOp,zc,tC,zb,zi,ym,zA,tOr,xv,zp,tB,tCB,tSl,xR,zm,vL,zT,rI0,KN,wp,List.map,List.replicate,List.length,List.append,jqa,jqb,jqc,jqd,jqe,jqf,jqg,jqh,jqi,jqj,jqk,jql,jqm,jqn,and_true,true_and,and_assoc,jqo,jqp,jqq,jqr,jqs,jqt,if_true,ite_true,jqu,ite_false,if_false]
 have lm:(cs.map V.int).length=cs.length:=List.length_map ..
 refine ⟨cs.length,.inl ⟨_,SqL.of hc,by rw [lm]⟩,by lia,by lia,by lia,by lia,by lia,by lia,V8 (lwI a sa sb cl m H) ⟨tl,tab,⟨_,_,_,_,_,_,rfl⟩,Same.refl H,ht,tk.mono (by lia)⟩ ?_ ?_⟩
 ·rintro i σ H1 hi ⟨tl,tab,⟨o6,o7,o8,o9,o10,o11,rfl⟩,s1,ht,tk⟩
  simp only [VR,jG,vt,yd,YX,xq,Jx,VI,L2.start,KW,zT,zq,zG,zl,zu,zx,tOp,zc,tC,zb,zi,ym,zA,tOr,xv,zp,tB,tCB,tSl,xR,zm,vL,zT,rI0,KN,wp,List.map,List.replicate,List.length,List.append,jqa,jqb,jqc,jqd,jqe,jqf,jqg,jqh,jqi,jqj,jqk,jql,jqm,jqn,and_true,true_and,and_assoc,jqo,jqp,jqq,jqr,jqs,jqt,if_true,ite_true,jqu,ite_false,if_false,Int.zero_add]
  refine ⟨_,SqL.of (s1 _ _ hc),fun p hp=>?_⟩
  have lt:=zcx (by lia) (by lia) hi
  have ek:(i:Int) * m=((i * m:Nat):Int):=(Int.natCast_mul i m).symm
  have lt':i * m < cs.length:=by rw [ek] at lt;lia
  obtain ⟨es,ee,le,pe⟩:=zbD cs (i * m) m lt' m1
  have e2:(i:Int) * m + m=((i * m + m:Nat):Int):=by rw [ek];lia
  rw [e2,ek,ee]
  have s2:=isV (o:=HO.lst (es.map V.int)) p hp
  have S2:=s1.trans s2
  have hp2:upd H1 p (HO.lst (es.map V.int)) p=some (.lst (es.map V.int)):=zf
  generalize upd H1 p (HO.lst (es.map V.int))=H2 at *
  refine ⟨es,hp2,by lia,ws,n1.same S2,n2,us,n3.same S2,n4,fun v r H3 s3 hv rk rc=>?_⟩
  have tk4:TaK 400 tab:=tk.mono (by lia)
  have dp:=rk.dp
  have ct:=rk.ct
  refine ⟨r,hv.any,rk,tab,ht.same (s2.trans s3),tk4,fun d o l oc out H4 s4 e1 e2 e3 al=>?_⟩
  refine ⟨Zu,r,hv.any.mono s4,(fun _ _=>trivial),by lia,by lia,fun v' H5 s5 hv'=>?_⟩
  have T5:=s2.trans (s3.trans (s4.trans s5))
  obtain ⟨zs,hz,pz⟩:=ht.same T5
  refine ⟨zs,.inl (SqL.of hz),fun g hg=>?_⟩
  have s6:=isV (o:=HO.lst zs) g hg
  have hg6:LsAt (upd H5 g (HO.lst zs)) g tab:=⟨zs,zf,jr s6 pz⟩
  generalize upd H5 g (HO.lst zs)=H6 at *
  refine ⟨r,hv'.mono s6,tab,hg6,zcy rk tk4 (Nat.le_refl _),fun a7 o7' l7 oc7 out7 H7 s7 fl f1 f2 f3 al7=>?_⟩
  obtain ⟨rfl,rfl⟩:=al.uniq al7
  obtain ⟨tk7,w7⟩:=zcz rk tk al
  refine ⟨zcA f1 f2 f3,fun H8 s8=>?_⟩
  rw [if_neg (by decide)]
  have U:=s5.trans (s6.trans (s7.trans s8))
  obtain ⟨pl,dl⟩:=Qj tk7 w7
  refine ⟨_,KA (s8 _ _ f1) (Kz f2 s8) (f3.same s8),_,KA (U _ _ e1) (Kz e2 U) (e3.same U),pl,pl,dl,dl,fun b hb=>?_⟩
  rw [hb.mpr rfl,if_neg (by decide)]
  have W:=s6.trans (s7.trans s8)
  have p1:zK (.list (qB r))=true:=by rw [zK];exact kY _ rk.pl
  have d1:(PyData.list (qB r)).depth≤64:=by have:=Zd r;rw [PyData.depth];lia
  have p2:zK (.list (tab.map Xk))=true:=by rw [zK];exact qJ fun q hq=>(tk.nm q hq).1
  have d2:(PyData.list (tab.map Xk)).depth≤64:=by have:=Zy tab;rw [PyData.depth];lia
  refine ⟨_,(hv'.mono W).dat rk.pl,_,(hv.any.mono (s4.trans U)).dat rk.pl,p1,p1,d1,d1,fun b hb=>?_⟩
  rw [hb.mpr rfl,if_neg (by decide)]
  refine ⟨_,(hg6.same (s7.trans s8)).dat,_,(ht.same (T5.trans W)).dat,p2,p2,d2,d2,fun b hb=>?_⟩
  rw [hb.mpr rfl,if_neg (by decide)]
  refine ⟨_,SqT.of (U _ _ e1),_,rfl,l,out,⟨_,_,_,_,_,_,rfl⟩,s1.trans (T5.trans W),e3.same U,tk7.mono ?_⟩
  have em:(i + 1) * m=i * m + m:=Nat.succ_mul i m
  rw [em];lia
 ·rintro σ H1 ⟨tl,tab,⟨o6,o7,o8,o9,o10,o11,rfl⟩,s1,_⟩
  exact q _
theorem zbE {a:Addr} {ns:List Int} (hS:SqL K H a (ns.map V.int)) (hn:ns.length≤63) (q:∀ H',Q (.bl true) H') :
  JE K t { nx:=fun _ H'=>Q .non H',rt:=Q } (L2.start ["script","slots","shelves","table","many","cells","at","rows","due","handed","given","told"] [.ref a]) H:=by
 simp only [JE,VT,VS,yH,zo,wQ,vZ,Jx,VI,L2.start,KW,zT,zq,zG,zl,zu,zx,tOp,zc,tC,zb,zi,ym,zA,tOr,xv,zp,tB,tCB,tSl,xR,yW,zm,vL,zT,rI,rI0,KN,wp,List.map,List.replicate,List.length,List.append,jqa,jqb,jqc,jqd,jqe,jqf,jqg,jqh,jqi,jqj,jqk,jql,jqm,jqn,and_true,true_and,and_assoc,jqo,jqp,jqq,jqr,jqs,jqt,if_true,ite_true,jqu,ite_false,if_false]
 refine ⟨ns,0,rfl,hS,hn,fun c1 H1 s1=>⟨by decide,by decide,fun sa ws H2 s2 n1 n2=>⟨ns,1,rfl,hS.mono (s1.trans s2),hn,fun c2 H3 s3=>⟨by decide,by decide,fun sb us H4 s4 n3 n4=>?_⟩⟩⟩⟩
 have S4:=s1.trans (s2.trans (s3.trans s4))
 refine ⟨ns,2,rfl,hS.mono S4,hn,fun c3 H5 s5=>⟨us,n3.same s5,by lia,fun tl tab H6 s6 _ ht tk=>?_⟩⟩
 refine ⟨ns,0,rfl,hS.mono (S4.trans (s5.trans s6)),hn,fun c4 H7 s7=>⟨by decide,by decide,fun r H8 a8 b8 s8=>⟨by decide,_,hS.mono (S4.trans (s5.trans (s6.trans (s7.trans s8)))),fun p hp=>?_⟩⟩⟩
 obtain ⟨cs,ec,lc⟩:=zbC ns none (some 120)
 rw [ec]
 have s9:=isV (o:=HO.lst (cs.map V.int)) p hp
 have g1:=Int.emod_nonneg r (b:=16) (by decide)
 have g2:=Int.emod_lt_of_pos r (b:=16) (by decide)
 have T:=s7.trans (s8.trans s9)
 have em:1 + r % 16=((1 + r % 16).toNat:Int):=by lia
 rw [em]
 exact zaE (n1.same (s3.trans (s4.trans (s5.trans (s6.trans T))))) (by lia) (n3.same (s5.trans (s6.trans T))) (by lia) (ht.same T) tk zf (by lia) (by lia) (by lia) q
end
section
variable {P:Program} {w:World} {K:W.Frag} {mg:Str→Option Value} {base:Heap} {t:Adr}
theorem zF (T:Txt K mg t):FnOk P w K mg base (CX1 P w) 1 t.a__law_draw t.d__law_draw ["cell","j"] (zo):=by
 refine T.f__law_draw.ok0 sc__law_draw (fun vs H Q E h=>?_) (fun cdv A outer s H vs Q E hr h=>?_)
 ·obtain ⟨c,j,rfl,_⟩:=h;rfl
 obtain ⟨c,j,rfl,h1,h2,q⟩:=h
 exact ⟨jH K t,(zh (zI (i:=2) sc__law_draw.nd rfl (Or.inl rfl) (zv yh (zv ya (zv xJ (zv yh (pv 0) (zd (i:=1000000007))) (zd (i:=6700417))) (zv xJ (zv xJ (zv ya (pv 1) (zd (i:=1))) (zd (i:=104729))) (zd (i:=65537)))) (zd (i:=1000000009))))
  (zg (zy (zv QI (zv yh (zv xJ (zv yh (zv xJ (pv 2) (pv 2)) (zd (i:=1000000009))) (pv 2)) (zd (i:=1000000009))) (zd (i:=32)))))),Xm h1 h2 q⟩
theorem qm (T:Txt K mg t):FnOk P w K mg base (CX1 P w) 2 t.a__law_names t.d__law_names ["cell","many"] (wQ):=by
 refine T.f__law_names.ok0 sc__law_names (fun vs H Q E h=>?_) (fun cdv A outer s H vs Q E hr h=>?_)
 ·obtain ⟨c,m,rfl,_⟩:=h;rfl
 obtain ⟨c,m,rfl,h1,h2,q⟩:=h
 exact ⟨v0 K t,(zh (zI (i:=2) sc__law_names.nd rfl (Or.inl rfl) (zv ya (zd (i:=1)) (zv yh (zr (FnOk.mono (zF T) (by decide)) hr rfl T.m__law_draw T.f__law_draw.kp T.b__law_draw .nil zB (za (pv 0) (za (zd (i:=1)) ze))) (zd (i:=6)))))
  (zh (zI (i:=3) sc__law_names.nd rfl (Or.inr rfl) (zw (x:="zyxwvtsrqpnmlkjhgfdcb")))
  (zh (zI (i:=4) sc__law_names.nd rfl (Or.inl rfl) (kO yp (zv yh (zr (FnOk.mono (zF T) (by decide)) hr rfl T.m__law_draw T.f__law_draw.kp T.b__law_draw .nil zB (za (pv 0) (za (zd (i:=10)) ze))) (zd (i:=3))) (zd (i:=0)) (zC _)))
  (zh (zO (xL (pv 4)) (zg (zI (i:=2) sc__law_names.nd rfl (Or.inl rfl) (zd (i:=6))))
    (zg (zO (zt yp (pv 2) (zd (i:=6)) (zC _)) (zg (zI (i:=3) sc__law_names.nd rfl (Or.inr rfl) (zw (x:="zyxwvutsrqponmlkjihgfedcba"))))
    zJ)))
  (zh (zI (i:=5) sc__law_names.nd rfl (Or.inr rfl) (zw (x:="")))
  (zh (vm PassesOwn.never rfl (jd rfl T.b_range (za (pv 2) ze)) (yV (i:=6) sc__law_names.nd rfl (Or.inl rfl)) (zg (zI (i:=5) sc__law_names.nd rfl (Or.inr rfl) (zv jz (pv 5) (zL Qz (pv 3) (zv yh (zr (FnOk.mono (zF T) (by decide)) hr rfl T.m__law_draw T.f__law_draw.kp T.b__law_draw .nil zB (za (pv 0) (za (zv ya (zd (i:=2)) (pv 6)) ze))) (yf wk rfl T.b_len jB (za (pv 3) ze))) (fun _ _=>rfl))))))
  (zh (zO (xL (pv 4)) (zg (zy (Wo rfl (osc:=zj yK) (N:=["cell","many","size","signs","shorter","stem","k","at","turn"]) (xs:=["k"]) (ix:=[5]) (by decide +kernel) (jd rfl T.b_range (za (pv 1) ze)) (fun _ _ _ _=>(yV (i:=0) (show List.Nodup (["k","stem"]:List Str) from (by decide +kernel)) rfl (Or.inl rfl) (.inr rfl))) (fun _ _ _ _=>JZ) (fun _ _ _ _=>(vn Yv (pv 1) kP (vP (zv ju (zd (i:=6)) (pv 0))))))))
    zJ)
  (zh (zI (i:=7) sc__law_names.nd rfl (Or.inr rfl) (zv yh (zr (FnOk.mono (zF T) (by decide)) hr rfl T.m__law_draw T.f__law_draw.kp T.b__law_draw .nil zB (za (pv 0) (za (zd (i:=8)) ze))) (pv 2)))
  (zh (zI (i:=8) sc__law_names.nd rfl (Or.inl rfl) (zv yh (zr (FnOk.mono (zF T) (by decide)) hr rfl T.m__law_draw T.f__law_draw.kp T.b__law_draw .nil zB (za (pv 0) (za (zd (i:=9)) ze))) (yf wk rfl T.b_len jB (za (pv 3) ze))))
  (zh (zI (i:=3) sc__law_names.nd rfl (Or.inr rfl) (zv jz (vn Yv (pv 3) (vP (pv 8)) kP) (vn Yv (pv 3) kP (vP (pv 8)))))
  (zg (zy (Wo rfl (osc:=zj yK) (N:=["cell","many","size","signs","shorter","stem","k","at","turn"]) (xs:=["k"]) (ix:=[5,7,3]) (by decide +kernel) (jd rfl T.b_range (za (pv 1) ze)) (fun _ _ _ _=>(yV (i:=0) (show List.Nodup (["k","stem","at","signs"]:List Str) from (by decide +kernel)) rfl (Or.inl rfl) (.inr rfl))) (fun _ _ _ _=>JZ) (fun _ _ _ _=>(zv jz (zv jz (vn Yv (pv 1) kP (vP (pv 2))) (zL Qz (pv 3) (pv 0) (fun _ _=>rfl))) (vn Yv (pv 1) (vP (zv ya (pv 2) (zd (i:=1)))) kP)))))))))))))))),Y5 h1 h2 q⟩
theorem vJ (T:Txt K mg t):FnOk P w K mg base (CX1 P w) 2 t.a__law_number t.d__law_number ["cell","j"] (yA):=by
 refine T.f__law_number.ok0 YV (fun vs H Q E h=>?_) (fun cdv A outer s H vs Q E hr h=>?_)
 ·obtain ⟨c,j,rfl,_⟩:=h;rfl
 obtain ⟨c,j,rfl,h1,h2,q⟩:=h
 exact ⟨vx K t,(zh (zO (zt yp (zv yh (zr (FnOk.mono (zF T) (by decide)) hr rfl T.m__law_draw T.f__law_draw.kp T.b__law_draw .nil zB (za (pv 0) (za (pv 1) ze))) (zd (i:=9))) (zd (i:=0)) (zC _)) (zg (zy (zv ju (zv yh (zv ya (zv xJ (zv xJ (zv yh (pv 0) (zv qp (zd (i:=10)) (zd (i:=40)))) (zv ya (pv 1) (zd (i:=2)))) (zd (i:=1000003))) (pv 1)) (zv ya (zv xJ (zd (i:=2)) (zv qp (zd (i:=10)) (zd (i:=30)))) (zd (i:=1)))) (zv qp (zd (i:=10)) (zd (i:=30))))))
   zJ)
  (zg (zy (zv ju (zv yh (zr (FnOk.mono (zF T) (by decide)) hr rfl T.m__law_draw T.f__law_draw.kp T.b__law_draw .nil zB (za (pv 0) (za (zv ya (pv 1) (zd (i:=1))) ze))) (zd (i:=7))) (zd (i:=2)))))),ZP h1 h2 q⟩
theorem Xs (T:Txt K mg t):FnOk P w K mg base (CX1 P w) 3 t.a__law_table t.d__law_table ["cell","shelves"] (vZ):=by
 refine T.f__law_table.ok0 sc__law_table (fun vs H Q E h=>?_) (fun cdv A outer s H vs Q E hr h=>?_)
 ·obtain ⟨c,b,us,rfl,_⟩:=h;rfl
 obtain ⟨c,b,us,rfl,h1,h2,q⟩:=h
 exact ⟨v3 K t,(zh (zI (i:=2) sc__law_table.nd rfl (Or.inl rfl) QD)
  (zh (vm PassesOwn.never rfl (jd rfl T.b_range (za (zv yh (zr (FnOk.mono (zF T) (by decide)) hr rfl T.m__law_draw T.f__law_draw.kp T.b__law_draw .nil zB (za (pv 0) (za (zd (i:=20)) ze))) (zd (i:=9))) ze)) (yV (i:=3) sc__law_table.nd rfl (Or.inl rfl)) (zh (zI (i:=4) sc__law_table.nd rfl (Or.inl rfl) (zr (FnOk.mono (vJ T) (by decide)) hr rfl T.m__law_number T.f__law_number.kp T.b__law_number .nil zB (za (pv 0) (za (zv ya (zd (i:=30)) (zv xJ (zd (i:=3)) (pv 3))) ze))))
  (zg (zO (zt XA (pv 4) (zd (i:=0)) (zC _)) (zg (vQ (xw hr) (pv 2) (zZ (za (zL z0 (pv 1) (zv yh (zr (FnOk.mono (zF T) (by decide)) hr rfl T.m__law_draw T.f__law_draw.kp T.b__law_draw .nil zB (za (pv 0) (za (zv ya (zd (i:=60)) (pv 3)) ze))) (zd (i:=3))) (fun _ _=>rfl)) (za (zv ju (zv yh (zr (FnOk.mono (zF T) (by decide)) hr rfl T.m__law_draw T.f__law_draw.kp T.b__law_draw .nil zB (za (pv 0) (za (zv ya (zd (i:=70)) (pv 3)) ze))) (zd (i:=4))) (zd (i:=1))) ze))) (pv 4) rfl))
    zJ))))
  (zg (zy (yf (Zc rfl (hu3 hr)) rfl T.b_sorted Zq (za (VB (pv 2)) ze)))))),Y7 h1 h2 q⟩
theorem xK (T:Txt K mg t):FnOk P w K mg base (CX1 P w) 1 t.a__law_cell_at t.d__law_cell_at ["script","k"] (yH K):=by
 refine T.f__law_cell_at.ok0 ZO (fun vs H Q E h=>?_) (fun cdv A outer s H vs Q E hr h=>?_)
 ·obtain ⟨a,ns,k,rfl,_⟩:=h;rfl
 obtain ⟨a,ns,k,rfl,hS,hl,q⟩:=h
 exact ⟨vb K t,(zh (zO (zt jS (pv 1) (yf wk rfl T.b_len jB (za (pv 0) ze)) (zC _)) (zg (zy (zL z0 (pv 0) (pv 1) (fun _ _=>rfl))))
   zJ)
  (zg (zy (zd (i:=0))))),Zx hS hl q⟩
theorem kM (T:Txt K mg t):FnOk P w K mg base (CX1 P w) 1 t.a__law_closed t.d__law_closed ["frames"] (xx):=by
 refine T.f__law_closed.ok0 sc__law_closed (fun vs H Q E h=>?_) (fun cdv A outer s H vs Q E hr h=>?_)
 ·obtain ⟨FR,H0,g,h,gs,fs,sp,rfl,_⟩:=h;rfl
 obtain ⟨FR,H0,g,h,gs,fs,sp,rfl,h1,h2,q⟩:=h
 exact ⟨vy K t,(zh (zI (i:=1) sc__law_closed.nd rfl (Or.inl rfl) (Zl F.plainAttrs_list F.slot_list_pop F.type_list_pop Zm (pv 0)))
  (zg (zO (zt We (zL z0 (pv 1) (zd (i:=1)) (fun _ _=>rfl)) j9 (zC _)) (zg (yU (jg F.plainAttrs_list F.slot_list_append F.type_list_append yr (zL z0 (zL z0 (pv 0) (qO jv (zd (i:=1))) (fun _ _=>rfl)) (zd (i:=2)) (fun _ _=>rfl)) (za (zZ (za (zw (x:="if")) (za (zL z0 (pv 1) (zd (i:=0)) (fun _ _=>rfl)) (za (zL z0 (pv 1) (zd (i:=2)) (fun _ _=>rfl)) (za (wm ze) ze))))) ze))))
    (zg (yU (jg F.plainAttrs_list F.slot_list_append F.type_list_append yr (zL z0 (zL z0 (pv 0) (qO jv (zd (i:=1))) (fun _ _=>rfl)) (zd (i:=2)) (fun _ _=>rfl)) (za (zZ (za (zw (x:="if")) (za (zL z0 (pv 1) (zd (i:=0)) (fun _ _=>rfl)) (za (zL z0 (pv 1) (zd (i:=1)) (fun _ _=>rfl)) (za (zL z0 (pv 1) (zd (i:=2)) (fun _ _=>rfl)) ze))))) ze))))))),ZQ h1 h2 q⟩
theorem vh (T:Txt K mg t):FnOk P w K mg base (CX1 P w) 3 t.a__law_part t.d__law_part ["cell","j","slots"] (xc):=by
 refine T.f__law_part.ok0 WH (fun vs H Q E h=>?_) (fun cdv A outer s H vs Q E hr h=>?_)
 ·obtain ⟨c,j,a,ws,rfl,_⟩:=h;rfl
 obtain ⟨c,j,a,ws,rfl,h1,h2,h3,h4,q⟩:=h
 exact ⟨jI K t,(zh (zO (zt yp (zv yh (zr (FnOk.mono (zF T) (by decide)) hr rfl T.m__law_draw T.f__law_draw.kp T.b__law_draw .nil zB (za (pv 0) (za (zv ya (pv 1) (zd (i:=5))) ze))) (zd (i:=2))) (zd (i:=0)) (zC _)) (zg (zy (zL z0 (pv 2) (zv yh (zr (FnOk.mono (zF T) (by decide)) hr rfl T.m__law_draw T.f__law_draw.kp T.b__law_draw .nil zB (za (pv 0) (za (zv ya (pv 1) (zd (i:=6))) ze))) (yf wk rfl T.b_len jB (za (pv 2) ze))) (fun _ _=>rfl))))
   zJ)
  (zg (zy (zr (FnOk.mono (vJ T) (by decide)) hr rfl T.m__law_number T.f__law_number.kp T.b__law_number .nil zB (za (pv 0) (za (pv 1) ze)))))),Xn h1 h2 h3 h4 q⟩
theorem wx (T:Txt K mg t):FnOk P w K mg base (CX1 P w) 2 t.a__law_word t.d__law_word ["cell","j"] (xg):=by
 refine T.f__law_word.ok0 sc__law_word (fun vs H Q E h=>?_) (fun cdv A outer s H vs Q E hr h=>?_)
 ·obtain ⟨c,j,rfl,_⟩:=h;rfl
 obtain ⟨c,j,rfl,h1,h2,q⟩:=h
 exact ⟨jJ K t,(zh (zI (i:=2) sc__law_word.nd rfl (Or.inl rfl) (wm (jD (x:="plus") (jD (x:="minus") (jD (x:="times") (jD (x:="over") (jD (x:="rest") (jD (x:="under") (jD (x:="same") (jD (x:="plus") (jD (x:="minus") ze)))))))))))
  (zg (zy (zL z0 (pv 2) (zv yh (zr (FnOk.mono (zF T) (by decide)) hr rfl T.m__law_draw T.f__law_draw.kp T.b__law_draw .nil zB (za (pv 0) (za (pv 1) ze))) (zd (i:=9))) (fun _ _=>rfl))))),Xo h1 h2 q⟩
theorem wy (T:Txt K mg t):FnOk P w K mg base (CX1 P w) 4 t.a__law_term t.d__law_term ["cell","j","slots"] (yw):=by
 refine T.f__law_term.ok0 sc__law_term (fun vs H Q E h=>?_) (fun cdv A outer s H vs Q E hr h=>?_)
 ·obtain ⟨c,j,a,ws,rfl,_⟩:=h;rfl
 obtain ⟨c,j,a,ws,rfl,h1,h2,h3,h4,q⟩:=h
 exact ⟨jK K t,(zh (zI (i:=3) sc__law_term.nd rfl (Or.inl rfl) (zv yh (zr (FnOk.mono (zF T) (by decide)) hr rfl T.m__law_draw T.f__law_draw.kp T.b__law_draw .nil zB (za (pv 0) (za (pv 1) ze))) (zd (i:=16))))
  (zh (zI (i:=4) sc__law_term.nd rfl (Or.inl rfl) (zr (FnOk.mono (vh T) (by decide)) hr rfl T.m__law_part T.f__law_part.kp T.b__law_part .nil zB (za (pv 0) (za (zv ya (pv 1) (zd (i:=1))) (za (pv 2) ze)))))
  (zh (zI (i:=5) sc__law_term.nd rfl (Or.inl rfl) (zr (FnOk.mono (vh T) (by decide)) hr rfl T.m__law_part T.f__law_part.kp T.b__law_part .nil zB (za (pv 0) (za (zv ya (pv 1) (zd (i:=10))) (za (pv 2) ze)))))
  (zh (zI (i:=6) sc__law_term.nd rfl (Or.inl rfl) (zr (FnOk.mono (vh T) (by decide)) hr rfl T.m__law_part T.f__law_part.kp T.b__law_part .nil zB (za (pv 0) (za (zv ya (pv 1) (zd (i:=20))) (za (pv 2) ze)))))
  (zh (zO (zt jS (pv 3) (zd (i:=6)) (zC _)) (zg (zy (zZ (za (pv 4) ze))))
    zJ)
  (zh (zO (zt jS (pv 3) (zd (i:=10)) (zC _)) (zg (zy (zZ (za (pv 4) (za (pv 5) (za (zr (FnOk.mono (wx T) (by decide)) hr rfl T.m__law_word T.f__law_word.kp T.b__law_word .nil zB (za (pv 0) (za (zv ya (pv 1) (zd (i:=2))) ze))) ze))))))
    zJ)
  (zh (zO (zt jS (pv 3) (zd (i:=12)) (zC _)) (zg (zy (zZ (za (pv 4) (za (pv 5) (za (zr (FnOk.mono (wx T) (by decide)) hr rfl T.m__law_word T.f__law_word.kp T.b__law_word .nil zB (za (pv 0) (za (zv ya (pv 1) (zd (i:=2))) ze))) (za (pv 6) (za (zr (FnOk.mono (wx T) (by decide)) hr rfl T.m__law_word T.f__law_word.kp T.b__law_word .nil zB (za (pv 0) (za (zv ya (pv 1) (zd (i:=3))) ze))) ze))))))))
    zJ)
  (zh (zO (zt jS (pv 3) (zd (i:=15)) (zC _)) (zg (zy (zZ (za (pv 4) (za (pv 5) (za (pv 6) (za (zr (FnOk.mono (wx T) (by decide)) hr rfl T.m__law_word T.f__law_word.kp T.b__law_word .nil zB (za (pv 0) (za (zv ya (pv 1) (zd (i:=2))) ze))) (za (zr (FnOk.mono (wx T) (by decide)) hr rfl T.m__law_word T.f__law_word.kp T.b__law_word .nil zB (za (pv 0) (za (zv ya (pv 1) (zd (i:=3))) ze))) ze))))))))
    zJ)
  (zh (zI (i:=7) sc__law_term.nd rfl (Or.inl rfl) (zZ (za (pv 4) ze)))
  (zh (vm PassesOwn.never rfl (jd rfl T.b_range (za (zv yh (zr (FnOk.mono (zF T) (by decide)) hr rfl T.m__law_draw T.f__law_draw.kp T.b__law_draw .nil zB (za (pv 0) (za (zv ya (pv 1) (zd (i:=4))) ze))) (zd (i:=13))) ze)) (yV (i:=8) sc__law_term.nd rfl (Or.inl rfl)) (zh (zI (i:=9) sc__law_term.nd rfl (Or.inl rfl) (zL z0 (wm (za (zw (x:="plus")) (za (zw (x:="minus")) (za (zw (x:="under")) ze)))) (zv yh (zr (FnOk.mono (zF T) (by decide)) hr rfl T.m__law_draw T.f__law_draw.kp T.b__law_draw .nil zB (za (pv 0) (za (zv ya (zv ya (pv 1) (zd (i:=30))) (pv 8)) ze))) (zd (i:=3))) (fun _ _=>rfl)))
  (zg (zI (i:=7) sc__law_term.nd rfl (Or.inl rfl) (zv zaP (pv 7) (zZ (za (zr (FnOk.mono (vh T) (by decide)) hr rfl T.m__law_part T.f__law_part.kp T.b__law_part .nil zB (za (pv 0) (za (zv ya (pv 1) (pv 8)) (za (pv 2) ze)))) (za (pv 9) ze))))))))
  (zg (zy (pv 7))))))))))))),Xp h1 h2 h3 h4 q⟩
theorem Zj (T:Txt K mg t):FnOk P w K mg base (CX1 P w) 5 t.a__law_spot t.d__law_spot ["cell","j","slots"] (vg):=by
 refine T.f__law_spot.ok0 WI (fun vs H Q E h=>?_) (fun cdv A outer s H vs Q E hr h=>?_)
 ·obtain ⟨c,j,a,ws,rfl,_⟩:=h;rfl
 obtain ⟨c,j,a,ws,rfl,h1,h2,h3,h4,q⟩:=h
 exact ⟨jL K t,(zh (zO (zt yp (zv yh (zr (FnOk.mono (zF T) (by decide)) hr rfl T.m__law_draw T.f__law_draw.kp T.b__law_draw .nil zB (za (pv 0) (za (pv 1) ze))) (zd (i:=4))) (zd (i:=0)) (zC _)) (zg (zy (zr (FnOk.mono (wy T) (by decide)) hr rfl T.m__law_term T.f__law_term.kp T.b__law_term .nil zB (za (pv 0) (za (zv ya (pv 1) (zd (i:=1))) (za (pv 2) ze))))))
   zJ)
  (zg (zy (zZ (za (zv ju (zv yh (zr (FnOk.mono (zF T) (by decide)) hr rfl T.m__law_draw T.f__law_draw.kp T.b__law_draw .nil zB (za (pv 0) (za (zv ya (pv 1) (zd (i:=2))) ze))) (zd (i:=4))) (zd (i:=1))) ze))))),Xq h1 h2 h3 h4 q⟩
theorem V9 (T:Txt K mg t):FnOk P w K mg base (CX1 P w) 6 t.a__law_row t.d__law_row ["cell","slots","shelves"] (ky):=by
 refine T.f__law_row.ok0 sc__law_row (fun vs H Q E h=>?_) (fun cdv A outer s H vs Q E hr h=>?_)
 ·obtain ⟨c,a,b,ws,us,rfl,_⟩:=h;rfl
 obtain ⟨c,a,b,ws,us,rfl,h1,h2,h3,h4,q⟩:=h
 exact ⟨kA K t,(zh (zI (i:=3) sc__law_row.nd rfl (Or.inl rfl) (zv yh (zr (FnOk.mono (zF T) (by decide)) hr rfl T.m__law_draw T.f__law_draw.kp T.b__law_draw .nil zB (za (pv 0) (za (zd (i:=0)) ze))) (zd (i:=16))))
  (zh (zI (i:=4) sc__law_row.nd rfl (Or.inl rfl) (zL z0 (pv 2) (zv yh (zr (FnOk.mono (zF T) (by decide)) hr rfl T.m__law_draw T.f__law_draw.kp T.b__law_draw .nil zB (za (pv 0) (za (zd (i:=160)) ze))) (zd (i:=3))) (fun _ _=>rfl)))
  (zh (zI (i:=5) sc__law_row.nd rfl (Or.inl rfl) (zL z0 (pv 1) (zv yh (zr (FnOk.mono (zF T) (by decide)) hr rfl T.m__law_draw T.f__law_draw.kp T.b__law_draw .nil zB (za (pv 0) (za (zd (i:=161)) ze))) (zd (i:=4))) (fun _ _=>rfl)))
  (zh (zO (zt jS (pv 3) (zd (i:=4)) (zC _)) (zg (zy (zZ (za (zw (x:="take")) (za (pv 4) (za (zr (FnOk.mono (Zj T) (by decide)) hr rfl T.m__law_spot T.f__law_spot.kp T.b__law_spot .nil zB (za (pv 0) (za (zd (i:=20)) (za (pv 1) ze)))) (za (pv 5) ze)))))))
    zJ)
  (zh (zO (zt jS (pv 3) (zd (i:=8)) (zC _)) (zg (zy (zZ (za (zw (x:="give")) (za (pv 4) (za (zr (FnOk.mono (Zj T) (by decide)) hr rfl T.m__law_spot T.f__law_spot.kp T.b__law_spot .nil zB (za (pv 0) (za (zd (i:=20)) (za (pv 1) ze)))) (za (zr (FnOk.mono (wy T) (by decide)) hr rfl T.m__law_term T.f__law_term.kp T.b__law_term .nil zB (za (pv 0) (za (zd (i:=80)) (za (pv 1) ze)))) ze)))))))
    zJ)
  (zh (zO (zt jS (pv 3) (zd (i:=10)) (zC _)) (zg (zy (zZ (za (zw (x:="let")) (za (pv 5) (za (zr (FnOk.mono (wy T) (by decide)) hr rfl T.m__law_term T.f__law_term.kp T.b__law_term .nil zB (za (pv 0) (za (zd (i:=80)) (za (pv 1) ze)))) ze))))))
    zJ)
  (zh (zO (zt yp (pv 3) (zd (i:=10)) (zC _)) (zg (zy (zZ (za (zw (x:="off")) (za (zZ (za (zL z0 (pv 1) (zv yh (zr (FnOk.mono (zF T) (by decide)) hr rfl T.m__law_draw T.f__law_draw.kp T.b__law_draw .nil zB (za (pv 0) (za (zd (i:=162)) ze))) (zd (i:=4))) (fun _ _=>rfl)) (za (zr (FnOk.mono (vJ T) (by decide)) hr rfl T.m__law_number T.f__law_number.kp T.b__law_number .nil zB (za (pv 0) (za (zd (i:=81)) ze))) (za (zw (x:="same")) ze)))) ze)))))
    zJ)
  (zg (zy (zZ (za (zw (x:="say")) (za (zr (FnOk.mono (wy T) (by decide)) hr rfl T.m__law_term T.f__law_term.kp T.b__law_term .nil zB (za (pv 0) (za (zd (i:=80)) (za (pv 1) ze)))) ze)))))))))))),WP h1 h2 h3 h4 q⟩
theorem WV (T:Txt K mg t):FnOk P w K mg base (CX1 P w) 7 t.a__law_rows t.d__law_rows ["cells","slots","shelves"] (jG):=by
 refine T.f__law_rows.ok0 sc__law_rows (fun vs H Q E h=>?_) (fun cdv A outer s H vs Q E hr h=>?_)
 ·obtain ⟨p,ns,a,b,ws,us,rfl,_⟩:=h;rfl
 obtain ⟨p,ns,a,b,ws,us,rfl,h1,h2,h3,h4,h5,h6,q⟩:=h
 exact ⟨jM K t,(zh (zI (i:=3) sc__law_rows.nd rfl (Or.inl rfl) (wm (za (wm (za j9 (za j9 (za (wm ze) ze)))) ze)))
  (zh (vm PassesOwn.never rfl (qN (pv 0)) (yV (i:=4) sc__law_rows.nd rfl (Or.inl rfl)) (zh (zI (i:=5) sc__law_rows.nd rfl (Or.inl rfl) (zv yh (zr (FnOk.mono (zF T) (by decide)) hr rfl T.m__law_draw T.f__law_draw.kp T.b__law_draw .nil zB (za (pv 4) (za (zd (i:=0)) ze))) (zd (i:=16))))
  (zg (zO (PW.pt (Yc (zt jf (pv 5) (zZ (za (zd (i:=12)) (za (zd (i:=13)) ze))) (by with_unfolding_all rfl)) (ZV (zt jS (yf wk rfl T.b_len jB (za (pv 3) ze)) (zd (i:=6)) (zC _))))) (zg (yU (jg F.plainAttrs_list F.slot_list_append F.type_list_append yr (pv 3) (za (wm (za (zr (FnOk.mono (wy T) (by decide)) hr rfl T.m__law_term T.f__law_term.kp T.b__law_term .nil zB (za (pv 4) (za (zd (i:=80)) (za (pv 1) ze)))) (za j9 (za (wm ze) ze)))) ze))))
    (zg (zO (PW.pt (Yc (zt yp (pv 5) (zd (i:=14)) (zC _)) (Yc (zt JU (yf wk rfl T.b_len jB (za (pv 3) ze)) (zd (i:=1)) (zC _)) (ZV (zt We (zL z0 (zL z0 (pv 3) (qO jv (zd (i:=1))) (fun _ _=>rfl)) (zd (i:=1)) (fun _ _=>rfl)) j9 (zC _)))))) (zh (Kv (zL z0 (pv 3) (qO jv (zd (i:=1))) (fun _ _=>rfl)) (zd (i:=1)) (zL z0 (zL z0 (pv 3) (qO jv (zd (i:=1))) (fun _ _=>rfl)) (zd (i:=2)) (fun _ _=>rfl)) rfl)
  (zg (Kv (zL z0 (pv 3) (qO jv (zd (i:=1))) (fun _ _=>rfl)) (zd (i:=2)) (wm ze) rfl)))
   (zg (zO (PW.pt (Yc (zt yp (pv 5) (zd (i:=15)) (zC _)) (ZV (zt JU (yf wk rfl T.b_len jB (za (pv 3) ze)) (zd (i:=1)) (zC _))))) (zg (yU (zr (FnOk.mono (kM T) (by decide)) hr rfl T.m__law_closed T.f__law_closed.kp T.b__law_closed .nil zB (za (pv 3) ze))))
   (zg (yU (jg F.plainAttrs_list F.slot_list_append F.type_list_append yr (zL z0 (zL z0 (pv 3) (qO jv (zd (i:=1))) (fun _ _=>rfl)) (zd (i:=2)) (fun _ _=>rfl)) (za (zr (FnOk.mono (V9 T) (by decide)) hr rfl T.m__law_row T.f__law_row.kp T.b__law_row .nil zB (za (pv 4) (za (pv 1) (za (pv 2) ze)))) ze))))))))))))
  (zh (Qp PassesOwn.never (zt JU (yf wk rfl T.b_len jB (za (pv 3) ze)) (zd (i:=1)) (zC _)) (zg (yU (zr (FnOk.mono (kM T) (by decide)) hr rfl T.m__law_closed T.f__law_closed.kp T.b__law_closed .nil zB (za (pv 3) ze)))))
  (zg (zy (zL z0 (zL z0 (pv 3) (zd (i:=0)) (fun _ _=>rfl)) (zd (i:=2)) (fun _ _=>rfl))))))),Xr h1 h2 h3 h4 h5 h6 q⟩
theorem Ja (T:Txt K mg t):FnOk P w K mg base (CX1 P w) 1 t.a__law_two t.d__law_two ["one","other","word"] (kz):=by
 refine T.f__law_two.ok0 sc__law_two (fun vs H Q E h=>?_) (fun cdv A outer s H vs Q E hr h=>?_)
 ·obtain ⟨a,b,w,rfl,_⟩:=h;rfl
 obtain ⟨a,b,w,rfl,h1,h2,h3,q⟩:=h
 exact ⟨kD K t,(zh (zO (PW.pt (Yc (zt jf (pv 2) (zZ (za (zw (x:="over")) (za (zw (x:="rest")) ze))) (by with_unfolding_all rfl)) (ZV (zt yp (pv 1) (zd (i:=0)) (zC _))))) (zg (zy (zw (x:="nought"))))
   zJ)
  (zh (zO (zt yp (pv 2) (zw (x:="over")) (zC _)) (zg (zy (zv Yz (pv 0) (pv 1))))
    zJ)
  (zh (zO (zt yp (pv 2) (zw (x:="rest")) (zC _)) (zg (zy (zv ju (pv 0) (zv xJ (zv Yz (pv 0) (pv 1)) (pv 1)))))
    zJ)
  (zh (zO (zt yp (pv 2) (zw (x:="under")) (zC _)) (zg (zy (yG vS rfl T.b_int qt (za (kO jS (pv 0) (pv 1) (zC _)) ze))))
    zJ)
  (zh (zO (zt yp (pv 2) (zw (x:="same")) (zC _)) (zg (zy (yG vS rfl T.b_int qt (za (kO yp (pv 0) (pv 1) (zC _)) ze))))
    zJ)
  (zh (zI (i:=3) sc__law_two.nd rfl (Or.inl rfl) (zv xJ (pv 0) (pv 1)))
  (zh (zO (zt yp (pv 2) (zw (x:="plus")) (zC _)) (zg (zI (i:=3) sc__law_two.nd rfl (Or.inl rfl) (zv ya (pv 0) (pv 1))))
    zJ)
  (zh (zO (zt yp (pv 2) (zw (x:="minus")) (zC _)) (zg (zI (i:=3) sc__law_two.nd rfl (Or.inl rfl) (zv ju (pv 0) (pv 1))))
    zJ)
  (zh (zO (PW.pt (JP (zt JU (pv 3) (zv qp (zd (i:=10)) (zd (i:=30))) (zC _)) (Wd (zt jS (pv 3) (qO jv (zv qp (zd (i:=10)) (zd (i:=30)))) (zC _))))) (zg (zy (zw (x:="great"))))
    zJ)
  (zg (zy (pv 3)))))))))))),WS h1 h2 h3 q⟩
theorem qo (T:Txt K mg t):FnOk P w K mg base (CX1 P w) 2 t.a__law_worth t.d__law_worth ["term","state"] (xI):=by
 refine T.f__law_worth.ok0 sc__law_worth (fun vs H Q E h=>?_) (fun cdv A outer s H vs Q E hr h=>?_)
 ·obtain ⟨tm,d,sl,wo,sa,e,s,w,rfl,_⟩:=h;rfl
 obtain ⟨tm,d,sl,wo,sa,e,s,w,rfl,h1,h2,h3,h4,q1,q2⟩:=h
 exact ⟨v6 K t,(zh (zI (i:=2) sc__law_worth.nd rfl (Or.inl rfl) (wm ze))
  (zh (vm PassesOwn.never rfl (Qq (pv 0)) (yV (i:=3) sc__law_worth.nd rfl (Or.inl rfl)) (zg (zO (zt jf (pv 3) (zZ (za (zw (x:="plus")) (za (zw (x:="minus")) (za (zw (x:="times")) (za (zw (x:="over")) (za (zw (x:="rest")) (za (zw (x:="under")) (za (zw (x:="same")) ze)))))))) (by with_unfolding_all rfl)) (zh (zI (i:=4) sc__law_worth.nd rfl (Or.inl rfl) (Zl F.plainAttrs_list F.slot_list_pop F.type_list_pop Zm (pv 2)))
  (zh (zI (i:=5) sc__law_worth.nd rfl (Or.inl rfl) (zr (FnOk.mono (Ja T) (by decide)) hr rfl T.m__law_two T.f__law_two.kp T.b__law_two .nil zB (za (Zl F.plainAttrs_list F.slot_list_pop F.type_list_pop Zm (pv 2)) (za (pv 4) (za (pv 3) ze)))))
  (zh (zO (xL (yf ji rfl T.b_isinstance yx (za (pv 5) (za (wO rfl T.b_str Jr rfl) ze)))) (zh (vQ (xw hr) (pv 1) (zw (x:="why")) (pv 5) rfl)
  (zg (zy j9)))
   zJ)
  (zg (yU (jg F.plainAttrs_list F.slot_list_append F.type_list_append yr (pv 2) (za (pv 5) ze)))))))
   (zg (zO (xL (yf ji rfl T.b_isinstance yx (za (pv 3) (za (wO rfl T.b_int qt rfl) ze)))) (zg (yU (jg F.plainAttrs_list F.slot_list_append F.type_list_append yr (pv 2) (za (pv 3) ze))))
   (zg (yU (jg F.plainAttrs_list F.slot_list_append F.type_list_append yr (pv 2) (za (qU (xw hr) (wn (xw hr) (pv 1) (zw (x:="slots")) (fun _ _=>rfl)) (pv 3) (zd (i:=0)) ⟨rfl,rfl,rfl,rfl⟩) ze)))))))))
  (zg (zy (zL z0 (pv 2) (zd (i:=0)) (fun _ _=>rfl)))))),Y9 (kf K) h1 h2 h3 h4 q1 q2⟩
theorem Jb (T:Txt K mg t) (n:Nat) (IH:FnOk P w K mg base (CX1 P w) (4 + 2 * n) t.a__law_through t.d__law_through ["rows","state"] (yu n)):FnOk P w K mg base (CX1 P w) (4 + 2 * n + 1) t.a__law_one t.d__law_one ["row","state"] (vV n):=by
 refine T.f__law_one.ok0 sc__law_one (k:=4 + 2 * n) (fun vs H Q E h=>?_) (fun cdv A outer s H vs Q E hr h=>?_)
 ·obtain ⟨v,d,sl,wo,sa,r,m,s,rfl,_⟩:=h;rfl
 obtain ⟨v,d,sl,wo,sa,r,m,s,rfl,h1,h2,h3,h4,h5,h6,h7,q⟩:=h
 exact ⟨kE K t n,(zh (zI (i:=2) sc__law_one.nd rfl (Or.inl rfl) (zr (FnOk.mono (qo T) (by lia)) hr rfl T.m__law_worth T.f__law_worth.kp T.b__law_worth .nil zB (za (zL z6 (pv 0) (zv ya (zd (i:=1)) (yG vS rfl T.b_int qt (za (kO jf (zL z6 (pv 0) (zd (i:=0)) (fun _ _=>rfl)) (zZ (za (zw (x:="take")) (za (zw (x:="give")) (za (zw (x:="let")) ze)))) (by with_unfolding_all rfl)) ze))) (fun _ _=>rfl)) (za (pv 1) ze))))
  (zh (zO (zt We (pv 2) j9 (zC _)) (zg (zy (vO (b:=false))))
    zJ)
  (zh (zO (zt yp (zL z6 (pv 0) (zd (i:=0)) (fun _ _=>rfl)) (zw (x:="take")) (zC _)) (zg (vQ (xw hr) (wn (xw hr) (pv 1) (zw (x:="slots")) (fun _ _=>rfl)) (zL z6 (pv 0) (zd (i:=3)) (fun _ _=>rfl)) (qU (xw hr) (wn (xw hr) (pv 1) (zw (x:="now")) (fun _ _=>rfl)) (zZ (za (zL z6 (pv 0) (zd (i:=1)) (fun _ _=>rfl)) (za (pv 2) ze))) (zd (i:=0)) ⟨rfl,rfl,rfl,rfl⟩) rfl))
    (zg (zO (zt yp (zL z6 (pv 0) (zd (i:=0)) (fun _ _=>rfl)) (zw (x:="give")) (zC _)) (zh (zI (i:=3) sc__law_one.nd rfl (Or.inl rfl) (zr (FnOk.mono (qo T) (by lia)) hr rfl T.m__law_worth T.f__law_worth.kp T.b__law_worth .nil zB (za (zL z6 (pv 0) (zd (i:=3)) (fun _ _=>rfl)) (za (pv 1) ze))))
  (zh (zO (zt We (pv 3) j9 (zC _)) (zg (zy (vO (b:=false))))
    zJ)
  (zg (vQ (xw hr) (wn (xw hr) (pv 1) (zw (x:="now")) (fun _ _=>rfl)) (zZ (za (zL z6 (pv 0) (zd (i:=1)) (fun _ _=>rfl)) (za (pv 2) ze))) (pv 3) rfl))))
   (zg (zO (zt yp (zL z6 (pv 0) (zd (i:=0)) (fun _ _=>rfl)) (zw (x:="let")) (zC _)) (zg (vQ (xw hr) (wn (xw hr) (pv 1) (zw (x:="slots")) (fun _ _=>rfl)) (zL z6 (pv 0) (zd (i:=1)) (fun _ _=>rfl)) (pv 2) rfl))
   (zg (zO (zt yp (zL z6 (pv 0) (zd (i:=0)) (fun _ _=>rfl)) (zw (x:="say")) (zC _)) (zg (yU (jg F.plainAttrs_list F.slot_list_append F.type_list_append yr (wn (xw hr) (pv 1) (zw (x:="said")) (fun _ _=>rfl)) (za (pv 2) ze))))
   (zg (zO (zt yp (zL z6 (pv 0) (zd (i:=0)) (fun _ _=>rfl)) (zw (x:="off")) (zC _)) (zg (zy (kO yp (pv 2) (zd (i:=0)) (zC _))))
   (zg (zy (zr (FnOk.mono IH (by lia)) hr rfl T.m__law_through T.f__law_through.kp T.b__law_through .nil zB (za (zL z6 (pv 0) (zv ju (zd (i:=3)) (yG vS rfl T.b_int qt (za (kO XA (pv 2) (zd (i:=0)) (zC _)) ze))) (fun _ _=>rfl)) (za (pv 1) ze))))))))))))))
  (zg (zy (vO (b:=true))))))),WU h1 h2 h3 h4 h5 h6 h7 q⟩
theorem ZT (T:Txt K mg t):∀ n,FnOk P w K mg base (CX1 P w) (4 + 2 * n) t.a__law_through t.d__law_through ["rows","state"] (yu n):=by
 intro n
 induction n with
 | zero=>exact ⟨fun vs H Q E h=>(jq h).elim,fun A outer s H args us vs Q E hr he hb hv h=>(jq h).elim⟩
 | succ n IH =>
 refine T.f__law_through.ok0 sc__law_through (k:=4 + 2 * n + 1) (fun vs H Q E h=>?_) (fun cdv A outer s H vs Q E hr h=>?_)
 ·obtain ⟨l,vs,d,sl,wo,sa,r,m,s,rfl,_⟩:=h;rfl
 obtain ⟨l,vs,d,sl,wo,sa,r,m,s,rfl,h1,h2,h3,h4,h5,h6,h7,h8,h9,q⟩:=h
 exact ⟨vc K t n,(zh (vm PassesOwn.never rfl (qN (pv 0)) (yV (i:=2) sc__law_through.nd rfl (Or.inl rfl)) (zg (zO (ka (xL (zr (FnOk.mono (Jb T n IH) (by lia)) hr rfl T.m__law_one T.f__law_one.kp T.b__law_one .nil zB (za (pv 2) (za (pv 1) ze))))) (zg (zy (vO (b:=false))))
   zJ)))
  (zg (zy (vO (b:=true))))),ZA h1 h2 h3 h4 h5 h6 h7 h8 h9 q⟩
theorem Xb (T:Txt K mg t):FnOk P w K mg base (CX1 P w) 17 t.a__law_walked t.d__law_walked ["rows","table"] (vt):=by
 refine T.f__law_walked.ok0 sc__law_walked (fun vs H Q E h=>?_) (fun cdv A outer s H vs Q E hr h=>?_)
 ·obtain ⟨v,tl,r,tab,rfl,_⟩:=h;rfl
 obtain ⟨v,tl,r,tab,rfl,h1,h2,h3,h4,q⟩:=h
 refine ⟨vH K t,(zh (zI (i:=2) sc__law_walked.nd rfl (Or.inl rfl) ?d)
  (zh (zO (ka (xL (zr (FnOk.mono (ZT T 6) (by decide)) hr rfl T.m__law_through T.f__law_through.kp T.b__law_through .nil zB (za (pv 0) (za (pv 2) ze))))) (zg (zy (zZ (za (zZ (za (zw (x:="off")) (za (wn (xw hr) (pv 2) (zw (x:="why")) (fun _ _=>rfl)) ze))) (za (pv 1) ze)))))
    zJ)
  (zh (zcb (Jq (j:=3) sc__law_walked.nd rfl rfl (Or.inl rfl) (osc:=zj yO) (N:=["rows","table","state","behind"]) (xs:=["place","worth"]) (ix:=[]) (by decide +kernel) (zap (wn (xw hr) (pv 2) (zw (x:="now")) (fun _ _=>rfl))) (fun _ _ _ _=>(zb2 rfl (WZ (yV (i:=0) (show List.Nodup (["place","worth"]:List Str) from (by decide +kernel)) rfl (Or.inl rfl)) (WZ (yV (i:=1) (show List.Nodup (["place","worth"]:List Str) from (by decide +kernel)) rfl (Or.inl rfl)) zaJ)))) (fun _ _ _ _=>(J1 (zt XA (pv 1) (zd (i:=0)) (zC _)))) (fun _ _ _ _=>(zZ (za (pv 0) (za (pv 1) ze))))))
  (zg (zy (zZ (za (zZ (za (zw (x:="done")) (za (yG qf rfl T.b_tuple Yt (za (wn (xw hr) (pv 2) (zw (x:="said")) (fun _ _=>rfl)) ze)) ze))) (za (yf (WG rfl (hu3 hr)) rfl T.b_sorted Zq (za (pv 3) ze)) ze)))))))),ZR h1 h2 h3 h4 q⟩
 refine zaV ?_ ?_ ?_ ?_ ?_
 ·refine qT (zw (x:="slots")) ?_ ?_
  ·exact Ve
  refine qT (zw (x:="now")) ?_ ?_
  ·exact (yG (wY rfl (hu3 hr)) rfl T.b_dict Wp (za (pv 1) ze))
  refine qT (zw (x:="said")) ?_ ?_
  ·exact (wm ze)
  refine qT (zw (x:="why")) ?_ ?_
  ·exact zw (x:="told")
  exact zaU
 ·rfl
 ·rfl
 ·exact List.cons_ne_nil _ _
 ·decide
theorem Xc (T:Txt K mg t):∀ n,FnOk P w K mg base (CX1 P w) (1 + n) t.a__law_copied t.d__law_copied ["rows"] (yd n):=by
 intro n
 induction n with
 | zero=>exact ⟨fun vs H Q E h=>(j7 h).elim,fun A outer s H args us vs Q E hr he hb hv h=>(j7 h).elim⟩
 | succ n IH =>
 refine T.f__law_copied.ok0 sc__law_copied (k:=1 + n) (fun vs H Q E h=>?_) (fun cdv A outer s H vs Q E hr h=>?_)
 ·obtain ⟨B,v,rws,rfl,_⟩:=h;rfl
 obtain ⟨B,v,rws,rfl,h1,h2,h3,h4,q⟩:=h
 exact ⟨vI K t n,(zh (zI (i:=1) sc__law_copied.nd rfl (Or.inl rfl) (wm ze))
  (zh (vm PassesOwn.never rfl (qN (pv 0)) (yV (i:=2) sc__law_copied.nd rfl (Or.inl rfl)) (zg (zO (zt yp (zL z6 (pv 2) (zd (i:=0)) (fun _ _=>rfl)) (zw (x:="if")) (zC _)) (zg (yU (jg F.plainAttrs_list F.slot_list_append F.type_list_append yr (pv 1) (za (zZ (za (zw (x:="if")) (za (zL z6 (pv 2) (zd (i:=1)) (fun _ _=>rfl)) (za (zr (FnOk.mono IH (by lia)) hr rfl T.m__law_copied T.f__law_copied.kp T.b__law_copied .nil zB (za (zL z6 (pv 2) (zd (i:=2)) (fun _ _=>rfl)) ze)) (za (zr (FnOk.mono IH (by lia)) hr rfl T.m__law_copied T.f__law_copied.kp T.b__law_copied .nil zB (za (zL z6 (pv 2) (zd (i:=3)) (fun _ _=>rfl)) ze)) ze))))) ze))))
    (zg (yU (jg F.plainAttrs_list F.slot_list_append F.type_list_append yr (pv 1) (za (pv 2) ze)))))))
  (zg (zy (pv 1))))),ZS h1 h2 h3 h4 q⟩
theorem Xt (T:Txt K mg t):FnOk P w K mg base (CX1 P w) 1 t.a_Doing_init t.d_Doing_init ["self","table"] (vX t):=by
 refine T.f_Doing_init.ok0 Xh (fun vs H Q E h=>?_) (fun cdv A outer s H vs Q E hr h=>?_)
 ·obtain ⟨x,a,tab,H0,dx,rfl,_⟩:=h;rfl
 obtain ⟨x,a,tab,H0,dx,rfl,h1,h2,h3,h4,h5,q⟩:=h
 exact ⟨v9 K t,(zh (Jk (f:="slots") (pv 0) Ve rfl)
  (zh (Jk (f:="worths") (pv 0) (yG (wY rfl (hu3 hr)) rfl T.b_dict Wp (za (pv 1) ze)) rfl)
  (zg (Jk (f:="sayings") (pv 0) (wm ze) rfl)))),Y0 (doF T) h1 h2 h3 h4 h5 q⟩
theorem JN (T:Txt K mg t):FnOk P w K mg base (CX1 P w) 1 t.a_divided t.d_divided ["word","first","second"] (qC t):=by
 refine T.f_divided.ok1 JC (fun vs H Q E h=>?_) (fun cdv A outer s H vs Q E hr h=>?_)
 ·obtain ⟨w,a,b,rfl,_⟩:=h;rfl
 obtain ⟨w,a,b,rfl,hw,ha,hb,q⟩:=h
 exact ⟨qF K t E,(zh (zO (zt yp (pv 2) (zd (i:=0)) (zC _)) (zg (Vi rfl T.x_Nought J3 rfl T.g_Nought (za (J4 (pv 0)) ze)))
   zJ)
  (zg (zy (kc (zt yp (pv 0) (zw (x:="over")) (zC _)) (zv Yz (pv 1) (pv 2)) (zv zaK (pv 1) (pv 2)))))),VW hw ha hb q⟩
theorem JO (T:Txt K mg t):FnOk P w K mg base (CX1 P w) 2 t.a_come_to t.d_come_to ["word","first","second"] (qD t):=by
 refine T.f_come_to.ok1 JD (fun vs H Q E h=>?_) (fun cdv A outer s H vs Q E hr h=>?_)
 ·obtain ⟨w,a,b,rfl,_⟩:=h;rfl
 obtain ⟨w,a,b,rfl,hw,ha,hb,q⟩:=h
 exact ⟨qG K t E,(zh (zO (zt yp (pv 0) (zw (x:="plus")) (zC _)) (zg (zy (zv ya (pv 1) (pv 2))))
   zJ)
  (zh (zO (zt yp (pv 0) (zw (x:="minus")) (zC _)) (zg (zy (zv ju (pv 1) (pv 2))))
    zJ)
  (zh (zO (zt yp (pv 0) (zw (x:="times")) (zC _)) (zg (zy (zv xJ (pv 1) (pv 2))))
    zJ)
  (zh (zO (zt yp (pv 0) (zw (x:="under")) (zC _)) (zg (zy (kc (zt jS (pv 1) (pv 2) (zC _)) (zd (i:=1)) (zd (i:=0)))))
    zJ)
  (zh (zO (zt yp (pv 0) (zw (x:="same")) (zC _)) (zg (zy (kc (zt yp (pv 1) (pv 2) (zC _)) (zd (i:=1)) (zd (i:=0)))))
    zJ)
  (zg (zy (zr (FnOk.mono (JN T) (by decide)) hr rfl T.m_divided T.f_divided.kp T.b_divided .nil vR (za (pv 0) (za (pv 1) (za (pv 2) ze))))))))))),VX hw ha hb q⟩
theorem Jc (T:Txt K mg t):FnOk P w K mg base (CX1 P w) 1 t.a_is_worth t.d_is_worth ["thing"] (kr):=by
 refine T.f_is_worth.ok0 VP (fun vs H Q E h=>?_) (fun cdv A outer s H vs Q E hr h=>?_)
 ·obtain ⟨i,rfl,_⟩:=h;rfl
 obtain ⟨i,rfl,q⟩:=h
 exact ⟨kF K t,(zh (zO (PW.pt (JP (ka (xL (yf ji rfl T.b_isinstance yx (za (pv 0) (za (wO rfl T.b_int qt rfl) ze))))) (Wd (xL (yf ji rfl T.b_isinstance yx (za (pv 0) (za (wO rfl T.b_bool J2 rfl) ze))))))) (zg (zy (vO (b:=false))))
   zJ)
  (zg (zy (Qt zbF zbF (qO jv (zv qp (zd (i:=10)) (zd (i:=30)))) (pv 0) (zv qp (zd (i:=10)) (zd (i:=30))))))),WJ (kf K).i_b q⟩
theorem Qk (T:Txt K mg t):FnOk P w K mg base (CX1 P w) 3 t.a_joined t.d_joined ["word","first","second"] (wG t):=by
 refine T.f_joined.ok1 sc_joined (fun vs H Q E h=>?_) (fun cdv A outer s H vs Q E hr h=>?_)
 ·obtain ⟨w,a,b,rfl,_⟩:=h;rfl
 obtain ⟨w,a,b,rfl,hw,ha,hb,q⟩:=h
 exact ⟨Zw K t E,(zh (zI (i:=3) sc_joined.nd rfl (Or.inl rfl) (zr (FnOk.mono (JO T) (by decide)) hr rfl T.m_come_to T.f_come_to.kp T.b_come_to .nil vR (za (pv 0) (za (pv 1) (za (pv 2) ze)))))
  (zh (zO (ka (xL (zr (FnOk.mono (Jc T) (by decide)) hr rfl T.m_is_worth T.f_is_worth.kp T.b_is_worth .nil vR (za (pv 3) ze)))) (zg (Vi rfl T.x_Great J3 rfl T.g_Great (za (J4 (pv 0)) ze)))
    zJ)
  (zg (zy (pv 3))))),JG hw ha hb q⟩
theorem Jd (T:Txt K mg t):FnOk P w K mg base (CX1 P w) 4 t.a_reckoned t.d_reckoned ["term","slots"] (kt t):=by
 refine T.f_reckoned.ok1 sc_reckoned (fun vs H Q E h=>?_) (fun cdv A outer s H vs Q E hr h=>?_)
 ·obtain ⟨kvs,tm,sl,ps,r,rfl,_⟩:=h;rfl
 obtain ⟨kvs,tm,sl,ps,r,rfl,h1,h2,h3,h4,h5,h6,q⟩:=h
 exact ⟨kG K t E,(zh (zI (i:=2) sc_reckoned.nd rfl (Or.inl rfl) (wm ze))
  (zh (vm zcJ rfl (Qq (pv 0)) (yV (i:=3) sc_reckoned.nd rfl (Or.inl rfl)) (zg (zO (zt jf (pv 3) (zaI rfl T.g_JOINING rfl) (by with_unfolding_all rfl)) (zh (zI (i:=4) sc_reckoned.nd rfl (Or.inl rfl) (Zl F.plainAttrs_list F.slot_list_pop F.type_list_pop Zm (pv 2)))
  (zh (zI (i:=5) sc_reckoned.nd rfl (Or.inl rfl) (Zl F.plainAttrs_list F.slot_list_pop F.type_list_pop Zm (pv 2)))
  (zg (yU (jg F.plainAttrs_list F.slot_list_append F.type_list_append yr (pv 2) (za (zr (FnOk.mono (Qk T) (by decide)) hr rfl T.m_joined T.f_joined.kp T.b_joined .nil vR (za (pv 3) (za (pv 5) (za (pv 4) ze)))) ze))))))
   (zg (yU (jg F.plainAttrs_list F.slot_list_append F.type_list_append yr (pv 2) (za (kc (xL (yf ji rfl T.b_isinstance yx (za (pv 3) (za (wO rfl T.b_str Jr rfl) ze)))) (qU (xw hr) (pv 1) (pv 3) (zd (i:=0)) ⟨rfl,rfl,rfl,rfl⟩) (pv 3)) ze)))))))
  (zg (zy (Zl F.plainAttrs_list F.slot_list_pop F.type_list_pop Zm (pv 2)))))),WK (kf K).i_s T.v_JOINING h1 h2 h3 h4 h5 h6 q⟩
theorem yj (T:Txt K mg t):FnOk P w K mg base (CX1 P w) 5 t.a_Doing_worth_of t.d_Doing_worth_of ["self","term"] (zH t):=by
 refine T.f_Doing_worth_of.ok1 Ze (fun vs H Q E h=>?_) (fun cdv A outer s H vs Q E hr h=>?_)
 ·obtain ⟨x,tm,e,H0,dx,sl,wo,sa,s0,rfl,_⟩:=h;rfl
 obtain ⟨x,tm,e,H0,dx,sl,wo,sa,s0,rfl,h1,h2,h3,h4,q⟩:=h
 exact ⟨wt K t E,(zg (zy (zr (FnOk.mono (Jd T) (by decide)) hr rfl T.m_reckoned T.f_reckoned.kp T.b_reckoned .nil vR (za (pv 1) (za (kg (f:="slots") (pv 0) rfl) ze))))),qK (doF T) h1 h2 h3 h4 q⟩
theorem Xu (T:Txt K mg t):FnOk P w K mg base (CX1 P w) 6 t.a_Doing_does t.d_Doing_does ["self","row"] (vY t):=by
 refine T.f_Doing_does.ok1 sc_Doing_does (fun vs H Q E h=>?_) (fun cdv A outer s H vs Q E hr h=>?_)
 ·obtain ⟨x,v,r,m,H0,dx,sl,wo,sa,s0,rfl,_⟩:=h;rfl
 obtain ⟨x,v,r,m,H0,dx,sl,wo,sa,s0,rfl,h1,h2,h3,h4,h5,h6,q1,q2⟩:=h
 exact ⟨xr K t E,(zg (zO (zt yp (zL z6 (pv 1) (zd (i:=0)) (fun _ _=>rfl)) (zw (x:="take")) (zC _)) (zg (vQ (xw hr) (kg (f:="slots") (pv 0) rfl) (zL z6 (pv 1) (zd (i:=3)) (fun _ _=>rfl)) (qU (xw hr) (kg (f:="worths") (pv 0) rfl) (zZ (za (zL z6 (pv 1) (zd (i:=1)) (fun _ _=>rfl)) (za (vd (pv 0) T.cl_Doing T.me_Doing_worth_of (FnOk.mono (yj T) (by decide)) hr T.b_Doing_worth_of .nil vR (za (zL z6 (pv 1) (zd (i:=2)) (fun _ _=>rfl)) ze)) ze))) (zd (i:=0)) ⟨rfl,rfl,rfl,rfl⟩) rfl))
   (zg (zO (zt yp (zL z6 (pv 1) (zd (i:=0)) (fun _ _=>rfl)) (zw (x:="give")) (zC _)) (zh (zI (i:=2) sc_Doing_does.nd rfl (Or.inl rfl) (zZ (za (zL z6 (pv 1) (zd (i:=1)) (fun _ _=>rfl)) (za (vd (pv 0) T.cl_Doing T.me_Doing_worth_of (FnOk.mono (yj T) (by decide)) hr T.b_Doing_worth_of .nil vR (za (zL z6 (pv 1) (zd (i:=2)) (fun _ _=>rfl)) ze)) ze))))
  (zg (vQ (xw hr) (kg (f:="worths") (pv 0) rfl) (pv 2) (vd (pv 0) T.cl_Doing T.me_Doing_worth_of (FnOk.mono (yj T) (by decide)) hr T.b_Doing_worth_of .nil vR (za (zL z6 (pv 1) (zd (i:=3)) (fun _ _=>rfl)) ze)) rfl)))
   (zg (zO (zt yp (zL z6 (pv 1) (zd (i:=0)) (fun _ _=>rfl)) (zw (x:="let")) (zC _)) (zg (vQ (xw hr) (kg (f:="slots") (pv 0) rfl) (zL z6 (pv 1) (zd (i:=1)) (fun _ _=>rfl)) (vd (pv 0) T.cl_Doing T.me_Doing_worth_of (FnOk.mono (yj T) (by decide)) hr T.b_Doing_worth_of .nil vR (za (zL z6 (pv 1) (zd (i:=2)) (fun _ _=>rfl)) ze)) rfl))
   (zg (yU (jg F.plainAttrs_list F.slot_list_append F.type_list_append yr (kg (f:="sayings") (pv 0) rfl) (za (vd (pv 0) T.cl_Doing T.me_Doing_worth_of (FnOk.mono (yj T) (by decide)) hr T.b_Doing_worth_of .nil vR (za (zL z6 (pv 1) (zd (i:=1)) (fun _ _=>rfl)) ze)) ze)))))))))),Y1 (doF T) h1 h2 h3 h4 h5 h6 q1 q2⟩
theorem j8 (T:Txt K mg t):∀ n,FnOk P w K mg base (CX1 P w) (7 + n) t.a_Doing_goes_through t.d_Doing_goes_through ["self","rows"] (yb t n):=by
 intro n
 induction n with
 | zero=>exact ⟨fun vs H Q E h=>(ww h).elim,fun A outer s H args us vs Q E hr he hb hv h=>(ww h).elim⟩
 | succ n IH =>
 refine T.f_Doing_goes_through.ok1 sc_Doing_goes_through (k:=7 + n) (fun vs H Q E h=>?_) (fun cdv A outer s H vs Q E hr h=>?_)
 ·obtain ⟨x,l,xs,rws,m,H0,dx,sl,wo,sa,s0,rfl,_⟩:=h;rfl
 obtain ⟨x,l,xs,rws,m,H0,dx,sl,wo,sa,s0,rfl,h1,h2,h3,h4,h5,h6,h7,q1,q2,q3⟩:=h
 exact ⟨xu K t n E,(zh (vm zcJ rfl (qN (pv 1)) (yV (i:=2) sc_Doing_goes_through.nd rfl (Or.inl rfl)) (zg (zO (zt yp (zL z6 (pv 2) (zd (i:=0)) (fun _ _=>rfl)) (zw (x:="off")) (zC _)) (zg (zO (zt XA (vd (pv 0) T.cl_Doing T.me_Doing_worth_of (FnOk.mono (yj T) (by lia)) hr T.b_Doing_worth_of .nil vR (za (zL z6 (pv 2) (zd (i:=1)) (fun _ _=>rfl)) ze)) (zd (i:=0)) (zC _)) (zg (zy (vO (b:=false))))
   zJ))
   (zg (zO (zt yp (zL z6 (pv 2) (zd (i:=0)) (fun _ _=>rfl)) (zw (x:="if")) (zC _)) (zg (zO (ka (xL (vd (pv 0) T.cl_Doing T.me_Doing_goes_through (FnOk.mono IH (by lia)) hr T.b_Doing_goes_through .nil vR (za (kc (zt XA (vd (pv 0) T.cl_Doing T.me_Doing_worth_of (FnOk.mono (yj T) (by lia)) hr T.b_Doing_worth_of .nil vR (za (zL z6 (pv 2) (zd (i:=1)) (fun _ _=>rfl)) ze)) (zd (i:=0)) (zC _)) (zL z6 (pv 2) (zd (i:=2)) (fun _ _=>rfl)) (zL z6 (pv 2) (zd (i:=3)) (fun _ _=>rfl))) ze)))) (zg (zy (vO (b:=false))))
   zJ))
   (zg (yU (vd (pv 0) T.cl_Doing T.me_Doing_does (FnOk.mono (Xu T) (by lia)) hr T.b_Doing_does .nil vR (za (pv 2) ze)))))))))
  (zg (zy (vO (b:=true))))),jO (doF T) h1 h2 h3 h4 h5 h6 h7 q1 q2 q3⟩
theorem vK (T:Txt K mg t):FnOkH P w K mg base 1 t.a_broken_off t.d_broken_off ["why","table"] (yP):=by
 refine T.f_broken_off.okH Xi (fun vs H Q E h=>?_) (fun cdv A outer s H vs Q E hr h=>?_)
 ·obtain ⟨w,a,tab,rfl,_⟩:=h;rfl
 obtain ⟨w,a,tab,rfl,h1,q⟩:=h
 exact ⟨jb K t,(zg (zy (zZ (za (zZ (za (zw (x:="off")) (za (pv 0) ze))) (za (yG qS rfl T.b_list ZY (za (pv 1) ze)) ze))))),Y2 h1 q⟩
theorem Xv (T:Txt K mg t):FnOk P w K mg base (CX1 P w) 1 t.a_broken_off t.d_broken_off ["why","table"] (yP):=(vK T).toFn
theorem Je (T:Txt K mg t):FnOk P w K mg base (CX1 P w) 1 t.a_table_of t.d_table_of ["rows"] (ku):=by
 refine T.f_table_of.ok0 sc_table_of (fun vs H Q E h=>?_) (fun cdv A outer s H vs Q E hr h=>?_)
 ·obtain ⟨a,rows,rfl,_⟩:=h;rfl
 obtain ⟨a,rows,rfl,h1,h2,h3,q⟩:=h
 exact ⟨vW K t,(zh (zI (i:=1) sc_table_of.nd rfl (Or.inr rfl) (yG (wY rfl (hu3 hr)) rfl T.b_dict Wp (za (pv 0) ze)))
  (zg (zy (Wo rfl (osc:=zj xP) (N:=["rows","worths"]) (xs:=["place"]) (ix:=[1]) (by decide +kernel) (qN (yf (Wx rfl) rfl T.b_sorted Zq (za (pv 1) ze))) (fun _ _ _ _=>(yV (i:=0) (show List.Nodup (["place","worths"]:List Str) from (by decide +kernel)) rfl (Or.inl rfl) (.inr rfl))) (fun _ _ _ _=>(J1 (zt XA (wn (xw hr) (pv 1) (pv 0) (fun _ _=>rfl)) (zd (i:=0)) (zC _)))) (fun _ _ _ _=>(zZ (za (pv 0) (za (wn (xw hr) (pv 1) (pv 0) (fun _ _=>rfl)) ze)))))))),WL h1 h2 h3 q⟩
theorem zaF (T:Txt K mg t):FnOk P w K mg base (CX1 P w) 14 t.a_alone t.d_alone ["rows","table"] (YX):=by
 refine T.f_alone.ok0 sc_alone (fun vs H Q E h=>?_) (fun cdv A outer s H vs Q E hr h=>?_)
 ·obtain ⟨v,a,rws,tab,rfl,_⟩:=h;rfl
 obtain ⟨v,a,rws,tab,rfl,h1,h2,h3,q⟩:=h
 exact ⟨YY K t,(zh (zI (i:=2) sc_alone.nd rfl (Or.inl rfl) (zaO T.mk_Doing (FnOk.mono (Xt T) (by decide)) hr rfl T.g_Doing T.b_Doing_init .nil zB (za (pv 1) ze)))
  (zh (Q7 (And.intro rfl rfl) rfl (za0 (i:=3) sc_alone.nd rfl (Or.inl rfl) (Q6 (pv 2) T.cl_Doing T.me_Doing_goes_through (FnOk.mono (j8 T 6) (by decide)) hr T.b_Doing_goes_through (za (pv 0) ze))) rfl T.g_Great rfl T.g_Nought (fun _=>(zg (zy (Vz (FnOkH.mono (vK T) (by decide)) (zbN hr) rfl T.m_broken_off T.f_broken_off.kp T.b_broken_off (za (zw (x:="great")) (za (pv 1) ze)))))) (fun _=>(zg (zy (Vz (FnOkH.mono (vK T) (by decide)) (zbN hr) rfl T.m_broken_off T.f_broken_off.kp T.b_broken_off (za (zw (x:="nought")) (za (pv 1) ze)))))))
  (zh (zO (ka (xL (pv 3))) (zg (zy (zr (FnOk.mono (Xv T) (by decide)) hr rfl T.m_broken_off T.f_broken_off.kp T.b_broken_off .nil zB (za (zw (x:="told")) (za (pv 1) ze)))))
    zJ)
  (zg (zy (zZ (za (zZ (za (zw (x:="done")) (za (yG qf rfl T.b_tuple Yt (za (kg (f:="sayings") (pv 2) rfl) ze)) ze))) (za (zr (FnOk.mono (Je T) (by decide)) hr rfl T.m_table_of T.f_table_of.kp T.b_table_of .nil zB (za (yG (ZN rfl) rfl T.b_list ZY (za (VB (kg (f:="worths") (pv 2) rfl)) ze)) ze)) ze)))))))),K9 T h1 h2 h3 q⟩
theorem Xw (T:Txt K mg t):∀ n,FnOk P w K mg base (CX1 P w) (1 + n) t.a__law_plain t.d__law_plain ["found"] (xq n):=by
 intro n
 induction n with
 | zero=>exact ⟨fun vs H Q E h=>(kK h).elim,fun A outer s H args us vs Q E hr he hb hv h=>(kK h).elim⟩
 | succ n IH =>
 refine T.f__law_plain.ok0 sc__law_plain (k:=1 + n) (fun vs H Q E h=>?_) (fun cdv A outer s H vs Q E hr h=>?_)
 ·obtain ⟨v,rfl,_⟩:=h;rfl
 obtain ⟨v,rfl,h1,q⟩:=h
 exact ⟨jc K t n,(zh (zO (xL (yf X5 rfl T.b_isinstance yx (za (pv 0) (za (zZ (za (wO rfl T.b_list ZY rfl) (za (wO rfl T.b_tuple Yt rfl) ze))) ze)))) (zh (vm PassesOwn.never rfl (zco (pv 0)) (yV (i:=1) sc__law_plain.nd rfl (Or.inl rfl)) (zg (zO (ka (xL (zr (FnOk.mono IH (by lia)) hr rfl T.m__law_plain T.f__law_plain.kp T.b__law_plain .nil zB (za (pv 1) ze)))) (zg (zy (vO (b:=false))))
   zJ)))
  (zg (zy (vO (b:=true)))))
   zJ)
  (zg (zy (zb0 (yf X5 rfl T.b_isinstance yx (za (pv 0) (za (zZ (za (wO rfl T.b_int qt rfl) (za (wO rfl T.b_str Jr rfl) ze))) ze))) (zbZ (zb1 (yf ji rfl T.b_isinstance yx (za (pv 0) (za (wO rfl T.b_bool J2 rfl) ze))))))))),Y4 (kf K) h1 q⟩
theorem ok_law (T:Txt K mg t):FnOk P w K mg base (CX1 P w) 18 t.a_law t.d_law ["script"] (sp_law K):=by
 refine T.f_law.ok0 sc_law (fun vs H Q E h=>?_) (fun cdv A outer s H vs Q E hr h=>?_)
 ·obtain ⟨a,ns,rfl,_⟩:=h;rfl
 obtain ⟨a,ns,rfl,hS,hn,q⟩:=h
 exact ⟨JE K t,(zh (zI (i:=1) sc_law.nd rfl (Or.inl rfl) (zr (FnOk.mono (qm T) (by decide)) hr rfl T.m__law_names T.f__law_names.kp T.b__law_names .nil zB (za (zr (FnOk.mono (xK T) (by decide)) hr rfl T.m__law_cell_at T.f__law_cell_at.kp T.b__law_cell_at .nil zB (za (pv 0) (za (zd (i:=0)) ze))) (za (zd (i:=4)) ze))))
  (zh (zI (i:=2) sc_law.nd rfl (Or.inl rfl) (zr (FnOk.mono (qm T) (by decide)) hr rfl T.m__law_names T.f__law_names.kp T.b__law_names .nil zB (za (zr (FnOk.mono (xK T) (by decide)) hr rfl T.m__law_cell_at T.f__law_cell_at.kp T.b__law_cell_at .nil zB (za (pv 0) (za (zd (i:=1)) ze))) (za (zd (i:=3)) ze))))
  (zh (zI (i:=3) sc_law.nd rfl (Or.inl rfl) (zr (FnOk.mono (Xs T) (by decide)) hr rfl T.m__law_table T.f__law_table.kp T.b__law_table .nil zB (za (zr (FnOk.mono (xK T) (by decide)) hr rfl T.m__law_cell_at T.f__law_cell_at.kp T.b__law_cell_at .nil zB (za (pv 0) (za (zd (i:=2)) ze))) (za (pv 2) ze))))
  (zh (zI (i:=4) sc_law.nd rfl (Or.inl rfl) (zv ya (zd (i:=1)) (zv yh (zr (FnOk.mono (zF T) (by decide)) hr rfl T.m__law_draw T.f__law_draw.kp T.b__law_draw .nil zB (za (zr (FnOk.mono (xK T) (by decide)) hr rfl T.m__law_cell_at T.f__law_cell_at.kp T.b__law_cell_at .nil zB (za (pv 0) (za (zd (i:=0)) ze))) (za (zd (i:=200)) ze))) (zd (i:=16)))))
  (zh (zI (i:=5) sc_law.nd rfl (Or.inl rfl) (vn JV (pv 0) kP (vP (zd (i:=120)))))
  (zh (vm PassesOwn.never rfl (K7 rfl T.b_range (za (zd (i:=0)) (za (yf wk rfl T.b_len jB (za (pv 5) ze)) (za (pv 4) ze)))) (yV (i:=6) sc_law.nd rfl (Or.inl rfl)) (zh (zI (i:=7) sc_law.nd rfl (Or.inl rfl) (zr (FnOk.mono (WV T) (by decide)) hr rfl T.m__law_rows T.f__law_rows.kp T.b__law_rows .nil zB (za (vn JV (pv 5) (vP (pv 6)) (vP (zv ya (pv 6) (pv 4)))) (za (pv 1) (za (pv 2) ze)))))
  (zh (zI (i:=8) sc_law.nd rfl (Or.inl rfl) (zr (FnOk.mono (Xb T) (by decide)) hr rfl T.m__law_walked T.f__law_walked.kp T.b__law_walked .nil zB (za (pv 7) (za (pv 3) ze))))
  (zh (zI (i:=9) sc_law.nd rfl (Or.inl rfl) (zr (FnOk.mono (Xc T 6) (by decide)) hr rfl T.m__law_copied T.f__law_copied.kp T.b__law_copied .nil zB (za (pv 7) ze)))
  (zh (zI (i:=10) sc_law.nd rfl (Or.inl rfl) (yG qS rfl T.b_list ZY (za (pv 3) ze)))
  (zh (zI (i:=11) sc_law.nd rfl (Or.inl rfl) (zr (FnOk.mono (zaF T) (by decide)) hr rfl T.m_alone T.f_alone.kp T.b_alone .nil zB (za (pv 9) (za (pv 10) ze))))
  (zh (zO (PW.pt (JP (ka (xL (zr (FnOk.mono (Xw T 6) (by decide)) hr rfl T.m__law_plain T.f__law_plain.kp T.b__law_plain .nil zB (za (pv 11) ze)))) (Wd (zt (YJ (za4 hr)) (pv 11) (pv 8) (zC _))))) (zg (zy (vO (b:=false))))
    zJ)
  (zh (zO (PW.pt (JP (zt (YJ (za4 hr)) (pv 9) (pv 7) (zC _)) (Wd (zt (YJ (za4 hr)) (pv 10) (pv 3) (zC _))))) (zg (zy (vO (b:=false))))
    zJ)
  (zg (zI (i:=3) sc_law.nd rfl (Or.inl rfl) (zL z6 (pv 8) (zd (i:=1)) (fun _ _=>rfl))))))))))))
  (zg (zy (vO (b:=true)))))))))),zbE hS hn q⟩
end
end K23
open PySem PySem.W PyProof.Rows
namespace PySem.W.Fast
def tw17901690268495198346:Unit:=()
def tw1175367061570310912:Unit:=()
def tw3770994964769756623:Unit:=()
def tw7853557313284783468:Unit:=()
def tw4129583125102859510:Unit:=()
def tw14039577824750760845:Unit:=()
def tw14506339113826540712:Unit:=()
def tw1523566629537717134:Unit:=()
def tw15519962067030708121:Unit:=()
def tw1157203851011570067:Unit:=()
def tw11512731070951291712:Unit:=()
def tw3487939935891735089:Unit:=()
def tw12342379544600931997:Unit:=()
def tw3463911521515141466:Unit:=()
def tw3620786660434900890:Unit:=()
def tw13236479505043181494:Unit:=()
def tw13458239433201058367:Unit:=()
def tw1906041740936392189:Unit:=()
def tw10930128278095962602:Unit:=()
def tw12006188688676778254:Unit:=()
def tw4394070664405361875:Unit:=()
def tw9727973509151596737:Unit:=()
def tw2427869951595718015:Unit:=()
def tw8356198687922521848:Unit:=()
def tw16175660208776076516:Unit:=()
def tw2164674419252702708:Unit:=()
def tw2403759694121060357:Unit:=()
def tw18371873006864778090:Unit:=()
def tw8171939327021272863:Unit:=()
def tw4614346467927486186:Unit:=()
def tw11140404887517888534:Unit:=()
def tw14803681134229943796:Unit:=()
def tw12050154454000139449:Unit:=()
def tw12114603718828474057:Unit:=()
def tw1058332222418362265:Unit:=()
def tw15953262445492636781:Unit:=()
def tw16812114695804232511:Unit:=()
def tw10088445029173264917:Unit:=()
def tw10299592083677019975:Unit:=()
def tw6004228089152046463:Unit:=()
def tw12852555245704075965:Unit:=()
def tw1305971279629354950:Unit:=()
def tw15358485651081226073:Unit:=()
def tw223620982508908379:Unit:=()
def tw3725936052455174386:Unit:=()
def tw15005560623240890069:Unit:=()
def tw16001712707579874684:Unit:=()
def tw11192967845841328041:Unit:=()
def tw1895570043305315086:Unit:=()
def tw740086658986176901:Unit:=()
def tw2332878766311896052:Unit:=()
def tw15703839548749149870:Unit:=()
def tw5745117891868523827:Unit:=()
def tw8591550343619848724:Unit:=()
def tw7796980155408183583:Unit:=()
def tw9952894305057496780:Unit:=()
def tw16846828797891945470:Unit:=()
def tw2885387189195462791:Unit:=()
def tw9359000261449836205:Unit:=()
def tw8835508149291039808:Unit:=()
def tw16964481150424910046:Unit:=()
def tw9440526785135495441:Unit:=()
def tw1332539690126369241:Unit:=()
def tw12227303542313598619:Unit:=()
def tw4897432011041519654:Unit:=()
def tw7077209190596086900:Unit:=()
def tw4157983779096665236:Unit:=()
def tw12642458536043558062:Unit:=()
def tw14239657794163317823:Unit:=()
def tw9723186248954292239:Unit:=()
def tw7789128068326017305:Unit:=()
def tw18339960954158067521:Unit:=()
def tw5463488227783237777:Unit:=()
def tw9021976975324592854:Unit:=()
def tw16833140709951808514:Unit:=()
def tw14620157552028752424:Unit:=()
def tw5877018641800009755:Unit:=()
def tw15983981251505080183:Unit:=()
def tw16808228146686266419:Unit:=()
def tw7661485477202141505:Unit:=()
def tw15041578690780761111:Unit:=()
def tw9951293924449613212:Unit:=()
def tw2830016598209810236:Unit:=()
def tw15407061000159911733:Unit:=()
def tw195913593027716148:Unit:=()
def tw11902437471620050998:Unit:=()
def tw7708058646378738627:Unit:=()
def tw3457840633956770386:Unit:=()
def tw15251315183055483911:Unit:=()
def tw6527634563679943006:Unit:=()
def tw9163219790488580972:Unit:=()
def tw13918985623258630258:Unit:=()
def tw15563999715606545158:Unit:=()
def tw371342098492158041:Unit:=()
def tw4897949547862556250:Unit:=()
def tw11079604408165026347:Unit:=()
def tw17278576446307298159:Unit:=()
def tw9644476090393099529:Unit:=()
def tw18252302580546920131:Unit:=()
def tw6440298050421389766:Unit:=()
def tw9563019973976287962:Unit:=()
def tw15982980845953760525:Unit:=()
def tw8724122785171458998:Unit:=()
def tw7055609278407604958:Unit:=()
def tw3451123497325551172:Unit:=()
def tw17167740896980508023:Unit:=()
def tw5312182966283847539:Unit:=()
def tw12786141829166080696:Unit:=()
def tw5270722784044173762:Unit:=()
def tw7820039220191685165:Unit:=()
def tw15627400661773027061:Unit:=()
def tw12821823837341221024:Unit:=()
def tw1991935411420874820:Unit:=()
def tw3879310900398320895:Unit:=()
def tw8942993816124371913:Unit:=()
def tw17594703748524443850:Unit:=()
def tw14502573690906139307:Unit:=()
def tw16891595026795414968:Unit:=()
def tw3264627743653501498:Unit:=()
def tw15259217131358250885:Unit:=()
def tw12390180895062227488:Unit:=()
def tw3599816906092599423:Unit:=()
def tw10949803016123549971:Unit:=()
def tw12433631522157246868:Unit:=()
def tw13675127459253991961:Unit:=()
def tw15668243918416101310:Unit:=()
def tw18176880032278031391:Unit:=()
def tw4367008232343975915:Unit:=()
def tw2293747314102754232:Unit:=()
def tw16319698363810005240:Unit:=()
def tw1237426796803618962:Unit:=()
def tw10603626375345426728:Unit:=()
def tw10489841048631625943:Unit:=()
def tw4310689865656064051:Unit:=()
def tw11134493085031153329:Unit:=()
def tw4463951346243453422:Unit:=()
def tw5606378144955128615:Unit:=()
def tw4583535703464860465:Unit:=()
def tw9871652638957598669:Unit:=()
def tw12903210295307954037:Unit:=()
def tw3596723332652665954:Unit:=()
def tw7373677310480515123:Unit:=()
def tw6116053589031668685:Unit:=()
def tw8662980425816445786:Unit:=()
def tw10963366693292559165:Unit:=()
def tw5478267290943997490:Unit:=()
def tw11954516491256927223:Unit:=()
def tw17206337943515625349:Unit:=()
def tw18169982864729061212:Unit:=()
def tw10012125283831202285:Unit:=()
def tw5150149108749977485:Unit:=()
def tw10877811383727414705:Unit:=()
def tw18421478407748716607:Unit:=()
def tw8645356729158847674:Unit:=()
def tw2598499983420520058:Unit:=()
def tw4204751453743118866:Unit:=()
def tw16592147831881525694:Unit:=()
def tw2760877056384979120:Unit:=()
def tw13419557951363124858:Unit:=()
def tw14019945358004229021:Unit:=()
def tw13288926331079238466:Unit:=()
def tw8159851532069745977:Unit:=()
def tw18349740856943914078:Unit:=()
def tw12490595117323849189:Unit:=()
def tw11315083397909969187:Unit:=()
def tw6530110385082687519:Unit:=()
def tw8478879519494571666:Unit:=()
def tw3326016215401760131:Unit:=()
def tw11920757525613154250:Unit:=()
def tw222614938527843335:Unit:=()
def tw15477195067123748610:Unit:=()
def tw15136770381508963807:Unit:=()
def tw5382568815371157448:Unit:=()
def tw1550827974337556567:Unit:=()
def tw14241727264001662880:Unit:=()
def tw11219776340312798389:Unit:=()
def tw11312941355544953482:Unit:=()
def tw10315911338443538176:Unit:=()
def tw7027854738780797212:Unit:=()
def tw15693078676311099192:Unit:=()
def tw7546559875168768476:Unit:=()
def tw5561149557957260196:Unit:=()
def tw3323429622621311215:Unit:=()
def tw15109437234076255932:Unit:=()
def tw18000181143016043530:Unit:=()
def tw11065982965120155888:Unit:=()
def tw7145405238897027105:Unit:=()
def tw15114681567949194494:Unit:=()
def tw12179043736954656914:Unit:=()
def tw16472240959724074878:Unit:=()
def tw4231459491533323177:Unit:=()
def tw9795176116623626938:Unit:=()
def tw12158334159076514344:Unit:=()
def tw1690416852489767508:Unit:=()
def tw2526514542716111012:Unit:=()
def tw5322583800246693209:Unit:=()
def tw9119498857464092217:Unit:=()
def tw1897251931021303132:Unit:=()
def tw6898162633862324249:Unit:=()
def tw17052682941194441633:Unit:=()
def tw13192238766320624233:Unit:=()
def tw3855067799931666132:Unit:=()
def tw1528639501070756851:Unit:=()
def tw12408731474511390030:Unit:=()
def tw8266765321480525066:Unit:=()
def tw12110469134197254782:Unit:=()
def tw8635194254980720929:Unit:=()
def tw8928028206885058076:Unit:=()
def tw280278188099453670:Unit:=()
def tw2762356697029293446:Unit:=()
def tw8974850487500158324:Unit:=()
def tw13703779562944231080:Unit:=()
def tw1342574128207745643:Unit:=()
def tw8905733209631080257:Unit:=()
def tw1657841660889369680:Unit:=()
def tw16673400845616637669:Unit:=()
def tw8200319837669846630:Unit:=()
def tw5485519938709326777:Unit:=()
def tw17524297454730684844:Unit:=()
def tw3024877632047678806:Unit:=()
def tw9160253915812523664:Unit:=()
def tw5750007817027647507:Unit:=()
def tw4899878655500362347:Unit:=()
def tw11584913222786204467:Unit:=()
def tw3775258894397364778:Unit:=()
def tw8550880139131686326:Unit:=()
def tw7570313355734072223:Unit:=()
def tw18240668789752892007:Unit:=()
def tw2372749904998282789:Unit:=()
def tw15360818227660867426:Unit:=()
def tw5758893246776501047:Unit:=()
def tw2843941082397068045:Unit:=()
def tw6508645980553387158:Unit:=()
def tw2423154475329833945:Unit:=()
def tw1171097288431527270:Unit:=()
def tw17866585498111728079:Unit:=()
def tw4238732058575702472:Unit:=()
def tw17943453333689064134:Unit:=()
def tw13958452400001870493:Unit:=()
def tw12843208721155197891:Unit:=()
def tw3209884853341937550:Unit:=()
def tw16376642985483070714:Unit:=()
def tw7762716354191766446:Unit:=()
def tw13245845469297557814:Unit:=()
def tw17348710564047767804:Unit:=()
def tw6312292358111516086:Unit:=()
def tw1753403095304834921:Unit:=()
def tw5258636244912223056:Unit:=()
def tw11944402285501232985:Unit:=()
def tw13084005533621112817:Unit:=()
def tw5087472303496469036:Unit:=()
def tw15314867140943279789:Unit:=()
def tw11653038641188647871:Unit:=()
def tw11531898663430153031:Unit:=()
def tw2712987257779316240:Unit:=()
def tw1526477359247322547:Unit:=()
def tw10368575026876117204:Unit:=()
def tw5949127418729187956:Unit:=()
def tw1208855137377847856:Unit:=()
def tw8915540358031614752:Unit:=()
def tw12048864424031637407:Unit:=()
def tw14082738757297889581:Unit:=()
def tw8813409867928075265:Unit:=()
def tw12496086847987202198:Unit:=()
def tw254535544912173956:Unit:=()
end PySem.W.Fast
set_option maxRecDepth 100000 in
set_option maxHeartbeats 0 in
theorem PySem.Challenge.cw_forerun_k23_whole_rows_done_holds : PySem.Challenge.rw_forerun_k23_whole_rows_done.Holds := by
 w_on; o_law; k_head; (case hw => w_witness2)
 k_fill
 refine L2.walk_ofX (l := PySem.Challenge.rw_forerun_k23_whole_rows_done) (n := 63) (k := 18) (x := "script") (sp := K23.sp_law) rfl (by decide) rfl ⟨rfl, by decide, by decide⟩ (fun w h Y => PySem.W.kIn_of Y) ?F ?S
 case F =>
  intro w mg fa h KX G hmg
  have T : ∃ t, K23.Txt (L2.KOf KX) mg t := by
   dsimp only [L2.KOf]
   refine' K23.txt_mk KX G ?qa0 ?ql0 ?qc0 ?qk0 ?qa1 ?ql1 ?qc1 ?qk1 ?qa2 ?ql2 ?qc2 ?qk2 ?qa3 ?ql3 ?qc3 ?qk3 ?qa4 ?ql4 ?qc4 ?qk4 ?qa5 ?ql5 ?qc5 ?qk5 ?qa6 ?ql6 ?qc6 ?qk6 ?qa7 ?ql7 ?qc7 ?qk7 ?qa8 ?ql8 ?qc8 ?qk8 ?qa9 ?ql9 ?qc9 ?qk9 ?qa10 ?ql10 ?qc10 ?qk10 ?qa11 ?ql11 ?qc11 ?qk11 ?qa12 ?ql12 ?qc12 ?qk12 ?qa13 ?ql13 ?qc13 ?qk13 ?qa14 ?ql14 ?qc14 ?qk14 ?qa15 ?ql15 ?qc15 ?qk15 ?qa16 ?ql16 ?qc16 ?qk16 ?qa17 ?ql17 ?qc17 ?qk17 ?qa18 ?qi18 ?ql18 ?qc18 ?qk18 ?qa19 ?ql19 ?qc19 ?qk19 ?qa20 ?ql20 ?qc20 ?qk20 ?qa21 ?ql21 ?qc21 ?qk21 ?qa22 ?ql22 ?qc22 ?qk22 ?qa23 ?ql23 ?qc23 ?qk23 ?qa24 ?qi24 ?ql24 ?qc24 ?qk24 ?qa25 ?qi25 ?ql25 ?qc25 ?qk25 ?qa26 ?qi26 ?ql26 ?qc26 ?qk26 ?qa27 ?ql27 ?qc27 ?qk27 ?qa28 ?ql28 ?qc28 ?qk28 ?qa29 ?ql29 ?qc29 ?qk29 ?qa30 ?ql30 ?qc30 ?qk30 ?qa31 ?ql31 ?qc31 ?qk31 ?qz0 ?qz1 ?qz2 ?qz3 ?qz4 ?qz5 ?qz6 ?qz7 ?qz8 ?qz9 ?qg0 ?qh0 ?qv0 ?qv1 ?qv2 ?pg0 ?pd0 ?po0 ?pe0 ?pm0_ ?pk0 ?pn0_0 ?pn0_1 ?pn0_2 ?rx0 ?ry0_0 ?ry0_1 ?ry0_2 ?ry0_3 ?ry0_4 ?ry0_5 ?ry0_6 ?ry0_7 ?re0_0 ?re0_1 ?rx1 ?ry1_0 ?ry1_1 ?ry1_2 ?ry1_3 ?ry1_4 ?ry1_5 ?ry1_6 ?ry1_7 ?re1_0 ?re1_1
   (case qv0 => k_is)
   (case qv1 => k_is)
   (case qv2 => k_is)
   (case qa0 => k_is)
   (case ql0 => k_is)
   (case qc0 => k_is)
   (case qk0 => k_is)
   (case qa1 => k_is)
   (case ql1 => k_is)
   (case qc1 => k_is)
   (case qk1 => k_is)
   (case qa2 => k_is)
   (case ql2 => k_is)
   (case qc2 => k_is)
   (case qk2 => k_is)
   (case qa3 => k_is)
   (case ql3 => k_is)
   (case qc3 => k_is)
   (case qk3 => k_is)
   (case qa4 => k_is)
   (case ql4 => k_is)
   (case qc4 => k_is)
   (case qk4 => k_is)
   (case qa5 => k_is)
   (case ql5 => k_is)
   (case qc5 => k_is)
   (case qk5 => k_is)
   (case qa6 => k_is)
   (case ql6 => k_is)
   (case qc6 => k_is)
   (case qk6 => k_is)
   (case qa7 => k_is)
   (case ql7 => k_is)
   (case qc7 => k_is)
   (case qk7 => k_is)
   (case qa8 => k_is)
   (case ql8 => k_is)
   (case qc8 => k_is)
   (case qk8 => k_is)
   (case qa9 => k_is)
   (case ql9 => k_is)
   (case qc9 => k_is)
   (case qk9 => k_is)
   (case qa10 => k_is)
   (case ql10 => k_is)
   (case qc10 => k_is)
   (case qk10 => k_is)
   (case qa11 => k_is)
   (case ql11 => k_is)
   (case qc11 => k_is)
   (case qk11 => k_is)
   (case qa12 => k_is)
   (case ql12 => k_is)
   (case qc12 => k_is)
   (case qk12 => k_is)
   (case qa13 => k_is)
   (case ql13 => k_is)
   (case qc13 => k_is)
   (case qk13 => k_is)
   (case qa14 => k_is)
   (case ql14 => k_is)
   (case qc14 => k_is)
   (case qk14 => k_is)
   (case qa15 => k_is)
   (case ql15 => k_is)
   (case qc15 => k_is)
   (case qk15 => k_is)
   (case qa16 => k_is)
   (case ql16 => k_is)
   (case qc16 => k_is)
   (case qk16 => k_is)
   (case qa17 => k_is)
   (case ql17 => k_is)
   (case qc17 => k_is)
   (case qk17 => k_is)
   (case qa18 => k_is)
   (case qi18 => k_is)
   (case ql18 => k_is)
   (case qc18 => k_is)
   (case qk18 => k_is)
   (case qa19 => k_is)
   (case ql19 => k_is)
   (case qc19 => k_is)
   (case qk19 => k_is)
   (case qa20 => k_is)
   (case ql20 => k_is)
   (case qc20 => k_is)
   (case qk20 => k_is)
   (case qa21 => k_is)
   (case ql21 => k_is)
   (case qc21 => k_is)
   (case qk21 => k_is)
   (case qa22 => k_is)
   (case ql22 => k_is)
   (case qc22 => k_is)
   (case qk22 => k_is)
   (case qa23 => k_is)
   (case ql23 => k_is)
   (case qc23 => k_is)
   (case qk23 => k_is)
   (case qa24 => k_is)
   (case qi24 => k_is)
   (case ql24 => k_is)
   (case qc24 => k_is)
   (case qk24 => k_is)
   (case qa25 => k_is)
   (case qi25 => k_is)
   (case ql25 => k_is)
   (case qc25 => k_is)
   (case qk25 => k_is)
   (case qa26 => k_is)
   (case qi26 => k_is)
   (case ql26 => k_is)
   (case qc26 => k_is)
   (case qk26 => k_is)
   (case qa27 => k_is)
   (case ql27 => k_is)
   (case qc27 => k_is)
   (case qk27 => k_is)
   (case qa28 => k_is)
   (case ql28 => k_is)
   (case qc28 => k_is)
   (case qk28 => k_is)
   (case qa29 => k_is)
   (case ql29 => k_is)
   (case qc29 => k_is)
   (case qk29 => k_is)
   (case qa30 => k_is)
   (case ql30 => k_is)
   (case qc30 => k_is)
   (case qk30 => k_is)
   (case qa31 => k_is)
   (case ql31 => k_is)
   (case qc31 => k_is)
   (case qk31 => k_is)
   (case qz0 => k_is)
   (case qz1 => k_is)
   (case qz2 => k_is)
   (case qz3 => k_is)
   (case qz4 => k_is)
   (case qz5 => k_is)
   (case qz6 => k_is)
   (case qz7 => k_is)
   (case qz8 => k_is)
   (case qz9 => k_is)
   (case qg0 => k_is)
   (case qh0 => k_is)
   (case pg0 => k_is)
   (case pd0 => k_is)
   (case po0 => k_is)
   (case pe0 => k_is)
   (case pm0_ => k_is)
   (case pk0 => k_is)
   (case pn0_0 => k_is)
   (case pn0_1 => k_is)
   (case pn0_2 => k_is)
   (case rx0 => k_exc)
   (case ry0_0 => k_is)
   (case ry0_1 => k_is)
   (case ry0_2 => k_is)
   (case ry0_3 => k_is)
   (case ry0_4 => k_is)
   (case ry0_5 => k_is)
   (case ry0_6 => k_is)
   (case ry0_7 => k_is)
   (case re0_0 => kernel_rfl)
   (case re0_1 => kernel_rfl)
   (case rx1 => k_exc)
   (case ry1_0 => k_is)
   (case ry1_1 => k_is)
   (case ry1_2 => k_is)
   (case ry1_3 => k_is)
   (case ry1_4 => k_is)
   (case ry1_5 => k_is)
   (case ry1_6 => k_is)
   (case ry1_7 => k_is)
   (case re1_0 => kernel_rfl)
   (case re1_1 => kernel_rfl)
  obtain ⟨t, T⟩ := T
  have e0 := hmg.symm.trans T.m_law
  cases e0
  exact ⟨_, T.w_law, fun base _ _ => K23.ok_law T⟩
 case S => exact fun K H a ns hl _ hS => ⟨a, ns, rfl, hS, hl, fun _ => rfl⟩
